import PyProof.Rows.All
import Wide.All
import OpenK.AllK
import Wide.FinOn
import Lean
import PyProof.EqAt
import PyProof.EqKinds
import PyProof.TupleCall
import PyProof.StationsW
import PyProof.ExcClass3
import PyProof.RulesTry
import PyProof.RulesAs
import PyProof.NsDelKeeps
import PyProof.ExcInit
import PyProof.ExcArgsOwn
import PyProof.Rows.SetFrom
import PyProof.SetRoads
import KE.KDictSum
import PyProof.DictCompW
import KE.KEqDict
import KE.KxText
import PyProof.WalksEnum
import PyProof.EnumMake
import KE.KDictLaws
import PyProof.ReprBulk
import PyProof.Rows.ReprShort
import KE.KRevSl
import PyProof.Rows.StrRev
import PyProof.Rows.StrSplitMax
import KE.KIntText
import PyProof.AttrMissHeap
import KE.KDictOf
import PyProof.ZipIter
import PyProof.ListRange
import KE.KUnpackStar
import PyProof.Rows.StrNews2
import PyProof.Rows.StrItems
import PyProof.Rows.SortStr
import PyProof.StrLawsTight
import PyProof.StrLawsChain
import PyProof.Rows.StrPartPair
import PyProof.Rows.ReprOcc
import PySem.Challenge.RW_keyrooms_k54_orders_gone_at_the_desk
set_option Elab.async false
set_option linter.all false
set_option maxRecDepth 100000
set_option maxHeartbeats 4000000
open PySem.W (instObj methodObj hideAll lookIn InstAt plainGet hasDictIn findIn handedIn isFn plainOver takerIn set_plain makesIn typeIn emptyDict keepIn specialIn takesIn mroIn kitOne kitx_list kitx_dict callWith_K0 fnOf codeIn Looks readsIn findCls kitAny nsOkIn tailIn nsIn kitCls subIn clsIn tail_of_in)
def aeS:=@List.getElem?_eq_getElem
def aeT:=@List.length_map
def aeU:=@PySem.wpAny_bind
def aeV:=@List.length_append
def aeW:=@List.mem_cons_of_mem
def aeX:=@List.mem_cons_self
def aeY:=@List.mem_cons
def aeZ:=@List.getElem?_eq_some_iff
def ae0:=@PySem.Heap.get?_push_of_some
def ae1:=@List.mem_singleton
def ae2:=@Bool.false_ne_true
def ae3:=@PySem.wpAny_pure
def ae4:=@Nat.le_refl
def ae5:=@List.append_assoc
def ae6:=@PyProof.Rows.wpS_bind
def ae7:=@List.size_toArray
def ae8:=@List.mem_append_right
def ae9:=@Nat.lt_of_lt_of_le
def afa:=@PyProof.Rows.wpS_pure
def afb:=@PySem.Heap.lt_size
def afc:=@List.mem_append
def afd:=@Array.length_toList
def afe:=@List.map_append
def aff:=@List.getElem?_append_right
def afg:=@List.getElem?_map
def afh:=@Nat.zero_le
def afi:=@PySem.F.plainAttrs_str
def afj:=@beq_iff_eq
def afk:=@PySem.F.plainAttrs_list
def afl:=@List.map_cons
def afm:=@decide_eq_true
def afn:=@List.length_cons
def afo:=@PySem.Heap.get?_push_size
def afp:=@List.getElem?_append_left
def afq:=@Nat.ne_of_lt
def afr:=@PySem.boot_len
def afs:=@List.length_take
def aft:=@List.length_replicate
def afu:=@Int.toNat_natCast
def afv:=@decide_eq_false
def afw:=@PySem.W.mg_of
def afx:=@Bool.and_eq_true
def afy:=@List.take_append_drop
def afz:=@List.getElem_mem
def afA:=@List.mem_append_left
def afB:=@PySem.W.mg_none_of
def afC:=@Nat.le_trans
def afD:=@List.append_nil
def afE:=@PySem.F.slot_str_join
def afF:=@PySem.F.type_str_join
def afG:=@List.pairwise_append
def afH:=@congrArg
def afI:=@List.take_of_length_le
def afJ:=@PySem.wpAny_holding
def afK:=@List.take_length
def afL:=@List.not_mem_nil
def afM:=@Array.getElem?_toList
def afN:=@PyProof.Rows.wpS_forRange
def afO:=@List.mem_iff_getElem?
def afP:=@Option.some.inj
def afQ:=@PySem.wpAny_typeOf_ref
def afR:=@PySem.wpAny_ite_false
def afS:=@PySem.PassesOwn.never
def afT:=@PySem.wpAny_truthy_bool
def afU:=@List.drop_eq_getElem_cons
def afV:=@List.drop_zero
def afW:=@List.take_add_one
def afX:=@PySem.W.hideAll_none
def afY:=@List.mem_of_getElem?
def afZ:=@PySem.F.slot_list_append
def af0:=@PySem.F.type_list_append
def af1:=@PySem.W.kia_one
def af2:=@List.length_drop
def af3:=@List.cons_append
def af4:=@of_decide_eq_true
def af5:=@List.mem_of_mem_drop
def af6:=@PySem.wpAny_mono
def af7:=@List.extract_eq_take_drop
def af8:=@Bool.false_eq_true
def af9:=@List.mem_of_mem_take
def aga:=@Array.getElem?_eq_some_iff
def agb:=@List.Perm.append_left
def agc:=@PySem.wpAny_Call_Name_kw
def agd:=@List.pairwise_cons
def age:=@Nat.eq_zero_or_pos
def agf:=@List.all_eq_true
def agg:=@List.take_append_of_le_length
def agh:=@Array.toList_extract
def agi:=@List.length_eq_zero_iff
def agj:=@List.flatten_cons
def agk:=@List.filterMap_cons
def agl:=@PyProof.Rows.callWith_type1
def agm:=@List.nil_append
def agn:=@Nat.min_eq_left
def ago:=@List.length_pos_iff
def agp:=@List.Perm.append_right
def agq:=@List.flatten_singleton
def agr:=@Array.perm_iff_toList_perm
def ags:=@PySem.F.excBase_ValueError
def agt:=@PySem.call_meets
def agu:=@Nat.lt_irrefl
def agv:=@PySem.W.of_hideAll
def agw:=@PySem.W.methodCall_KW
def agx:=@PySem.W.callWith_K
def agy:=@PyProof.Rows.wpS_mono
def agz:=@List.perm_append_comm
def agA:=@Nat.sub_self
def agB:=@decide_eq_true_iff
def agC:=@List.sum_cons
def agD:=@List.replicate_succ'
def agE:=@List.getElem?_take_of_lt
def agF:=@List.eraseIdxIfInBounds_toArray
def agG:=@Array.size_append
def agH:=@PyProof.Rows.KeyOrd.kle_refl
def agI:=@Bool.eq_false_iff
def agJ:=@PySem.W.hideAll_get
def agK:=@Nat.le_succ
def agL:=@PySem.mem_of_lookup
def agM:=@List.replicate_succ
def agN:=@List.eraseIdx_cons_succ
def agO:=@PySem.wpAny_getItem_str_slice
def agP:=@PySem.F.slot_list_count
def agQ:=@List.flatten_append
def agR:=@PyProof.Rows.KeyOrd.kle_trans
def agS:=@List.drop_append_of_le_length
def agT:=@PyProof.Rows.wpS_modify
def agU:=@List.getElem?_set_self
def agV:=@PySem.Heap.get?_update_of_ne
def agW:=@List.drop_of_length_le
def agX:=@Nat.lt_of_le_of_lt
def agY:=@Int.emod_lt_of_pos
def agZ:=@Int.natAbs_natCast
def ag0:=@Nat.le_of_lt
def ag1:=@Ne.symm
def ag2:=@PySem.Heap.get?_update_self
def ag3:=@PyProof.Rows.boot_sorted
def ag4:=@List.length_filter_le
def ag5:=@List.all_cons
def ag6:=@PyProof.Rows.KeyOrd.kle_of_klt
def ag7:=@PySem.F.store_object
def ag8:=@PySem.codeAny_call_builtin_code
def ag9:=@List.pairwise_iff_getElem
def aha:=@List.drop_drop
def ahb:=@List.take_left
def ahc:=@or_false
def ahd:=@beq_eq_false_iff_ne
def ahe:=@PySem.wpAny_call
def ahf:=@PySem.codeAny_mono
def ahg:=@PySem.typeIs_str
def ahh:=@List.map_map
def ahi:=@List.mem_filter
def ahj:=@PySem.wpAny_standAt
def ahk:=@PySem.wpAny_passesOwn
def ahl:=@PySem.Calls.spliced_cons
def ahm:=@List.getElem?_replicate
def ahn:=@List.foldl_cons
def aho:=@List.contains_cons
def ahp:=@PySem.post_val_or_str
def ahq:=@of_decide_eq_false
def ahr:=@PySem.wpAny_Constant_str
def ahs:=@Int.emod_nonneg
def aht:=@PySem.F.type_list_count
def ahu:=@List.filter_append
def ahv:=@PySem.Calls.callWith_builtin
def ahw:=@PySem.F.slot_str_split
def ahx:=@PySem.F.type_str_split
def ahy:=@List.sum_replicate_nat
def ahz:=@PySem.plainObj_wpAny_Assign_Attribute
def ahA:=@PySem.wpAny_loadPart_at
def ahB:=@List.length_range
def ahC:=@List.mem_range
def ahD:=@PySem.Heap.size_push
def ahE:=@List.take_take
def ahF:=@List.take_zero
def ahG:=@List.drop_left
def ahH:=@PyProof.Rows.callWith_builtin1
def ahI:=@List.length_singleton
def ahJ:=@PySem.F.slot_list_pop
def ahK:=@PySem.F.type_list_pop
def ahL:=@List.getElem?_eq_none
def ahM:=@List.lookup_cons
def ahN:=@List.filter_cons
def ahO:=@PySem.StrLaws.seqIndex_nonneg
def ahP:=@PySem.Heap.get?_none_of_le
def ahQ:=@List.getElem?_set_ne
def ahR:=@Array.mem_toList_iff
def ahS:=@PySem.Calls.evalArgs_plain
def ahT:=@List.mem_iff_getElem
def ahU:=@if_false
def ahV:=@PySem.wpAny_rule
def ahW:=@PySem.wpAny_execs_nil
def ahX:=@Bool.eq_iff_iff
def ahY:=@PySem.W.plainGet_of
def ahZ:=@List.nodup_cons
def ah0:=@Nat.add_le_add_left
def ah1:=@List.find?_cons
def ah2:=@Nat.log2_lt
def ah3:=@PyProof.Rows.wpS_get
def ah4:=@List.drop_length_add_append
def ah5:=@List.range_succ
def ah7:=@List.getElem?_take_eq_none
def ah8:=@PySem.F.slot_str_partition
def ah9:=@PySem.F.type_str_partition
def aia:=@List.getElem?_drop
def aib:=@PySem.F.args_str_split_2
def aic:=@Nat.add_zero
def aid:=@List.getElem?_take
def aie:=@List.map_replicate
def aif:=@PySem.wpAny_loadPart
def aih:=@PySem.wpAny_ite_true
def aii:=@List.take_succ
def aij:=@PySem.wpAny_pyIter_list
def aik:=@PySem.Calls.spliced_nil
def ail:=@PySem.slot_list_getitem
def aio:=@PySem.F.slot_str_replace
def aip:=@PySem.F.entry_str_split
def aiq:=@List.getElem_take
def air:=@List.getElem_drop
def ais:=@List.ext_getElem?
def ait:=@List.map_dropLast
def aiu:=@List.foldl_append
def aiv:=@PySem.F.slot_list_remove
def aiw:=@PySem.F.type_list_remove
def aix:=@List.any_cons
def aiy:=@PySem.F.slot_list_index
def aiz:=@List.map_take
def aiA:=@List.pairwise_singleton
def aiB:=@beq_self_eq_true
def aiC:=@PySem.F.slot_str_split
def aiD:=@PySem.Heap.size_update
def aiF:=@PySem.W.cellsFrom_some
def aiM:=@List.of_mem_zip
def aiN:=@List.length_set
def aiO:=@if_true
def aiP:=@PySem.wpAny_specialOf
def aiQ:=@List.forIn_cons
def aiR:=@Bool.or_true
def aiS:=@PySem.Txt.slice_le
def aiT:=@PySem.codeAny_builtin
def aiU:=@beq_false_of_ne
def aiV:=@List.Pairwise.sublist
def aiW:=@List.singleton_append
def aiY:=@Nat.zero_add
def aiZ:=@Array.mem_of_getElem?
def ai0:=@Nat.sub_zero
def ai1:=@List.mem_map
def ai3:=@List.mem_of_mem_erase
def ai4:=@List.dropLast_eq_take
def ai5:=@List.sum_append
def ai6:=@PySem.W.tailIn.eq_def
def ajD:=@Bool.true_and
def ajE:=@Bool.and_self
def aj3:=@Nat.ne_of_gt
def aj4:=@Nat.le_of_eq
def aj6:=@List.all_map
namespace L2
open PySem PySem.Spec PyProof.Rows
abbrev Key:=Sum Int Str
def ud:Key->Value->Bool
 | .inl k,v=>Value.isInt k v
 | .inr x,v=>Value.isStrOf x v
def aev (w:World):Key->Int
 | .inl k=>hashInt k
 | .inr x=>hashStr w x
theorem bX:∀ {k:Key} {v:Value},ud k v=true->(∃ i t,k=Sum.inl i/\v=Value.int i t)\/(∃ x t,k=Sum.inr x/\v=Value.str x t)
 | .inl i,v,h=>by
  obtain⟨t,e⟩:=Value.isInt_shape (k:=i) (v:=v) h;exact .inl ⟨i,t,rfl,e⟩
 | .inr x,v,h=>by
  obtain⟨t,e⟩:=Value.isStrOf_shape (x:=x) (v:=v) h;exact .inr ⟨x,t,rfl,e⟩
theorem xn (i:Int)(t:Tok):ud (.inl i) (.int i t)=true:=by simp [ud,Value.isInt]
theorem xw (x:Str)(t:Tok):ud (.inr x) (.str x t)=true:=by simp [ud,Value.isStrOf]
theorem acW (a b:Int):decide ((Sum.inl a:Key)=Sum.inl b)=(a == b):=by
 by_cases e:a=b
 ·subst e;simp
 ·have h:¬ (Sum.inl a:Key)=Sum.inl b:=fun q=>e (Sum.inl.inj q);rw [afv h];exact (ahd.mpr e).symm
theorem adE (a b:Str):decide ((Sum.inr a:Key)=Sum.inr b)=decide (a=b):=by
 by_cases e:a=b
 ·subst e;simp
 ·have h:¬ (Sum.inr a:Key)=Sum.inr b:=fun q=>e (Sum.inr.inj q);rw [afv h,afv e]
theorem adm (a:Int)(b:Str):decide ((Sum.inl a:Key)=Sum.inr b)=false:=afv (fun q=>nomatch q)
theorem adz (a:Str)(b:Int):decide ((Sum.inr a:Key)=Sum.inl b)=false:=afv (fun q=>nomatch q)
def gD (prog:Program)(w:World):PySem.KeyKind prog w Key where
 is:=ud
 hash:=aev w
 inj:=fun v a b ha hb=>by
  rcases bX ha with ⟨i,t,rfl,rfl⟩ | ⟨x,t,rfl,rfl⟩
  ·rcases bX hb with ⟨j,u,rfl,e⟩ | ⟨y,u,rfl,e⟩
   ·injection e with e1 _;rw [e1]
   ·exact nomatch e
  ·rcases bX hb with ⟨j,u,rfl,e⟩ | ⟨y,u,rfl,e⟩
   ·exact nomatch e
   ·injection e with e1 _;rw [e1]
 byValue:=fun k v h=>by
  rcases bX h with ⟨i,t,rfl,rfl⟩ | ⟨x,t,rfl,rfl⟩<;>rfl
 pyHash:=fun hv h=>by
  rcases bX hv with ⟨i,t,rfl,rfl⟩ | ⟨x,t,rfl,rfl⟩
  ·exact wpAny_pyHash_int h
  ·exact wpAny_pyHash_str h
 eqBool:=fun hu hv h=>by
  rcases bX hu with ⟨i,t,rfl,rfl⟩ | ⟨x,t,rfl,rfl⟩
  ·rcases bX hv with ⟨j,u,rfl,rfl⟩ | ⟨y,u,rfl,rfl⟩
   ·rw [acW] at h;exact wpAny_eqBool_int h
   ·rw [adm] at h;exact SeqAt.EqAt.int_str i t y u _ _ _ _ h
  ·rcases bX hv with ⟨j,u,rfl,rfl⟩ | ⟨y,u,rfl,rfl⟩
   ·rw [adz] at h;exact SeqAt.EqAt.str_int x t j u _ _ _ _ h
   ·rw [adE] at h;exact wpAny_eqBool_str h
 «strs»:=fun k x t v h=>by
  rcases bX h with ⟨i,u,rfl,e⟩ | ⟨y,u,rfl,e⟩
  ·exact nomatch e
  ·injection e with e1 _
   subst e1;cases v<;>rfl
theorem tN (prog:Program)(w:World)(i:Int)(t:Tok):(gD prog w).is (.inl i) (.int i t)=true:=xn i t
theorem ui (prog:Program)(w:World)(x:Str)(t:Tok):(gD prog w).is (.inr x) (.str x t)=true:=xw x t
inductive V where
 | non | bl (b:Bool) | int (i:Int) | str (x:Str) | byt (b:Array UInt8) | flt (b:UInt64) | ref (a:Addr) | ty (n:String)
 deriving DecidableEq
def RelV:V->Value->Prop
 | .non,u=>u=Value.none
 | .bl b,u=>u=Value.bool b
 | .int i,u=>∃ t,u=Value.int i t
 | .str x,u=>∃ t,u=Value.str x t
 | .byt b,u=>∃ t,u=Value.bytes b t
 | .flt b,u=>∃ t,u=Value.float b t
 | .ref a,u=>u=Value.ref a
 | .ty n,u=>u=Value.type n
abbrev Vals:List V->List Value->Prop:=Paired RelV
theorem Vals.length {xs:List V}{us:List Value}(r:Vals xs us):xs.length=us.length:=Paired.length r
theorem Vals.get:∀ {xs:List V} {us:List Value} {i:Nat} {x:V},Vals xs us->xs[i]? = some x->∃ u,us[i]? = some u/\RelV x u
 | _,_,_,_,.nil,e=>by simp at e
 | _,_,0,_,.cons r _,e=>by simp at e;subst e;exact⟨_,rfl,r⟩
 | _,_,i+1,x,.cons _ t,e=>by
  obtain⟨u,h1,h2⟩:=Vals.get (i:=i) (x:=x) t (by simpa using e);exact⟨u,by simpa using h1,h2⟩
theorem Vals.set {x:V}{u:Value}(r:RelV x u):∀ {xs:List V} {us:List Value} (i:Nat),Vals xs us->Vals (xs.set i x) (us.set i u)
 | _,_,_,.nil=>.nil
 | _,_,0,.cons _ t=>.cons r t
 | _,_,i+1,.cons q t=>.cons q (Vals.set r i t)
theorem Vals.append:∀ {xs ys:List V} {us ws:List Value},Vals xs us->Vals ys ws->Vals (xs++ys) (us++ws)
 | _,_,_,_,.nil,s=>s
 | _,_,_,_,.cons r t,s=>.cons r (Vals.append t s)
theorem Vals.take:∀ {xs:List V} {us:List Value} (n:Nat),Vals xs us->Vals (xs.take n) (us.take n)
 | _,_,0,_=>.nil
 | _,_,_+1,.nil=>.nil
 | _,_,n+1,.cons r t=>.cons r (Vals.take n t)
theorem Vals.drop:∀ {xs:List V} {us:List Value} (n:Nat),Vals xs us->Vals (xs.drop n) (us.drop n)
 | _,_,0,r=>r
 | _,_,_+1,.nil=>.nil
 | _,_,n+1,.cons _ t=>Vals.drop n t
def RelO:Option V->Option Value->Prop
 | some v,some u=>RelV v u
 | none,none=>True
 | _,_=>False
def KV {κ:Type}:List (κ×V)->List (κ×Value)->Prop:=Paired fun (p:κ×V) (q:κ×Value)=>p.1=q.1/\RelV p.2 q.2
def kV:Key->V
 | .inl i=>.int i
 | .inr x=>.str x
inductive HO where
 | lst (xs:List V)
 | tup (xs:List V)
 | dK (kvs:List (Key×V)) | dT (kvs:List (List Key×V))
 | set (S:Int->Bool) (n:Nat)
 | ins (C dx:Addr) (fs:List (Str×V))
 | own (x:Addr)
 | xd (fs:List (Str×V))
 | met (f x:Addr)
 | rng (lo hi:Int)
 | frz (o:Obj) (u:HO)
 | tbl (ps:Array Value)
 | ext (φ:Heap->Prop)
abbrev Hp:=Addr->Option HO
def upd (H:Hp)(a:Addr)(o:HO):Hp:=fun b=>if b=a then some o else H b
theorem ag {H:Hp}{a:Addr}{o:HO}:upd H a o a=some o:=by unfold upd;rw [if_pos rfl]
theorem ax {H:Hp}{a b:Addr}{o:HO}(h:b≠a):upd H a o b=H b:=by unfold upd;rw [if_neg h]
theorem ai {H:Hp}{a b:Addr}{o:HO}(h:H a=some o)(h':H b=none):a≠b:=by
 intro e;subst e;rw [h] at h';cases h'
section
variable (P:Program)(w:World)
def ObjOk (H:Hp)(h:Heap)(a:Addr):HO->Prop
 | .lst xs=>xs.length<=sizeLine/\∃ (its:List Value) (n:Nat),Vals xs its/\h.get? a=some { cls:=.type "list",data:=.seq its.toArray n }
 | .tup xs=>xs.length<=sizeLine/\∃ its:List Value,Vals xs its/\IsTup h a its.toArray
 | .dK kvs=>kvs.length<=sizeLine/\(a == sysModules)=false/\∃ vs,KV kvs vs/\h.DictOf (gD P w) a vs
 | .dT kvs=>kvs.length<=sizeLine/\(a == sysModules)=false/\∃ xs:List (List Key×Addr×Value),
  Paired (fun (p:List Key×V) (q:List Key×Addr×Value)=>p.1=q.1/\H q.2.1=some (.tup (p.1.map kV))/\RelV p.2 q.2.2) kvs xs ∧
  ∃ o es ep,h.get? a=some o/\o.ExactDict/\o.data=.dict es ep/\es.toList=xs.map (entryOfKey (tupleKind (gD P w)))/\(xs.map (·.1)).Nodup
 | .set S n=>h.SetOf (intKind P w) a S n
 | .ins C dx fs=>H dx=some (.own a)/\fs.length<=1000/\dx≠a/\h.get? a=some (instObj C dx) ∧
  ∃ mA,h.Ns1 dx mA/\(∀ f,RelO (fs.lookup f) (mA f))/\PySem.Within mA (fs.map (·.1))
 | .own _=>∃ o,h.get? a=some o
 | .xd fs=>∃ mA,h.Ns1 a mA/\∀ f,RelO (fs.lookup f) (mA f)
 | .rng lo hi=>∃ t u v,h.get? a=some { cls:=.type "range",data:=.fields #[.int lo t,.int hi u,.int 1 v] }
 | .frz o u=>h.get? a=some o/\ObjOk H h a u
 | .tbl ps=>h.get? a=some { cls:=.none,data:=.fields ps }
 | .met f x=>h.get? a=some (methodObj (.ref f) (.ref x))
 | .ext φ=>φ h/\(∃ o,h.get? a=some o)/\∀ h1 h2:Heap,φ h1->(∀ o,h1.get? a=some o->h2.get? a=some o)->φ h2
def HOk (H:Hp)(h:Heap):Prop:=∀ a o,H a=some o->ObjOk P w H h a o
end
section
variable {P:Program}{w:World}{H H':Hp}{h h':Heap}{a:Addr}{o:HO}
theorem ObjOk.lt (x:ObjOk P w H h a o):a < h.objs.size:=by
 cases o with
 | lst xs=>obtain⟨_,_,_,_,e⟩:=x;exact afb e
 | tup xs=>obtain⟨_,_,_,p⟩:=x;exact p.lt
 | dK kvs=>obtain⟨_,_,_,_,o,_,_,e,_⟩:=x;exact afb e
 | dT kvs=>obtain⟨_,_,_,_,o,_,_,e,_⟩:=x;exact afb e
 | set S n=>obtain⟨o,_,_,_,e,_⟩:=x;exact afb e
 | ins C dx fs=>obtain⟨_,_,_,e,_⟩:=x;exact afb e
 | own y=>obtain⟨_,e⟩:=x;exact afb e
 | xd fs=>obtain⟨_,⟨_,_,_,e,_⟩,_⟩:=x;exact afb e
 | rng lo hi=>obtain⟨_,_,_,e⟩:=x;exact afb e
 | frz ob u=>obtain⟨e,_⟩:=x;exact afb e
 | tbl ps=>exact afb (show h.get? a=some _ from x)
 | met f y=>exact afb (show h.get? a=some _ from x)
 | ext φ=>obtain⟨_,⟨_,e⟩,_⟩:=x;exact afb e
theorem Paired.mapP {α β:Type}{F G:α->β->Prop}:∀ {l₁:List α} {l₂:List β},Paired F l₁ l₂->(∀ a b,F a b->G a b)->Paired G l₁ l₂
 | _,_,.nil,_=>.nil
 | _,_,.cons r t,f=>.cons (f _ _ r) (Paired.mapP t f)
theorem ObjOk.stay (x:ObjOk P w H h a o)(k:∀ b u,(b=a\/H b=some (.own a))->h.get? b=some u->h'.get? b=some u)
 (ho:∀ b,H b=some (.own a)->H' b=some (.own a))(ht:∀ b xs,H b=some (.tup xs)->H' b=some (.tup xs)):ObjOk P w H' h' a o:=by
 induction o with
 | lst xs=>obtain⟨z,its,n,r,e⟩:=x;exact⟨z,its,n,r,k _ _ (.inl rfl) e⟩
 | tup xs=>obtain⟨z,its,r,ob,e,c⟩:=x;exact⟨z,its,r,ob,k _ _ (.inl rfl) e,c⟩
 | dK kvs=>obtain⟨z,y,vs,r,ob,es,ep,e,c⟩:=x;exact⟨z,y,vs,r,ob,es,ep,k _ _ (.inl rfl) e,c⟩
 | dT kvs =>
  obtain⟨z,y,xs,r,ob,es,ep,e,c⟩:=x;exact⟨z,y,xs,Paired.mapP r fun p q z=>⟨z.1,ht _ _ z.2.1,z.2.2⟩,ob,es,ep,k _ _ (.inl rfl) e,c⟩
 | set S n=>obtain⟨ob,es,ep,t,e,c⟩:=x;exact⟨ob,es,ep,t,k _ _ (.inl rfl) e,c⟩
 | ins C dx fs =>
  obtain⟨d,z,ne,e,mA,⟨od,es,ep,e2,c⟩,r⟩:=x;exact⟨ho _ d,z,ne,k _ _ (.inl rfl) e,mA,⟨od,es,ep,k _ _ (.inr d) e2,c⟩,r⟩
 | own y=>obtain⟨ob,e⟩:=x;exact⟨ob,k _ _ (.inl rfl) e⟩
 | xd fs=>obtain⟨mA,⟨od,es,ep,e,c⟩,r⟩:=x;exact⟨mA,⟨od,es,ep,k _ _ (.inl rfl) e,c⟩,r⟩
 | rng lo hi=>obtain⟨t,u,v,e⟩:=x;exact⟨t,u,v,k _ _ (.inl rfl) e⟩
 | frz ob u ih=>obtain⟨e,q⟩:=x;exact⟨k _ _ (.inl rfl) e,ih q⟩
 | tbl ps =>
  have e:h.get? a=some { cls:=.none,data:=.fields ps }:=x;show h'.get? a=some { cls:=.none,data:=.fields ps };exact k a _ (.inl rfl) e
 | met f y =>
  have e:h.get? a=some (methodObj (.ref f) (.ref y)):=x;show h'.get? a=some (methodObj (.ref f) (.ref y));exact k a _ (.inl rfl) e
 | ext φ=>obtain⟨p,⟨o,e⟩,st⟩:=x;exact⟨st _ _ p fun o q=>k _ _ (.inl rfl) q,⟨o,k _ _ (.inl rfl) e⟩,st⟩
theorem HOk.lt (x:HOk P w H h)(e:H a=some o):a < h.objs.size:=(x a o e).lt
theorem HOk.fresh (x:HOk P w H h)(e:h.objs.size<=a):H a=none:=by
 cases q:H a with
 | none=>rfl
 | some u=>exact absurd (ae9 (x.lt q) e) (agu _)
theorem HOk.kept (x:HOk P w H h)(k:∀ b u,h.get? b=some u->h'.get? b=some u):HOk P w H h':=fun a o e =>
 (x a o e).stay (fun b u _ q=>k b u q) (fun _ q=>q) fun _ _ q=>q
theorem HOk.laid (x:HOk P w H h)(k:∀ b u,h.get? b=some u->h'.get? b=some u)(hp:h.objs.size<=a)(new:ObjOk P w (upd H a o) h' a o):HOk P w (upd H a o) h':=fun b u e=>by
 have hn:=x.fresh hp;by_cases hb:b=a
 ·subst hb;rw [ag] at e;cases e;exact new
 ·rw [ax hb] at e;exact (x b u e).stay (fun c v _ q=>k c v q) (fun c q=>by rw [ax (ai q hn)];exact q) fun c xs q=>by rw [ax (ai q hn)];exact q
end
def Rd (H:Hp)(a:Addr)(u:HO):Prop:=H a=some u\/∃ o,H a=some (.frz o u)
theorem Rd.ok {P:Program}{w:World}{H:Hp}{h:Heap}{a:Addr}{u:HO}(r:Rd H a u)(x:HOk P w H h):ObjOk P w H h a u:=by
 rcases r with r | ⟨o,r⟩
 ·exact x a u r
 ·obtain⟨_,q⟩:=x a _ r;exact q
def Mut:Option HO->Prop
 | some (.lst _)=>True
 | some (.dK _)=>True
 | some (.dT _)=>True
 | some (.set _ _)=>True
 | some (.ins _ _ _)=>True
 | some (.ext _)=>True
 | _=>False
section
variable {P:Program}{w:World}{H:Hp}{h h':Heap}{x e:Addr}{o':HO}
theorem HOk.write (ok:HOk P w H h)(mu:Mut (H x))(he:e=x\/H e=some (.own x))(k:∀ b u,b≠e->h.get? b=some u->h'.get? b=some u)(heo:∃ u,h'.get? e=some u)
 (new:ObjOk P w (upd H x o') h' x o'):HOk P w (upd H x o') h':=fun b u q=>by
 have nown:∀ c y,H c=some (.own y)->c≠x:=fun c y r z=>by subst z;rw [r] at mu;exact mu
 have ntup:∀ c xs,H c=some (.tup xs)->c≠x:=fun c xs r z=>by subst z;rw [r] at mu;exact mu
 by_cases hb:b=x
 ·subst hb;rw [ag] at q;cases q;exact new
 ·rw [ax hb] at q;by_cases hbe:b=e
  ·have q':H b=some (.own x):=by
    rcases he with z | z
    ·exact absurd (hbe.trans z) hb
    ·rw [hbe];exact z
   rw [q] at q';cases q';obtain⟨v,hv⟩:=heo;exact⟨v,by rw [hbe];exact hv⟩
  ·refine (ok b u q).stay (fun c v hc r=>k c v ?_ r) (fun c r=>by rw [ax (nown c b r)];exact r) fun c xs r=>by rw [ax (ntup c xs r)];exact r
   rcases hc with rfl | hc
   ·exact hbe
   ·rintro rfl;rcases he with z | z
    ·exact nown c b hc z
    ·rw [hc] at z;cases z;exact hb rfl
end
structure Un (fs ex:List Addr)(H H':Hp)(h h':Heap):Prop where
 keep:∀ b o,h.get? b=some o->H b=none->b ∉ fs->b ∉ ex->h'.get? b=some o
 slot:∀ b o,h.get? b=some o->H b=none->b∈fs->b ∉ ex->∃ sl,h'.get? b=some { o with slots:=sl }
 free:∀ b o,h.get? b=some o->H b=none->b ∉ ex->H' b=none
 there:∀ b o,h.get? b=some o->b ∉ ex->∃ o',h'.get? b=some o'
 tups:∀ b xs,H b=some (.tup xs)->H' b=some (.tup xs)
 frzs:∀ b o u,H b=some (.frz o u)->H' b=some (.frz o u)
 tbls:∀ b ps,H b=some (.tbl ps)->∃ more,H' b=some (.tbl (ps++more))
section
variable {fs fs' ex ex':List Addr}{H H1 H2:Hp}{h h1 h2 h':Heap}{a x e:Addr}{o:HO}
theorem Un.any (u:Un fs ex H H1 h h1){b:Addr}{ob:Obj}(q:h.get? b=some ob)(n:H b=none)(hx:b ∉ ex):∃ sl,h1.get? b=some { ob with slots:=sl }:=by
 by_cases hb:b∈fs
 ·exact u.slot b ob q n hb hx
 ·exact⟨ob.slots,u.keep b ob q n hb hx⟩
theorem Un.kept (k:∀ b u,h.get? b=some u->h'.get? b=some u):Un fs ex H H h h' :=
 ⟨fun b ob q _ _ _=>k b ob q,fun b ob q _ _ _=>⟨ob.slots,k b ob q⟩,fun _ _ _ n _=>n,fun b ob q _=>⟨ob,k b ob q⟩,fun _ _ q=>q,fun _ _ _ q=>q,fun _ ps q=>⟨#[],by rw [q];simp⟩⟩
theorem Un.refl:Un fs ex H H h h:=Un.kept fun _ _ q=>q
theorem Un.laid (k:∀ b u,h.get? b=some u->h'.get? b=some u)(hp:h.objs.size<=a)(hn:H a=none):Un fs ex H (upd H a o) h h' where
 keep:=fun b u q _ _ _=>k b u q
 slot:=fun b u q _ _ _=>⟨u.slots,k b u q⟩
 free:=fun b u q n _=>by rw [ax (afq (ae9 (afb q) hp))];exact n
 there:=fun b u q _=>⟨u,k b u q⟩
 tups:=fun b xs q=>by rw [ax (ai q hn)];exact q
 frzs:=fun b u xs q=>by rw [ax (ai q hn)];exact q
 tbls:=fun b ps q=>⟨#[],by rw [ax (ai q hn),q];simp⟩
theorem Un.write (mu:Mut (H x))(he:e=x\/H e=some (.own x))(k:∀ b u,b≠e->h.get? b=some u->h'.get? b=some u)(heo:∃ u,h'.get? e=some u):Un fs ex H (upd H x o) h h':=by
 have hx:∀ b,H b=none->b≠x:=fun b n z=>by subst z;rw [n] at mu;exact mu
 have hb:∀ b,H b=none->b≠e:=fun b n z=>by
  subst z;rcases he with r | r
  ·exact hx b n r
  ·rw [n] at r;cases r
 have hm:∀ b u,H b=some u->¬ Mut (some u)->b≠x:=fun b u q nm z=>by subst z;rw [q] at mu;exact nm mu
 refine⟨fun b u q n _ _=>k b u (hb b n) q,fun b u q n _ _=>⟨u.slots,k b u (hb b n) q⟩,fun b u q n _=>by rw [ax (hx b n)];exact n,fun b u q _=>?_,
  fun b xs q=>by rw [ax (hm b _ q fun z=>z)];exact q,fun b u xs q=>by rw [ax (hm b _ q fun z=>z)];exact q,fun b ps q=>⟨#[],by rw [ax (hm b _ q fun z=>z),q];simp⟩⟩
 by_cases hbe:b=e
 ·subst hbe;exact heo
 ·exact⟨u,k b u hbe q⟩
end
def trk (h:Heap)(H:Hp):List Addr:=(List.range h.objs.size).filter fun a=>(H a).isSome
def zZ (h:Heap)(H:Hp):Heap:=hideAll h (trk h H)
theorem za (h:Heap)(H:Hp):(zZ h H).objs.size=h.objs.size:=PySem.W.hideAll_size _ _
theorem zD {h:Heap}{H:Hp}{b:Addr}{o:Obj}(e:h.get? b=some o)(n:H b=none):(zZ h H).get? b=some o :=
 agJ _ e fun hm=>by
  have q:(H b).isSome=true:=(ahi.mp hm).2;rw [n] at q;simp at q
theorem abu {h:Heap}{H:Hp}{b:Addr}{o:Obj}(e:(zZ h H).get? b=some o):h.get? b=some o/\H b=none:=by
 have e':h.get? b=some o:=agv (trk h H) e;refine⟨e',?_⟩;cases q:H b with
 | none=>rfl
 | some x =>
  have hm:b∈trk h H:=ahi.mpr ⟨ahC.mpr (afb e'),by simp [q]⟩;have z:(zZ h H).get? b=none:=afX (trk h H) hm;rw [z] at e;cases e
def abE (g h:Heap)(L:Addr):List (Addr×Obj):=(List.range h.objs.size).filterMap fun a=>if a=L\/(g.get? a).isSome=true then none else (h.get? a).map fun o=>(a,o)
def rest (g h:Heap)(L d:Addr):List (Addr×Obj):=(abE g h L).filter fun p=>decide (p.1≠d)
structure Mod (K:PySem.W.Frag)(mg:Str->Option Value)(base:Heap):Prop where
 kin:K.In base
 glob:base.Ns mainGlobals mg
 blt:∃ mb,base.Ns builtinsNs mb/\∀ x:Str,x ≠ "__name__" → mb x=bootBuiltins x
 nolimit:base.NoLimit
structure Cx where
 prog:Program
 w:World
 K:PySem.W.Frag
 mg:Str->Option Value
 base:Heap
 A:Around
 N:List Str
 s₀:Shared
 H₀:Hp
 env:Env
 outer:List Env
 stack:List Env
 ex:List Addr
 fn:Str->Bool
 calm:Bool
 pn:List (Addr×Obj)
 xe:Value->Shared->Prop
def frs (l:List Env):List Addr:=l.filterMap (·.frame)
abbrev Cx.fs (X:Cx):List Addr:=frs X.outer
def Vis (sc:Scope)(x:Str):Prop:=sc.names.lookup x=some .local\/sc.names.lookup x=some .cell\/sc.names.lookup x=some .free
def Loc (sc:Scope)(x:Str):Prop:=sc.names.lookup x=some .local\/sc.names.lookup x=some .cell
def aes (env:Env)(h:Heap)(m:Str->Option Value)(x:Str)(u:Value):Prop :=
 (env.kindOf x=some .local/\m x=some u)\/((env.kindOf x=some .cell\/env.kindOf x=some .free)/\∃ c,env.cells.lookup x=some c/\h.IsCell c (some u))
structure Cx.Ok (X:Cx):Prop where
 mod:Mod X.K X.mg X.base
 kind:X.env.scope.kind=.function
 glob:X.env.globals=mainGlobals
 blt:X.env.builtins=builtinsNs
 above:X.s₀.heap.objs.size<=X.env.locals
 inj:∀ x y c,X.env.cells.lookup x=some c->X.env.cells.lookup y=some c->x=y
 has:∀ x,(X.env.kindOf x=some .cell\/X.env.kindOf x=some .free)->∃ c,X.env.cells.lookup x=some c
 cab:∀ x c,X.fn x=true->X.env.cells.lookup x=some c->X.s₀.heap.objs.size<=c
 hd:X.calm=true->X.A.handled=none
 frames:X.A.frames=some X.stack
 stk:X.stack=X.outer\/(X.stack=X.env::X.outer/\X.env.frame=some X.env.locals)
 exf:∀ b∈X.ex,b≠X.env.locals/\∀ x c,X.env.cells.lookup x=some c->c≠b
 bs:∀ b o,X.base.get? b=some o->X.s₀.heap.get? b=some o/\X.H₀ b=none
 bsz:X.base.objs.size<=X.s₀.heap.objs.size
 noex:∀ b o,X.base.get? b=some o->b ∉ X.ex
 exfs:∀ b∈X.ex,b ∉ X.fs
 funs:X.s₀.heap.FunFrames X.base X.outer
 frf:∀ b∈X.fs,X.H₀ b=none
structure Inv (X:Cx)(pins:List (Addr×Obj))(σ:List (Option V))(H:Hp)(s:Shared):Prop where
 ok:X.Ok
 os:s.os=X.s₀.os
 bare:AllBare s.gens
 base:Un X.fs X.ex X.H₀ H X.s₀.heap s.heap
 loc:∃ m,s.heap.Ns X.env.locals m/\∀ (i:Nat) (x:Str) (v:V),X.N[i]? = some x->σ[i]? = some (some v)->Vis X.env.scope x->∃ u,RelV v u/\aes X.env s.heap m x u
 cell:∀ x c,X.env.cells.lookup x=some c->∃ v,s.heap.IsCell c v
 free:H X.env.locals=none
 freeC:∀ x c,X.env.cells.lookup x=some c->H c=none
 pin:∀ p∈X.pn++pins,s.heap.get? p.1=some p.2/\H p.1=none/\p.1≠X.env.locals/\p.1 ∉ X.fs/\∀ v,p.2.data≠.cell v
 hok:HOk X.prog X.w H s.heap
 len:σ.length=X.N.length
section
variable {X:Cx}{pins:List (Addr×Obj)}{σ:List (Option V)}{H H':Hp}{s:Shared}{h':Heap}
theorem Cx.Ok.nofr (ok:X.Ok){b:Addr}{o:Obj}(e:X.base.get? b=some o):b ∉ X.fs:=fun hb=>by
 have:=(ok.funs.mem hb).1;rw [e] at this;cases this
theorem Inv.bs (I:Inv X pins σ H s):∀ b o,X.base.get? b=some o->s.heap.get? b=some o/\H b=none:=fun b o e =>
 ⟨I.base.keep b o (I.ok.bs b o e).1 (I.ok.bs b o e).2 (I.ok.nofr e) (I.ok.noex b o e),I.base.free b o (I.ok.bs b o e).1 (I.ok.bs b o e).2 (I.ok.noex b o e)⟩
theorem Inv.bk (I:Inv X pins σ H s):∀ b o,X.base.get? b=some o->s.heap.get? b=some o:=fun b o e=>(I.bs b o e).1
theorem Inv.mod (I:Inv X pins σ H s):Mod X.K X.mg X.base:=I.ok.mod
theorem Inv.kIn (I:Inv X pins σ H s):X.K.In s.heap:=I.ok.mod.kin.keeps I.bk
theorem Inv.fr (I:Inv X pins σ H s):∃ m,Fr X.base X.env.locals s.heap m :=
 let ⟨m,hn,_⟩:=I.loc
 ⟨m,hn,I.bk,afC I.ok.bsz I.ok.above⟩
theorem Inv.lt (I:Inv X pins σ H s):X.env.locals < s.heap.objs.size:=let ⟨_,hn,_⟩:=I.loc;hn.lt
theorem Inv.sz (I:Inv X pins σ H s):X.s₀.heap.objs.size<=s.heap.objs.size:=afC I.ok.above (ag0 I.lt)
theorem Inv.nofs (I:Inv X pins σ H s){a:Addr}(h:s.heap.objs.size<=a):a ∉ X.fs:=fun hb=>by
 obtain⟨_,o,ho,_⟩:=I.ok.funs.mem hb;exact absurd (ae9 (afb ho) (afC I.sz h)) (agu _)
theorem Inv.cne (I:Inv X pins σ H s):∀ x c,X.env.cells.lookup x=some c->c≠X.env.locals:=fun x c e z=>by
 obtain⟨v,o,ho,hd⟩:=I.cell x c e;obtain⟨m,⟨o',es,ep,ho',hd',_⟩,_⟩:=I.loc;rw [z,ho'] at ho;cases ho;rw [hd'] at hd;cases hd
theorem Inv.funs (I:Inv X pins σ H s):s.heap.FunFrames X.base X.outer:=by
 have all:∀ (l:List Env),(∀ b∈frs l,b∈X.fs)->X.s₀.heap.FunFrames X.base l->s.heap.FunFrames X.base l:=by
  intro l
  induction l with
  | nil=>intro _ _;trivial
  | cons env r ih =>
   intro hs hl;obtain⟨hk,⟨L,o,hf,hn,ho,hd⟩,hr⟩:=hl;have hL:L∈X.fs:=hs L (by unfold frs;rw [agk,hf];exact aeX);obtain⟨sl,e⟩:=I.base.slot L o ho (I.ok.frf L hL) hL fun z=>I.ok.exfs L z hL;exact⟨hk,⟨L,_,hf,hn,e,hd⟩,ih (fun b hb=>hs b (by unfold frs;rw [agk,hf];exact aeW _ hb)) hr⟩
 exact all X.outer (fun _ hb=>hb) I.ok.funs
theorem Inv.stack (I:Inv X pins σ H s):s.heap.FunFrames X.base X.stack:=by
 rcases I.ok.stk with e | ⟨e,hf⟩
 ·rw [e];exact I.funs
 ·rw [e];obtain⟨m,hn,_⟩:=I.loc;refine .cons (by rw [I.ok.kind];decide) hf hn ?_ I.funs;exact ahP (afC I.ok.bsz I.ok.above)
theorem Inv.stkSub (I:Inv X pins σ H s):∀ b∈frs X.stack,b∈X.env.locals::X.fs:=fun b hb=>by
 rcases I.ok.stk with e | ⟨e,hf⟩
 ·rw [e] at hb;exact aeW _ hb
 ·rw [e] at hb;unfold frs at hb;rw [agk,hf] at hb;exact hb
theorem Inv.stkFree (I:Inv X pins σ H s):∀ b∈frs X.stack,H b=none:=fun b hb=>by
 rcases aeY.mp (I.stkSub b hb) with e | hb
 ·rw [e];exact I.free
 ·obtain⟨_,o,ho,_⟩:=I.ok.funs.mem hb;exact I.base.free b o ho (I.ok.frf b hb) fun z=>I.ok.exfs b z hb
theorem Inv.step {g':Array GenState}{t':Nat}{d':Drawn}{ch:List Addr}(I:Inv X pins σ H s)
 (hch:∀ b∈ch,(b∈X.ex\/X.s₀.heap.objs.size<=b)/\b≠X.env.locals/\(∀ x c,X.env.cells.lookup x=some c->c≠b)/\∀ p∈X.pn++pins,p.1≠b)
 (keep:∀ b o,b≠X.env.locals->b ∉ X.fs->b ∉ ch->s.heap.get? b=some o->H b=none->h'.get? b=some o)
 (slot:∀ b o,b≠X.env.locals->b∈X.fs->b ∉ ch->s.heap.get? b=some o->H b=none->∃ sl,h'.get? b=some { o with slots:=sl })(free:∀ b o,b ∉ ch->s.heap.get? b=some o->H b=none->H' b=none)
 (there:∀ b o,b ∉ ch->s.heap.get? b=some o->∃ o',h'.get? b=some o')
 (tups:∀ b xs,H b=some (.tup xs)->H' b=some (.tup xs))(frzs:∀ b o u,H b=some (.frz o u)->H' b=some (.frz o u))(tbls:∀ b ps,H b=some (.tbl ps)->∃ more,H' b=some (.tbl (ps++more)))
 (ns:∀ m,s.heap.Ns X.env.locals m->h'.Ns X.env.locals m)(hok:HOk X.prog X.w H' h')(hg:AllBare g') :
 Inv X pins σ H' { s with heap:=h',gens:=g',drawn:=d',toks:=t' }:=by
 have neL:∀ b o,X.s₀.heap.get? b=some o->b≠X.env.locals:=fun b o e=>afq (ae9 (afb e) I.ok.above);have neC:∀ b o,X.s₀.heap.get? b=some o->b ∉ X.ex->b ∉ ch:=fun b o e hx hb=>by
  rcases (hch b hb).1 with z | z
  ·exact hx z
  ·exact absurd (ae9 (afb e) z) (agu _)
 have cellK:∀ x c,X.env.cells.lookup x=some c->∀ v,s.heap.IsCell c v->h'.IsCell c v:=fun x c e v ⟨o,ho,hd⟩=>by
  have nch:c ∉ ch:=fun z=>(hch c z).2.2.1 x c e rfl;by_cases hc:c∈X.fs
  ·obtain⟨sl,q⟩:=slot c o (I.cne x c e) hc nch ho (I.freeC x c e);exact⟨_,q,hd⟩
  ·exact⟨o,keep c o (I.cne x c e) hc nch ho (I.freeC x c e),hd⟩
 refine⟨I.ok,I.os,hg,⟨fun b o e n hb hx=>?_,fun b o e n hb hx=>?_,fun b o e n hx=>?_,fun b o e hx=>?_,fun b xs e=>tups b xs (I.base.tups b xs e),fun b o xs e=>frzs b o xs (I.base.frzs b o xs e),fun b ps e=>?_⟩,?_,fun x c e=>?_,?_,fun x c e=>?_,fun p hp=>?_,hok,I.len⟩
 ·exact keep b o (neL b o e) hb (neC b o e hx) (I.base.keep b o e n hb hx) (I.base.free b o e n hx)
 ·obtain⟨sl,e1⟩:=I.base.slot b o e n hb hx;obtain⟨sl',e2⟩:=slot b _ (neL b o e) hb (neC b o e hx) e1 (I.base.free b o e n hx);exact⟨sl',e2⟩
 ·obtain⟨o',e1⟩:=I.base.there b o e hx;exact free b o' (neC b o e hx) e1 (I.base.free b o e n hx)
 ·obtain⟨o',e1⟩:=I.base.there b o e hx;exact there b o' (neC b o e hx) e1
 ·obtain⟨m1,e1⟩:=I.base.tbls b ps e;obtain⟨m2,e2⟩:=tbls b _ e1;exact⟨m1++m2,by rw [e2,Array.append_assoc]⟩
 ·obtain⟨m,hn,hl⟩:=I.loc;refine⟨m,ns m hn,fun i x v e1 e2 e3=>?_⟩;obtain⟨u,r,l⟩:=hl i x v e1 e2 e3;refine⟨u,r,?_⟩;rcases l with l | ⟨k,c,e,z⟩
  ·exact .inl l
  ·exact .inr ⟨k,c,e,cellK x c e _ z⟩
 ·obtain⟨v,z⟩:=I.cell x c e;exact⟨v,cellK x c e v z⟩
 ·obtain⟨m,⟨o,_,_,ho,_⟩,_⟩:=I.loc;exact free _ o (fun z=>(hch _ z).2.1 rfl) ho I.free
 ·obtain⟨v,o,ho,hd⟩:=I.cell x c e;exact free c o (fun z=>(hch c z).2.2.1 x c e rfl) ho (I.freeC x c e)
 ·obtain⟨e,n,ne,nf,d⟩:=I.pin p hp;have nch:p.1 ∉ ch:=fun z=>(hch p.1 z).2.2.2 p hp rfl;exact⟨keep p.1 p.2 ne nf nch e n,free p.1 p.2 nch e n,ne,nf,d⟩
theorem Inv.un {t':Nat}(I:Inv X pins σ H s)(u:Un X.fs [] H H' s.heap h')(hok:HOk X.prog X.w H' h'):Inv X pins σ H' { s with heap:=h',toks:=t' }:=by
 obtain⟨m,⟨o,es,ep,ho,r⟩,_⟩:=id I.loc;obtain⟨sl,hL⟩:=u.any ho I.free (by simp);exact I.step (g':=s.gens) (d':=s.drawn) (ch:=[]) (fun _ z=>nomatch z) (fun b o _ hb _ e n=>u.keep b o e n hb (by simp)) (fun b o _ hb _ e n=>u.slot b o e n hb (by simp)) (fun b o _ e n=>u.free b o e n (by simp)) (fun b o _ e=>u.there b o e (by simp)) u.tups u.frzs u.tbls (fun m' hm=>by
  obtain⟨o',es',ep',ho',r'⟩:=hm;rw [ho] at ho';cases ho';exact⟨_,es',ep',hL,r'⟩) hok I.bare
theorem Inv.call {g':Array GenState}{t':Nat}{d':Drawn}{ch:List Addr}(I:Inv X pins σ H s)(u:Un (frs X.stack) ch H H' s.heap h')(hok:HOk X.prog X.w H' h')(hg:AllBare g')
 (hch:∀ b∈ch,(b∈X.ex\/X.s₀.heap.objs.size<=b)/\b≠X.env.locals/\(∀ x c,X.env.cells.lookup x=some c->c≠b)/\∀ p∈X.pn++pins,p.1≠b) :
 Inv X pins σ H' { s with heap:=h',gens:=g',drawn:=d',toks:=t' }:=by
 obtain⟨m,⟨o,es,ep,ho,r⟩,_⟩:=id I.loc;obtain⟨sl,hL⟩:=u.any ho I.free fun z=>(hch _ z).2.1 rfl;exact I.step (ch:=ch) hch (fun b o hL hb hc e n=>u.keep b o e n (fun z=>(aeY.mp (I.stkSub b z)).elim hL hb) hc) (fun b o _ _ hc e n=>u.any e n hc) (fun b o hc e n=>u.free b o e n hc) (fun b o hc e=>u.there b o e hc) u.tups u.frzs u.tbls (fun m' hm=>by
  obtain⟨o',es',ep',ho',r'⟩:=hm;rw [ho] at ho';cases ho';exact⟨_,es',ep',hL,r'⟩) hok hg
theorem Inv.turned {t':Nat}{it:Addr}(I:Inv X pins σ H s)(k:∀ b o,b≠it->s.heap.get? b=some o->h'.get? b=some o)(hn:H it=none)(hL:it≠X.env.locals)
 (h1:it∈X.ex\/X.s₀.heap.objs.size<=it)(h2:∀ x c,X.env.cells.lookup x=some c->c≠it)(h3:∀ p∈X.pn++pins,p.1≠it):Inv X pins σ H { s with heap:=h',toks:=t' }:=by
 have nit:∀ b u,H b=some u->b≠it:=fun b u e z=>by rw [z,hn] at e;cases e
 refine I.step (g':=s.gens) (d':=s.drawn) (ch:=[it]) (fun b hb=>?_) (fun b o _ _ hc e _=>k b o (fun z=>hc (by simp [z])) e) (fun b o _ _ hc e _=>⟨o.slots,k b o (fun z=>hc (by simp [z])) e⟩) (fun _ _ _ _ n=>n)
  (fun b o hc e=>⟨o,k b o (fun z=>hc (by simp [z])) e⟩) (fun _ _ e=>e) (fun _ _ _ e=>e) (fun b ps e=>⟨#[],by rw [e];simp⟩) (fun m hm=>?_) (fun b u e=>?_) I.bare
 ·have e:b=it:=by simpa using hb
  subst e;exact⟨h1,hL,h2,h3⟩
 ·obtain⟨o,es,ep,ho,r⟩:=hm;exact⟨o,es,ep,k _ o (ag1 hL) ho,r⟩
 ·refine (I.hok b u e).stay (fun c v hc q=>k c v ?_ q) (fun _ q=>q) fun _ _ q=>q;rcases hc with z | z
  ·rw [z];exact nit b u e
  ·exact nit c _ z
theorem Inv.tok (I:Inv X pins σ H s)(t:Nat):Inv X pins σ H { s with toks:=t }:=I.un (h':=s.heap) (t':=t) Un.refl I.hok
theorem Inv.kept {t':Nat}(I:Inv X pins σ H s)(k:∀ b u,s.heap.get? b=some u->h'.get? b=some u):Inv X pins σ H { s with heap:=h',toks:=t' }:=I.un (Un.kept k) (I.hok.kept k)
theorem Inv.laid {a:Addr}{o:HO}{t':Nat}(I:Inv X pins σ H s)(k:∀ b u,s.heap.get? b=some u->h'.get? b=some u)(hp:s.heap.objs.size<=a)(new:ObjOk X.prog X.w (upd H a o) h' a o) :
 Inv X pins σ (upd H a o) { s with heap:=h',toks:=t' }:=I.un (Un.laid k hp (I.hok.fresh hp)) (I.hok.laid k hp new)
theorem Inv.write {x e:Addr}{o:HO}{t':Nat}(I:Inv X pins σ H s)(mu:Mut (H x))(he:e=x\/H e=some (.own x))(k:∀ b u,b≠e->s.heap.get? b=some u->h'.get? b=some u)(heo:∃ u,h'.get? e=some u)
 (new:ObjOk X.prog X.w (upd H x o) h' x o):Inv X pins σ (upd H x o) { s with heap:=h',toks:=t' }:=I.un (Un.write mu he k heo) (I.hok.write mu he k heo new)
theorem Inv.weak {σ':List (Option V)}(I:Inv X pins σ H s)(hl:σ'.length=σ.length)(w:∀ (i:Nat) v,σ'[i]? = some (some v)->σ[i]? = some (some v)):Inv X pins σ' H s :=
 ⟨I.ok,I.os,I.bare,I.base,let ⟨m,hn,hl'⟩:=I.loc;⟨m,hn,fun i x v e1 e2 e3=>hl' i x v e1 (w i v e2) e3⟩,I.cell,I.free,I.freeC,I.pin,I.hok,hl.trans I.len⟩
theorem Inv.pins_of {pins':List (Addr×Obj)}(I:Inv X pins σ H s)(h:∀ p∈pins',s.heap.get? p.1=some p.2/\H p.1=none/\p.1≠X.env.locals/\p.1 ∉ X.fs/\∀ v,p.2.data≠.cell v):Inv X pins' σ H s :=
 ⟨I.ok,I.os,I.bare,I.base,I.loc,I.cell,I.free,I.freeC,fun p hp=>(afc.mp hp).elim (fun z=>I.pin p (afA _ z)) (h p),I.hok,I.len⟩
theorem qc {N:List Str}(hN:N.Nodup){i j:Nat}{x:Str}(a:N[i]? = some x)(b:N[j]? = some x):i=j:=by
 obtain⟨h1,e1⟩:=aeZ.mp a;obtain⟨h2,e2⟩:=aeZ.mp b;exact (List.getElem_inj hN).mp (e1.trans e2.symm)
theorem oy {M:Model}{A:Around}{E:Value->Shared->Prop}{i:Nat}{x:Str}{v:V}{u:Value}{Q:Unit->Shared->Prop}(I:Inv X pins σ H s)(hN:X.N.Nodup)(hi:X.N[i]? = some x)(hx:Loc X.env.scope x)(r:RelV v u)
 (h:∀ s',Inv X pins (σ.set i (some v)) H s'->(∃ a,Heap.SameBut a s.heap s'.heap/\(a=X.env.locals\/X.env.cells.lookup x=some a))->Q () s')(hf:X.fn x=true\/X.env.scope.names.lookup x=some .local:=by first | exact .inl rfl | exact .inr rfl | assumption):wpAny M A (storeName X.env x u) Q E s:=by
 obtain⟨m,hn,hl⟩:=id I.loc;have hcls:(X.env.scope.kind == .class || (X.env.scope.kind == .module && X.env.locals != X.env.globals))=false:=by rw [I.ok.kind];rfl
 have hiσ:i < σ.length:=by rw [I.len];exact (aeZ.mp hi).1
 have cne:=I.cne;have tracked:∀ {a:Addr} {h':Heap},(∃ o,s.heap.get? a=some o/\H a=none)->Heap.SameBut a s.heap h'->HOk X.prog X.w H h':=fun {a h'} ha hs b ob e=>by
  obtain⟨_,_,hfree⟩:=ha;refine (I.hok b ob e).stay (fun c w' hc q=>(hs.2 c ?_).trans q) (fun _ q=>q) fun _ _ q=>q;rintro rfl;rcases hc with rfl | hc
  ·rw [hfree] at e;cases e
  ·rw [hfree] at hc;cases hc
 rcases hx with hk | hk
 ·refine wpAny_storeName_local hk hn (fun h' hn' hs=>?_) hcls;obtain⟨oL,_,_,hoL,_⟩:=id hn;refine h _ ⟨I.ok,I.os,I.bare,⟨fun b o e n hb hx=>?_,fun b o e n hb hx=>?_,I.base.free,fun b o e hx=>?_,I.base.tups,I.base.frzs,I.base.tbls⟩,⟨_,hn',fun j y v' e1 e2 e3=>?_⟩,fun y c e=>?_,I.free,I.freeC,fun p hp=>?_,tracked ⟨oL,hoL,I.free⟩ hs,by simpa using I.len⟩ ⟨_,hs,.inl rfl⟩
  ·exact (hs.2 b (afq (ae9 (afb e) I.ok.above))).trans (I.base.keep b o e n hb hx)
  ·obtain⟨sl,e1⟩:=I.base.slot b o e n hb hx;exact⟨sl,(hs.2 b (afq (ae9 (afb e) I.ok.above))).trans e1⟩
  ·obtain⟨o',e1⟩:=I.base.there b o e hx;exact⟨o',(hs.2 b (afq (ae9 (afb e) I.ok.above))).trans e1⟩
  ·by_cases hj:j=i
   ·subst hj;rw [hi] at e1;cases e1;rw [agU hiσ] at e2;cases e2;exact⟨u,r,.inl ⟨hk,by simp⟩⟩
   ·rw [ahQ (ag1 hj)] at e2;obtain⟨u',r',q⟩:=hl j y v' e1 e2 e3;refine⟨u',r',?_⟩;rcases q with ⟨k,e⟩ | ⟨k,c,e,z⟩
    ·refine .inl ⟨k,?_⟩;have:y≠x:=fun e=>hj (qc hN e1 (e▸hi));simp [this,e]
    ·exact .inr ⟨k,c,e,z.sameBut hs (cne y c e)⟩
  ·obtain⟨w',z⟩:=I.cell y c e;exact⟨w',z.sameBut hs (cne y c e)⟩
  ·obtain⟨e,n,ne,nf,d⟩:=I.pin p hp;exact⟨(hs.2 p.1 ne).trans e,n,ne,nf,d⟩
 ·have hfn:X.fn x=true:=by
   rcases hf with z | z
   ·exact z
   ·rw [z] at hk;cases hk
  obtain⟨c,hc⟩:=I.ok.has x (.inl hk);obtain⟨w',z⟩:=I.cell x c hc;refine wpAny_storeName_cell I.ok.kind hk hc z (fun h' hc' hs=>?_);obtain⟨oc,hoc,hocd⟩:=id z;refine h { s with heap:=h' } ⟨I.ok,I.os,I.bare,⟨fun b o e n hb hx=>?_,fun b o e n hb hx=>?_,I.base.free,fun b o e hx=>?_,I.base.tups,I.base.frzs,I.base.tbls⟩,⟨m,hn.sameBut hs (ag1 (cne x c hc)),fun j y v' e1 e2 e3=>?_⟩,fun y c' e=>?_,I.free,I.freeC,fun p hp=>?_,tracked ⟨oc,hoc,I.freeC x c hc⟩ hs,by simpa using I.len⟩ ⟨c,hs,.inr hc⟩
  ·exact (hs.2 b (afq (ae9 (afb e) (I.ok.cab x c hfn hc)))).trans (I.base.keep b o e n hb hx)
  ·obtain⟨sl,e1⟩:=I.base.slot b o e n hb hx;exact⟨sl,(hs.2 b (afq (ae9 (afb e) (I.ok.cab x c hfn hc)))).trans e1⟩
  ·obtain⟨o',e1⟩:=I.base.there b o e hx;exact⟨o',(hs.2 b (afq (ae9 (afb e) (I.ok.cab x c hfn hc)))).trans e1⟩
  ·by_cases hj:j=i
   ·subst hj;rw [hi] at e1;cases e1;rw [agU hiσ] at e2;cases e2;exact⟨u,r,.inr ⟨.inl hk,c,hc,hc'⟩⟩
   ·rw [ahQ (ag1 hj)] at e2;obtain⟨u',r',q⟩:=hl j y v' e1 e2 e3;refine⟨u',r',?_⟩;rcases q with q | ⟨k,c',e,z'⟩
    ·exact .inl q
    ·refine .inr ⟨k,c',e,z'.sameBut hs ?_⟩;rintro rfl;exact hj (qc hN e1 (I.ok.inj _ _ _ e hc▸hi))
  ·by_cases hcc:c'=c
   ·subst hcc;exact⟨_,hc'⟩
   ·obtain⟨w2,z2⟩:=I.cell y c' e;exact⟨w2,z2.sameBut hs hcc⟩
  ·obtain⟨e,n,ne,nf,d⟩:=I.pin p hp;refine⟨(hs.2 p.1 ?_).trans e,n,ne,nf,d⟩;intro q;rw [q,hoc] at e;have q':oc=p.2:=afP e;exact d w' (by rw [← q'];exact hocd)
theorem uU {M:Model}{A:Around}{E:Value->Shared->Prop}{i:Nat}{x:Str}{v:V}{u:Value}{Q:Unit->Shared->Prop}(I:Inv X pins σ H s)(hN:X.N.Nodup)(hi:X.N[i]? = some x)(hx:Loc X.env.scope x)(r:RelV v u)
 (h:∀ s',Inv X pins (σ.set i (some v)) H s'->Q () s')(hf:X.fn x=true\/X.env.scope.names.lookup x=some .local:=by first | exact .inl rfl | exact .inr rfl | assumption):wpAny M A (storeName X.env x u) Q E s :=
 oy I hN hi hx r (fun s' I' _=>h s' I') hf
theorem Inv.call' {s':Shared}{ch:List Addr}(I:Inv X pins σ H s)(ho:s'.os=s.os)(u:Un (frs X.stack) ch H H' s.heap s'.heap)(hok:HOk X.prog X.w H' s'.heap)(hg:AllBare s'.gens)
 (hch:∀ b∈ch,(b∈X.ex\/X.s₀.heap.objs.size<=b)/\b≠X.env.locals/\(∀ x c,X.env.cells.lookup x=some c->c≠b)/\∀ p∈X.pn++pins,p.1≠b):Inv X pins σ H' s':=by
 obtain⟨h',g',d',t',o'⟩:=s';have e:o'=s.os:=ho;subst e;exact I.call (g':=g') (t':=t') (d':=d') u hok hg hch
end
abbrev XK:=Value->Option Addr->Hp->Prop
abbrev St:=List (Option V)
abbrev VK:=V->Hp->Prop
abbrev TE:=St->Hp->VK->Prop
abbrev TT:=St->Hp->(Bool->Hp->Prop)->Prop
abbrev TA:=St->Hp->(List V->Hp->Prop)->Prop
structure vt where
 nx:St->Hp->Prop
 rt:VK
 bk:St->Hp->Prop:=fun _ _=>False
 ct:St->Hp->Prop:=fun _ _=>False
abbrev TS:=vt->St->Hp->Prop
def EP (X:Cx)(pins:List (Addr×Obj))(σ:St)(Q:VK)(u:Value)(s':Shared):Prop:=∃ v H',Inv X pins σ H' s'/\RelV v u/\Q v H'
def TP (X:Cx)(pins:List (Addr×Obj))(σ:St)(Q:Bool->Hp->Prop)(b:Bool)(s':Shared):Prop:=∃ H',Inv X pins σ H' s'/\Q b H'
def AP (X:Cx)(pins:List (Addr×Obj))(σ:St)(Q:List V->Hp->Prop)(us:List Value)(s':Shared):Prop:=∃ vs H',Inv X pins σ H' s'/\Vals vs us/\Q vs H'
def SP (X:Cx)(pins:List (Addr×Obj))(D:vt)(f:Flow)(s':Shared):Prop :=
 match f with
 | .next=>∃ σ' H',Inv X pins σ' H' s'/\D.nx σ' H'
 | .brk=>∃ σ' H',Inv X pins σ' H' s'/\D.bk σ' H'
 | .cont=>∃ σ' H',Inv X pins σ' H' s'/\D.ct σ' H'
 | .ret u=>∃ v σ' H',Inv X pins σ' H' s'/\RelV v u/\D.rt v H'
def PE (X:Cx)(e:Expr)(t:TE):Prop :=
 ∀ (pins:List (Addr×Obj)) (s:Shared) (σ:St) (H:Hp) (Q:VK),Inv X pins σ H s->t σ H Q->wpAny (model X.prog X.w) X.A (eval e X.env) (EP X pins σ Q) X.xe s
def PT (X:Cx)(e:Expr)(t:TT):Prop :=
 ∀ (pins:List (Addr×Obj)) (s:Shared) (σ:St) (H:Hp) (Q:Bool->Hp->Prop),Inv X pins σ H s->t σ H Q->wpAny (model X.prog X.w) X.A (isTrue e X.env (eval e X.env)) (TP X pins σ Q) X.xe s
def PW (X:Cx)(e:Expr)(t:TT):Prop :=
 ∀ (whole:Sem Value) (pins:List (Addr×Obj)) (s:Shared) (σ:St) (H:Hp) (Q:Bool->Hp->Prop),Inv X pins σ H s->t σ H Q->wpAny (model X.prog X.w) X.A (isTrue e X.env whole) (TP X pins σ Q) X.xe s
theorem PW.pt {X:Cx}{e:Expr}{t:TT}(h:PW X e t):PT X e t:=h _
def PA (X:Cx)(es:List Expr)(t:TA):Prop :=
 ∀ (pos:Pos) (pins:List (Addr×Obj)) (s:Shared) (σ:St) (H:Hp) (Q:List V->Hp->Prop),Inv X pins σ H s->t σ H Q->wpAny (model X.prog X.w) X.A (spliced (backTo pos (starEach es X.env))) (AP X pins σ Q) X.xe s
def PS (X:Cx)(st:Stmt)(t:TS):Prop :=
 ∀ (pins:List (Addr×Obj)) (s:Shared) (σ:St) (H:Hp) (D:vt),Inv X pins σ H s->t D σ H->wpAny (model X.prog X.w) X.A (exec st X.env) (SP X pins D) X.xe s
def PSs (X:Cx)(st:List Stmt)(t:TS):Prop :=
 ∀ (pins:List (Addr×Obj)) (s:Shared) (σ:St) (H:Hp) (D:vt),Inv X pins σ H s->t D σ H->wpAny (model X.prog X.w) X.A (execs st X.env) (SP X pins D) X.xe s
theorem thn {α:Type}{t:Sem α}{Q Q':α->Shared->Prop}{M:Model}{A:Around}{E:Value->Shared->Prop}{s:Shared}(h:wpAny M A t Q E s)(hQ:∀ a s,Q a s->Q' a s):wpAny M A t Q' E s:=af6 h hQ fun _ _ x=>x
section
variable {X:Cx}
theorem bin {a b:Expr}{ta tb:TE}(ha:PE X a ta)(hb:PE X b tb){pins:List (Addr×Obj)}{s:Shared}{σ:St}{H:Hp}{R:V->V->Hp->Prop}(I:Inv X pins σ H s)(h:ta σ H fun x H1=>tb σ H1 fun y H2=>R x y H2)
 {α:Type}{Q:α->Shared->Prop}{f:Value->Value->Sem α}
 (hf:∀ v u s2 x y H2,Inv X pins σ H2 s2->RelV x v->RelV y u->R x y H2->wpAny (model X.prog X.w) X.A (f v u) Q X.xe s2) :
 wpAny (model X.prog X.w) X.A (eval a X.env) (fun v s₁=>wpAny (model X.prog X.w) X.A (eval b X.env) (fun u s₂=>wpAny (model X.prog X.w) X.A (f v u) Q X.xe s₂) X.xe s₁) X.xe s:=by
 refine thn (ha pins s σ H _ I h) fun v s1 ⟨x,H1,I1,r1,q1⟩=>?_;refine thn (hb pins s1 σ H1 _ I1 q1) fun u s2 ⟨y,H2,I2,r2,q2⟩=>?_;exact hf v u s2 x y H2 I2 r1 r2 q2
def di (i:Nat):TE:=fun σ H Q=>∃ v,σ[i]? = some (some v)/\Q v H
def tC (v:V):TE:=fun _ H Q=>Q v H
theorem ado {i:Nat}{x:Str}{pos:Pos}(hN:X.N[i]? = some x)(hv:Vis X.env.scope x)(hd:(x == ("__debug__" : Str))=false:=by decide)(hcd:(x == ("__classdict__" : Str))=false:=by decide):PE X (.Name x pos) (di i):=by
 intro pins s σ H Q I h;obtain⟨v,e,h⟩:=h;obtain⟨m,hn,hl⟩:=I.loc;obtain⟨u,r,l⟩:=hl i x v hN e hv;have fin:EP X pins σ Q u s:=⟨v,H,I,r,h⟩;rcases l with ⟨hk,hm⟩ | ⟨hk,c,hc,hcell⟩
 ·exact wpAny_Name (wpAny_loadName_local I.ok.kind hk hn hm fin) hd
 ·rcases hk with hk | hk
  ·exact wpAny_Name (wpAny_loadName_cell I.ok.kind hk hc hcell fin) hd
  ·exact wpAny_Name (wpAny_loadName_free I.ok.kind hk hc hcell fin hcd) hd
theorem aq {i j pos}:PE X (.Constant (.int i) j pos) (tC (.int i)):=fun _ _ _ H _ I h=>wpAny_Constant_int ⟨.int i,H,I.tok _,⟨_,rfl⟩,h⟩
theorem pU {b j pos}:PE X (.Constant (.bool b) j pos) (tC (.bl b)):=fun _ _ _ H _ I h=>Constant_bool ⟨.bl b,H,I,rfl,h⟩
theorem md {j pos}:PE X (.Constant .none j pos) (tC .non):=fun _ _ _ H _ I h=>Constant_none ⟨.non,H,I,rfl,h⟩
theorem au {x j pos}:PE X (.Constant (.str x) j pos) (tC (.str x)):=fun _ _ _ H _ I h=>Calls.Constant_str ⟨.str x,H,I.tok _,⟨_,rfl⟩,h⟩
def Gl (X:Cx)(x:Str):Prop:=X.env.kindOf x=some .globalImplicit
theorem fF {E:Value->Shared->Prop}{pins:List (Addr×Obj)}{s:Shared}{σ:St}{H:Hp}{x:Str}{u:Value}{pos:Pos}{Q:Value->Shared->Prop}(I:Inv X pins σ H s)(hg:Gl X x)(hm:X.mg x=some u)(h:Q u s)
 (hd:(x == ("__debug__" : Str))=false:=by decide):wpAny (model X.prog X.w) X.A (eval (.Name x pos) X.env) Q E s :=
 Calls.Name_function_global I.ok.kind hg (Calls.loadGlobal_global (by rw [I.ok.glob];exact I.mod.glob.keeps I.bk) hm h) hd
theorem pj {E:Value->Shared->Prop}{pins:List (Addr×Obj)}{s:Shared}{σ:St}{H:Hp}{x:Str}{u:Value}{pos:Pos}{Q:Value->Shared->Prop}(I:Inv X pins σ H s)(hg:Gl X x)(hm:X.mg x=none)(hv:bootBuiltins x=some u)(h:Q u s)
 (hn:x ≠ "__name__" := by decide)(hd:(x == ("__debug__" : Str))=false:=by decide):wpAny (model X.prog X.w) X.A (eval (.Name x pos) X.env) Q E s:=by
 obtain⟨mb,h1,h2⟩:=I.mod.blt;exact Calls.Name_function_global I.ok.kind hg (Calls.loadGlobal_builtin (by rw [I.ok.glob];exact I.mod.glob.keeps I.bk) hm (by rw [I.ok.blt];exact h1.keeps I.bk) ((h2 x hn).trans hv) h) hd
theorem dm {x:Str}{v:V}{u:Value}{pos:Pos}(hg:Gl X x)(hm:X.mg x=some u)(r:RelV v u)(hd:(x == ("__debug__" : Str))=false:=by decide):PE X (.Name x pos) (tC v) :=
 fun _ _ _ H _ I h=>fF I hg hm ⟨v,H,I,r,h⟩ hd
theorem eW {x:Str}{v:V}{u:Value}{pos:Pos}(hg:Gl X x)(hm:X.mg x=none)(hv:bootBuiltins x=some u)(r:RelV v u)(hn:x ≠ "__name__" := by decide)(hd:(x == ("__debug__" : Str))=false:=by decide):PE X (.Name x pos) (tC v) :=
 fun _ _ _ H _ I h=>pj I hg hm hv ⟨v,H,I,r,h⟩ hn hd
variable {a b:Expr}{ta tb:TE}{pos:Pos}
def PC (X:Cx)(op:CmpOp)(a b:Expr)(t:TE):Prop :=
 ∀ (pins:List (Addr×Obj)) (s:Shared) (σ:St) (H:Hp) (Q:VK),Inv X pins σ H s->t σ H Q →
  wpAny (model X.prog X.w) X.A (eval a X.env) (fun v s₁=>wpAny (model X.prog X.w) X.A (eval b X.env) (fun u s₂=>wpAny (model X.prog X.w) X.A (compareOp op v u) (EP X pins σ Q) X.xe s₂) X.xe s₁) X.xe s
def tB (t:TE):TT:=fun σ H Q=>t σ H fun x H1=>∃ c,x=.bl c/\Q c H1
theorem aa4 {op:CmpOp}{t:TE}(h:PC X op a b t)(h1:behindInMarks op b=false:=by first | exact nobehind _ (by decide) (by decide) | rfl):PT X (.Compare a [op] [b] pos) (tB t):=by
 intro pins s σ H Q I hw;refine wpAny_isTrue_Compare1 (thn (h pins s σ H _ I hw) fun v s1 h1=>thn h1 fun u s2 h2=>thn h2 fun c s3 ⟨x,H1,I1,r1,q1⟩=>?_) h1;obtain⟨d,rfl,q⟩:=q1;cases r1;exact afT ⟨H1,I1,q⟩
theorem eN {e:Expr}{t:TE}(h:PE X e t)(he:∀ whole,isTrue e X.env whole=(do let v ← whole;standAt e.pos;holding [v] (truthy v)):=by intro _;rfl):PT X e (tB t):=by
 intro pins s σ H Q I hw;refine isTrue_plain (thn (h pins s σ H _ I hw) fun v s1 ⟨x,H1,I1,r1,q1⟩=>?_) (he _);obtain⟨d,rfl,q⟩:=q1;cases r1;exact afT ⟨H1,I1,q⟩
variable {tA tB':TT}{rest:List Expr}
def adX (t u:TT):TT:=fun σ H Q=>t σ H fun c H1=>if c=true then u σ H1 Q else Q false H1
def tOr (t u:TT):TT:=fun σ H Q=>t σ H fun c H1=>if c=true then Q true H1 else u σ H1 Q
def adV (t:TT):TT:=fun σ H Q=>t σ H fun c H1=>Q (!c) H1
theorem oQ (ha:PT X a tA):PW X (.BoolOp .And [a] pos) tA:=by
 intro wh pins s σ H Q I h;refine isTrue_and (thn (ha pins s σ H Q I h) fun c s1 e=>?_);cases c with
 | true=>exact isTrue_and_nil e
 | false=>exact e
theorem jW (ha:PT X a tA):PW X (.BoolOp .Or [a] pos) tA:=by
 intro wh pins s σ H Q I h;refine isTrue_or (thn (ha pins s σ H Q I h) fun c s1 e=>?_);cases c with
 | false=>exact isTrue_or_nil e
 | true=>exact e
theorem rT (ha:PT X a tA)(hb:PW X (.BoolOp .And (b::rest) pos) tB'):PW X (.BoolOp .And (a::b::rest) pos) (adX tA tB'):=by
 intro wh pins s σ H Q I h;refine isTrue_and (thn (ha pins s σ H _ I h) fun c s1 ⟨H1,I1,q1⟩=>?_);cases c with
 | true=>exact hb wh pins s1 σ H1 Q I1 q1
 | false=>exact⟨H1,I1,q1⟩
theorem oX (ha:PT X a tA)(hb:PW X (.BoolOp .Or (b::rest) pos) tB'):PW X (.BoolOp .Or (a::b::rest) pos) (tOr tA tB'):=by
 intro wh pins s σ H Q I h;refine isTrue_or (thn (ha pins s σ H _ I h) fun c s1 ⟨H1,I1,q1⟩=>?_);cases c with
 | true=>exact⟨H1,I1,q1⟩
 | false=>exact hb wh pins s1 σ H1 Q I1 q1
theorem dq (ha:PT X a tA):PT X (.UnaryOp .Not a pos) (adV tA):=by
 intro pins s σ H Q I h;exact isTrue_not (ha pins s σ H (fun c H1=>Q (!c) H1) I h)
def ad6 (ta tb:TE):TE:=fun σ H Q=>ta σ H fun x H1=>∃ c,x=.bl c/\if c=true then tb σ H1 Q else Q (.bl false) H1
def aew (ta tb:TE):TE:=fun σ H Q=>ta σ H fun x H1=>∃ c,x=.bl c/\if c=true then Q (.bl true) H1 else tb σ H1 Q
def aeg (ta:TE):TE:=fun σ H Q=>ta σ H fun x H1=>∃ c,x=.bl c/\Q (.bl (!c)) H1
theorem lG {op}{t:TE}(h:PE X a t):PE X (.BoolOp op [a] pos) t:=fun pins s σ H Q I hw=>BoolOp_one (h pins s σ H Q I hw)
theorem jU (ha:PE X a ta)(hb:PE X (.BoolOp .And (b::rest) pos) tb):PE X (.BoolOp .And (a::b::rest) pos) (ad6 ta tb):=by
 intro pins s σ H Q I h;refine BoolOp_and (thn (ha pins s σ H _ I h) fun v s1 ⟨x,H1,I1,r1,q1⟩=>?_);obtain⟨c,rfl,q1⟩:=q1;cases r1;refine afT ?_;cases c with
 | true=>exact hb pins s1 σ H1 Q I1 q1
 | false=>exact⟨.bl false,H1,I1,rfl,q1⟩
theorem acN (ha:PE X a ta)(hb:PE X (.BoolOp .Or (b::rest) pos) tb):PE X (.BoolOp .Or (a::b::rest) pos) (aew ta tb):=by
 intro pins s σ H Q I h;refine BoolOp_or (thn (ha pins s σ H _ I h) fun v s1 ⟨x,H1,I1,r1,q1⟩=>?_);obtain⟨c,rfl,q1⟩:=q1;cases r1;refine afT ?_;cases c with
 | false=>exact hb pins s1 σ H1 Q I1 q1
 | true=>exact⟨.bl true,H1,I1,rfl,q1⟩
theorem aaR (ha:PE X a ta):PE X (.UnaryOp .Not a pos) (aeg ta):=by
 intro pins s σ H Q I h;refine UnaryOp_ (thn (ha pins s σ H _ I h) fun v s1 ⟨x,H1,I1,r1,q1⟩=>?_);obtain⟨c,rfl,q1⟩:=q1;cases r1;exact not_of (afT ⟨.bl (!c),H1,I1,rfl,q1⟩)
def tIf (t:TT)(ta tb:TE):TE:=fun σ H Q=>t σ H fun c H1=>if c=true then ta σ H1 Q else tb σ H1 Q
theorem mD {c:Expr}(hc:PT X c tA)(ha:PE X a ta)(hb:PE X b tb):PE X (.IfExp c a b pos) (tIf tA ta tb):=by
 intro pins s σ H Q I h;refine wpAny_IfExp (thn (hc pins s σ H _ I h) fun d s1 ⟨H1,I1,q1⟩=>?_);cases d with
 | true=>exact ha pins s1 σ H1 Q I1 q1
 | false=>exact hb pins s1 σ H1 Q I1 q1
end
def SqL (K:PySem.W.Frag)(H:Hp)(a:Addr)(xs:List V):Prop :=
 Rd H a (.lst xs) ∨
  ∃ (o:Obj) (its:Array Value) (n:Nat),K.lookup a=some o/\o.cls=.type "list" ∧ o.dict=none/\o.data=.seq its n/\its.size<=sizeLine/\Vals xs its.toList
def SqT (K:PySem.W.Frag)(H:Hp)(a:Addr)(xs:List V):Prop :=
 Rd H a (.tup xs) ∨
  ∃ (o:Obj) (its:Array Value) (n:Nat),K.lookup a=some o/\o.cls=.type "tuple" ∧ o.data=.seq its n/\its.size<=sizeLine/\Vals xs its.toList
def aeF:Value->Option V
 | .none=>some .non
 | .bool b=>some (.bl b)
 | .int i _=>some (.int i)
 | .str x _=>some (.str x)
 | .bytes b _=>some (.byt b)
 | .float b _=>some (.flt b)
 | .ref a=>some (.ref a)
 | .type n=>some (.ty n)
 | _=>none
theorem RelV.abs {x:V}{u:Value}(r:RelV x u):aeF u=some x:=by
 cases x with
 | non=>cases r;rfl
 | bl _=>cases r;rfl
 | int _=>obtain⟨t,rfl⟩:=r;rfl
 | str _=>obtain⟨t,rfl⟩:=r;rfl
 | byt _=>obtain⟨t,rfl⟩:=r;rfl
 | flt _=>obtain⟨t,rfl⟩:=r;rfl
 | ref _=>cases r;rfl
 | ty _=>cases r;rfl
theorem RelV.inj {x y:V}{u:Value}(r:RelV x u)(q:RelV y u):x=y:=afP (r.abs.symm.trans q.abs)
theorem Vals.inj:∀ {xs ys:List V} {us:List Value},Vals xs us->Vals ys us->xs=ys
 | _,_,_,.nil,.nil=>rfl
 | _,_,_,.cons r t,.cons r' t'=>by rw [r.inj r',Vals.inj t t']
section
variable {X:Cx}{pins:List (Addr×Obj)}{σ:St}{H:Hp}{s:Shared}{a:Addr}{xs ys:List V}
theorem SqL.of {K:PySem.W.Frag}(h:H a=some (.lst xs)):SqL K H a xs:=.inl (.inl h)
def aAA:=@SqL.of
theorem SqT.of {K:PySem.W.Frag}(h:H a=some (.tup xs)):SqT K H a xs:=.inl (.inl h)
def aAB:=@SqT.of
theorem Inv.list (I:Inv X pins σ H s)(h:SqL X.K H a xs):∃ its:List Value,Vals xs its/\PlainL s.heap a its.toArray/\xs.length<=sizeLine:=by
 rcases h with h | ⟨o,its,n,hk,hc,hd,hs,hz,r⟩
 ·obtain⟨z,its,n,r,e⟩:=h.ok I.hok;exact⟨its,r,⟨_,n,e,rfl,rfl,rfl⟩,z⟩
 ·refine⟨its.toList,r,⟨o,n,I.kIn a o hk,hc,hd,by simpa using hs⟩,?_⟩;have e:=r.length;simp only [afd] at e;lia
theorem Inv.tuple (I:Inv X pins σ H s)(h:SqT X.K H a xs):∃ its:List Value,Vals xs its/\IsTup s.heap a its.toArray/\xs.length<=sizeLine:=by
 rcases h with h | ⟨o,its,n,hk,hc,hs,hz,r⟩
 ·obtain⟨z,its,r,p⟩:=h.ok I.hok;exact⟨its,r,p,z⟩
 ·refine⟨its.toList,r,⟨o,I.kIn a o hk,hc,n,by simpa using hs⟩,?_⟩;have e:=r.length;simp only [afd] at e;lia
theorem Inv.list_inj (I:Inv X pins σ H s)(h:SqL X.K H a xs)(h':SqL X.K H a ys):xs=ys:=by
 obtain⟨its,r,⟨o,n,e,_,_,d⟩,_⟩:=I.list h;obtain⟨its',r',⟨o',n',e',_,_,d'⟩,_⟩:=I.list h';rw [e] at e';cases e';rw [d] at d';injection d' with d1 _
 have:its=its':=by simpa using afH Array.toList d1
 subst this;exact r.inj r'
end
abbrev Cx.wish (X:Cx)(E:Value->Shared->Prop):Cx:={ X with xe:=E }
abbrev Cx.nox (X:Cx):Cx:=X.wish fun _ _=>False
theorem Cx.Ok.wish {X:Cx}(ok:X.Ok)(E:Value->Shared->Prop):(X.wish E).Ok :=
 ⟨ok.mod,ok.kind,ok.glob,ok.blt,ok.above,ok.inj,ok.has,ok.cab,ok.hd,ok.frames,ok.stk,ok.exf,ok.bs,ok.bsz,ok.noex,ok.exfs,ok.funs,ok.frf⟩
theorem Cx.Ok.unwish {X:Cx}{E:Value->Shared->Prop}(ok:(X.wish E).Ok):X.Ok :=
 ⟨ok.mod,ok.kind,ok.glob,ok.blt,ok.above,ok.inj,ok.has,ok.cab,ok.hd,ok.frames,ok.stk,ok.exf,ok.bs,ok.bsz,ok.noex,ok.exfs,ok.funs,ok.frf⟩
section
variable {X:Cx}{pins:List (Addr×Obj)}{σ:St}{H:Hp}{s:Shared}{E:Value->Shared->Prop}
theorem Inv.wish (I:Inv X pins σ H s)(E:Value->Shared->Prop):Inv (X.wish E) pins σ H s:=⟨I.ok.wish E,I.os,I.bare,I.base,I.loc,I.cell,I.free,I.freeC,I.pin,I.hok,I.len⟩
theorem Inv.unwish (I:Inv (X.wish E) pins σ H s):Inv X pins σ H s:=⟨I.ok.unwish,I.os,I.bare,I.base,I.loc,I.cell,I.free,I.freeC,I.pin,I.hok,I.len⟩
theorem SP.unwish {D:vt}{f:Flow}{s':Shared}(h:SP (X.wish E) pins D f s'):SP X pins D f s':=by
 cases f with
 | next=>obtain⟨σ',H',I,q⟩:=h;exact⟨σ',H',I.unwish,q⟩
 | brk=>obtain⟨σ',H',I,q⟩:=h;exact⟨σ',H',I.unwish,q⟩
 | cont=>obtain⟨σ',H',I,q⟩:=h;exact⟨σ',H',I.unwish,q⟩
 | ret u=>obtain⟨v,σ',H',I,r,q⟩:=h;exact⟨v,σ',H',I.unwish,r,q⟩
theorem PSs.nox {st:List Stmt}{t:TS}(h:PSs X.nox st t):PSs X st t:=fun pins s σ H D I hw =>
 af6 (h pins s σ H D (I.wish _) hw) (fun _ _ q=>q.unwish) fun _ _ z=>False.elim z
end
section
variable {X:Cx}{st:Stmt}{rest:List Stmt}{t u:TS}{e:Expr}{te:TE}{pos:Pos}
def o8:TS:=fun D σ H=>D.nx σ H
def sU (t u:TS):TS:=fun D σ H=>t { D with nx:=u D } σ H
theorem aO:PSs X [] o8:=fun _ _ σ H _ I h=>ahW ⟨σ,H,I,h⟩
theorem ah (h1:PS X st t)(h2:PSs X rest u):PSs X (st::rest) (sU t u):=by
 intro pins s σ H D I h;refine wpAny_execs_cons (thn (h1 pins s σ H { D with nx:=u D } I h) fun f s1 q=>?_);cases f with
 | next =>
  obtain⟨σ',H',I',q⟩:=q;exact h2 pins s1 σ' H' D I' q
 | ret v=>exact q
 | brk=>exact q
 | cont=>exact q
theorem ao (h1:PS X st t):PSs X [st] t:=by
 intro pins s σ H D I h;refine wpAny_execs_cons (thn (h1 pins s σ H D I h) fun f s1 q=>?_);cases f with
 | next=>exact ahW q
 | ret v=>exact q
 | brk=>exact q
 | cont=>exact q
theorem Inv.quiet {pins:List (Addr×Obj)}{σ:St}{H:Hp}{s:Shared}(I:Inv X pins σ H s):interactive X.env=false:=by simp [interactive,I.ok.kind]
def abo (te:TE):TS:=fun D σ H=>te σ H fun _ H1=>D.nx σ H1
theorem bW (he:PE X e te)(hs:swapsWith e none pos.line X.env=pure false:=by rfl):PS X (.Expr e pos) (abo te):=by
 intro pins s σ H D I h;exact wpAny_Expr_any (thn (he pins s σ H _ I h) fun v s1 ⟨x,H1,I1,r1,q1⟩=>⟨σ,H1,I1,q1⟩) I.quiet hs
def wt (te:TE):TS:=fun D σ H=>te σ H D.rt
theorem aE (he:PE X e te):PS X (.Return (some e) pos) (wt te):=by
 intro pins s σ H D I h;exact wpAny_Return_some (thn (he pins s σ H _ I h) fun v s1 ⟨x,H1,I1,r1,q1⟩=>⟨x,σ,H1,I1,r1,q1⟩)
def acL (c:TT)(t u:TS):TS:=fun D σ H=>c σ H fun b H1=>if b=true then t D σ H1 else u D σ H1
theorem bO {c:Expr}{a b:List Stmt}{tc:TT}(hc:PT X c tc)(ha:PSs X a t)(hb:PSs X b u):PS X (.If c a b pos) (acL tc t u):=by
 intro pins s σ H D I h;refine wpAny_If (thn (hc pins s σ H _ I h) fun d s1 ⟨H1,I1,q1⟩=>?_);cases d with
 | true=>exact ha pins s1 σ H1 D I1 q1
 | false=>exact hb pins s1 σ H1 D I1 q1
def acR:TS:=fun _ _ _=>False
theorem gQ {sts:List Stmt}:PSs X sts acR:=fun _ _ _ _ _ _ h=>h.elim
end
abbrev TG:=V->St->Hp->(St->Hp->Prop)->Prop
abbrev TGs:=List V->St->Hp->(St->Hp->Prop)->Prop
def PG (X:Cx)(target:Expr)(t:TG):Prop :=
 ∀ (pins:List (Addr×Obj)) (s:Shared) (σ:St) (H:Hp) (v:V) (u:Value) (Q:St->Hp->Prop),Inv X pins σ H s->RelV v u->t v σ H Q →
  wpAny (model X.prog X.w) X.A (assign target X.env u) (fun _ s'=>∃ σ' H',Inv X pins σ' H' s'/\Q σ' H') X.xe s
def PGs (X:Cx)(ts:List Expr)(t:TGs):Prop :=
 ∀ (pins:List (Addr×Obj)) (s:Shared) (σ:St) (H:Hp) (vs:List V) (us:List Value) (Q:St->Hp->Prop),Inv X pins σ H s->Vals vs us->t vs σ H Q →
  wpAny (model X.prog X.w) X.A (assignInOrder ((assignEach ts X.env).map (·.2)) us) (fun _ s'=>∃ σ' H',Inv X pins σ' H' s'/\Q σ' H') X.xe s
abbrev ad0:=V->V->V->Hp->(Hp->Prop)->Prop
def aeq (X:Cx)(t:ad0):Prop :=
 ∀ (pins:List (Addr×Obj)) (s:Shared) (σ:St) (H:Hp) (o i v:V) (ov iv u:Value) (Q:Hp->Prop),Inv X pins σ H s->RelV o ov->RelV i iv->RelV v u->t o i v H Q →
  wpAny (model X.prog X.w) X.A (setItem ov iv u) (fun _ s'=>∃ H',Inv X pins σ H' s'/\Q H') X.xe s
section
variable {X:Cx}{pos:Pos}
def gh (i:Nat):TG:=fun v σ H Q=>Q (σ.set i (some v)) H
theorem aA {i:Nat}{x:Str}(hN:X.N.Nodup)(hi:X.N[i]? = some x)(hx:Loc X.env.scope x)(hf:X.fn x=true\/X.env.scope.names.lookup x=some .local:=by first | exact .inl rfl | exact .inr rfl | assumption):PG X (.Name x pos) (gh i):=by
 intro pins s σ H v u Q I r h;exact wpAny_assign_Name (uU I hN hi hx r (fun s' I'=>⟨_,H,I',h⟩) hf)
def aeN:TGs:=fun vs σ H Q=>vs=[]/\Q σ H
def ad5 (t:TG)(u:TGs):TGs:=fun vs σ H Q=>∃ v r,vs=v::r/\t v σ H fun σ' H'=>u r σ' H' Q
theorem cU:PGs X [] aeN:=by
 intro pins s σ H vs us Q I r h;obtain⟨e,h⟩:=h;subst e;cases r;exact assignInOrder_nil ⟨σ,H,I,h⟩
theorem aM {e:Expr}{es:List Expr}{t:TG}{u:TGs}(h1:PG X e t)(h2:PGs X es u)
 (hs:(assignEach (e::es) X.env).map (·.2)=assign e X.env::(assignEach es X.env).map (·.2):=by rfl):PGs X (e::es) (ad5 t u):=by
 intro pins s σ H vs us Q I r h;obtain⟨v,vr,e1,h⟩:=h;subst e1;cases r with
 | cons r rr =>
  rw [hs];refine assignInOrder_cons (thn (h1 pins s σ H _ _ _ I r h) fun _ s1 ⟨σ1,H1,I1,q1⟩=>?_);exact h2 pins s1 σ1 H1 _ _ Q I1 rr q1
def aeJ (K:PySem.W.Frag)(n:Nat)(t:TGs):TG:=fun v σ H Q=>∃ a xs,v=.ref a/\SqT K H a xs/\xs.length=n/\t xs σ H Q
theorem gz {es:List Expr}{k:Nat}{t:TGs}{n:Nat}(hc:X.calm=true)(h:PGs X es t)
 (hn:(assignEach es X.env).length=n:=by rfl)(hst:(assignEach es X.env).findIdx? (·.1)=none:=by rfl):PG X (.Tuple es k pos) (aeJ X.K n t):=by
 intro pins s σ H v u Q I r hw;obtain⟨a,xs,e1,hq,hl,hw⟩:=hw;subst e1;cases r;obtain⟨its,rv,ht,hz⟩:=I.tuple hq;refine assign_Tuple_tuple (I.ok.hd hc) ht (by simp [hn,← hl,rv.length]) hst fun h' hx=>?_;have I1:Inv X pins σ H { s with heap:=h' }:=I.kept (t':=s.toks) fun b o e=>hx b o (afq (afb e)) e;exact h pins _ σ H xs _ Q I1 (by simpa using rv) hw
def aei (to ti:TE)(t:ad0):TG:=fun v σ H Q=>to σ H fun o H1=>ti σ H1 fun i H2=>t o i v H2 fun H3=>Q σ H3
theorem xX {o i:Expr}{to ti:TE}{t:ad0}(ho:PE X o to)(hi:PE X i ti)(hs:aeq X t)
 (ha:∀ v,assign (.Subscript o i pos) X.env v=(do
  let ov ← holding [v] (eval o X.env)
  let iv ← holding [v,ov] (eval i X.env)
  standAt pos
  holding [v,ov,iv] (setItem ov iv v)
  release [v,ov,iv] []):=by intro _;rfl):PG X (.Subscript o i pos) (aei to ti t):=by
 intro pins s σ H v u Q I r h;rw [ha];refine aeU (afJ (thn (ho pins s σ H _ I h) fun ov s1 ⟨x,H1,I1,r1,q1⟩=>?_));refine aeU (afJ (thn (hi pins s1 σ H1 _ I1 q1) fun iv s2 ⟨y,H2,I2,r2,q2⟩=>?_));refine aeU (ahj (aeU (afJ (thn (hs pins s2 σ H2 x y v ov iv u _ I2 r1 r2 r q2) fun _ s3 ⟨H3,I3,q3⟩=>?_))));exact wpAny_release ⟨σ,H3,I3,q3⟩
def vf (te:TE)(g:TG):TS:=fun D σ H=>te σ H fun x H1=>g x σ H1 D.nx
theorem gv {tg e:Expr}{te:TE}{g:TG}(he:PE X e te)(hg:PG X tg g)(hs:swapsWithSole [tg] e pos.line X.env=pure false:=by rfl)(hw:swappedStores [tg] e X.env=pure none:=by rfl)
 (h1:(assignEach [tg] X.env).map (·.2)=[assign tg X.env]:=by rfl):PS X (.Assign [tg] e pos) (vf te g):=by
 intro pins s σ H D I h;refine wpAny_Assign_stores (thn (he pins s σ H _ I h) fun v s1 ⟨x,H1,I1,r1,q1⟩=>?_) hs hw;rw [h1];exact thn (hg pins s1 σ H1 x v _ I1 r1 q1) fun _ s2 q=>q
theorem aL {i:Nat}{x:Str}{e:Expr}{te:TE}{pos':Pos}(hN:X.N.Nodup)(hi:X.N[i]? = some x)(hx:Loc X.env.scope x)(he:PE X e te)(hs:swapsWith e (some (.Name x pos')) pos.line X.env=pure false:=by rfl)(hf:X.fn x=true\/X.env.scope.names.lookup x=some .local:=by first | exact .inl rfl | exact .inr rfl | assumption) :
 PS X (.Assign [.Name x pos'] e pos) (vf te (gh i)):=by
 intro pins s σ H D I h;refine wpAny_Assign_Name (thn (he pins s σ H _ I h) fun v s1 ⟨y,H1,I1,r1,q1⟩=>?_) hs;exact uU I1 hN hi hx r1 (fun s2 I2=>⟨_,H1,I2,q1⟩) hf
end
section
variable {X:Cx}{pos:Pos}
end
structure It where
 go:Nat->Hp->Prop
 yld:Nat->Hp->V->Hp->Prop
 stop:Nat->Hp->Prop
def sg (X:Cx)(pins:List (Addr×Obj))(H:Hp)(b:Addr):Prop :=
 H b=none/\b≠X.env.locals/\b ∉ X.fs/\(b∈X.ex\/X.s₀.heap.objs.size<=b)/\(∀ x c,X.env.cells.lookup x=some c->c≠b)/\∀ p∈X.pn++pins,p.1≠b
theorem Inv.fpOk {X:Cx}{pins:List (Addr×Obj)}{σ:St}{H H':Hp}{s:Shared}{b:Addr}(I:Inv X pins σ H s)(hb:s.heap.objs.size<=b)(hn:H' b=none):sg X pins H' b:=by
 refine⟨hn,aj3 (ae9 I.lt hb),I.nofs hb,.inr (afC I.sz hb),fun x c e z=>?_,fun p hp z=>?_⟩
 ·obtain⟨v,q⟩:=I.cell x c e;exact absurd (ae9 q.lt (by rw [z];exact hb)) (agu _)
 ·exact absurd (ae9 (afb (I.pin p hp).1) (by rw [z];exact hb)) (agu _)
structure ady (P:Program)(w:World)(K:PySem.W.Frag)(tg:Expr)(J:It)(fp:List Addr)(it:Addr)(tn:Nat->Heap->Prop):Prop where
 mem:it∈fp
 obj:∀ i h,tn i h->∀ b∈fp,∃ o,h.get? b=some o/\∀ v,o.data≠.cell v
 keep:∀ i h h',tn i h->(∀ b∈fp,∀ o,h.get? b=some o->h'.get? b=some o)->tn i h'
 item:∀ (X:Cx),X.prog=P->X.w=w->X.K=K->X.calm=true->∀ (i:Nat) (pins:List (Addr×Obj)) (s:Shared) (σ:St) (H:Hp) (E:Value->Shared->Prop),Inv X pins σ H s->(∀ b∈fp,sg X pins H b)->tn i s.heap->J.go i H →
  wpAny (model P w) X.A (pyNext (.ref it)) (fun r s1=>∃ u,r=some u ∧
   wpAny (model P w) X.A (letOwnedTupleGo tg (.ref it) u) (fun _ s2=>∃ x H',Inv X pins σ H' s2/\RelV x u/\J.yld i H x H'/\tn (i+1) s2.heap/\∀ b∈fp,H' b=none) E s1) E s
 done:∀ (X:Cx),X.prog=P->X.w=w->X.K=K->X.calm=true->∀ (i:Nat) (pins:List (Addr×Obj)) (s:Shared) (σ:St) (H:Hp) (E:Value->Shared->Prop),Inv X pins σ H s->(∀ b∈fp,sg X pins H b)->tn i s.heap->J.stop i H →
  wpAny (model P w) X.A (pyNext (.ref it)) (fun r s1=>r=none/\Inv X pins σ H s1) E s
 self:∀ (A:Around) (i:Nat) (s:Shared) (Q:Value->Shared->Prop) (E:Value->Shared->Prop),tn i s.heap->Q (.ref it) s->wpAny (model P w) A (pyIter (.ref it)) Q E s
abbrev TI:=St->Hp->(It->Hp->Prop)->Prop
def PIE (X:Cx)(pins:List (Addr×Obj))(σ:St)(tg:Expr)(R:It->Hp->Prop)(itv:Value)(s2:Shared):Prop :=
 ∃ (it:Addr) (fp:List Addr) (tn:Nat->Heap->Prop) (J:It) (H':Hp),itv=.ref it/\Inv X pins σ H' s2/\ady X.prog X.w X.K tg J fp it tn/\tn 0 s2.heap/\(∀ b∈fp,sg X pins H' b)/\R J H'
def PI (X:Cx)(tg iter:Expr)(wi:TI):Prop :=
 ∀ (pins:List (Addr×Obj)) (s:Shared) (σ:St) (H:Hp) (R:It->Hp->Prop),Inv X pins σ H s->wi σ H R →
  wpAny (model X.prog X.w) X.A (eval iter X.env) (fun v s1=>wpAny (model X.prog X.w) X.A (pyIter v) (PIE X pins σ tg R) X.xe s1) X.xe s
theorem adu {M:Model}{A:Around}{E:Value->Shared->Prop}{s:Shared}{tg:Expr}{it:Addr}{u:Value}{o:Obj}{n:String}{vs:Array Value}{Q:Unit->Shared->Prop}(ho:s.heap.get? it=some o)(hc:o.cls=.type n)(hd:o.data=.fields vs)
 (hn:["enumerate","zip","dict_itemiterator","dict_reverseitemiterator","odict_iterator","itertools.zip_longest","itertools.pairwise"].contains n=false)(hQ:Q () s):wpAny M A (letOwnedTupleGo tg (.ref it) u) Q E s:=by
 unfold letOwnedTupleGo;cases tg<;>first
  | exact ae3 hQ
  | (cases u<;>first
   | exact ae3 hQ
   | (refine aeU (wpAny_load ho ?_);rw [hc,hd];show wpAny M A (if (["enumerate","zip","dict_itemiterator","dict_reverseitemiterator","odict_iterator","itertools.zip_longest","itertools.pairwise"].contains n && vs[0]? == some (rawInt _))=true then _ else _) Q E s;rw [if_neg (by intro h;rw [hn,Bool.false_and] at h;cases h)];exact ae3 hQ))
def Itl (K:PySem.W.Frag)(a:Addr):It :=
 ⟨fun i H=>∃ xs x,SqL K H a xs/\xs[i]? = some x,fun i H x H'=>H'=H/\∀ xs,SqL K H a xs->xs[i]? = some x,fun i H=>∃ xs,SqL K H a xs/\xs.length<=i⟩
def Itr (lo:Int)(n:Nat):It:=⟨fun i _=>i < n,fun i H x H'=>H'=H/\x=.int (lo+i),fun i _=>n<=i⟩
theorem yf {P:Program}{w:World}{K:PySem.W.Frag}{tg:Expr}(a it:Addr):ady P w K tg (Itl K a) [it] it (fun i h=>h.IsListIter it a i) where
 mem:=by simp
 obj:=fun i h st b hb=>by
  have e:b=it:=by simpa using hb
  subst e;obtain⟨o,e,c,d⟩:=st;exact⟨o,e,fun v z=>by rw [d] at z;cases z⟩
 keep:=fun i h h' st k=>st.at fun o e=>k it (by simp) o e
 item:=by
  intro X hP hw hK hc i pins s σ H E I hf st hg;subst hP hw hK;obtain⟨xs,x,hq,hx⟩:=hg;obtain⟨its,rv,p,hz⟩:=I.list hq;obtain⟨u,hu,ru⟩:=rv.get hx;obtain⟨f0,f1,f2,f3,f4,f5⟩:=hf it (by simp);refine wpAny_pyNext_list_item st p.isList (x:=u) (by simpa using hu) fun h' st' sb=>?_;have I1:Inv X pins σ H { s with heap:=h' }:=I.turned (t':=s.toks) (fun b o hb e=>(sb.2 b hb).trans e) f0 f1 f3 f4 f5;obtain⟨o,e,c,d⟩:=id st';exact⟨u,rfl,adu (s:={ s with heap:=h' }) e c d (by decide) ⟨x,H,I1,ru,⟨rfl,fun ys hy=>by rw [I.list_inj hy hq];exact hx⟩,st',fun b hb=>(hf b hb).1⟩⟩
 done:=by
  intro X hP hw hK hc i pins s σ H E I hf st hg;subst hP hw hK;obtain⟨xs,hq,hx⟩:=hg;obtain⟨its,rv,p,hz⟩:=I.list hq;obtain⟨f0,f1,f2,f3,f4,f5⟩:=hf it (by simp);have hl:=rv.length;exact wpAny_pyNext_list_end (I.ok.hd hc) st p.isList (by simp;lia) fun h' eb=>⟨rfl,I.turned (t':=s.toks) (fun b o hb e=>eb b o hb e) f0 f1 f3 f4 f5⟩
 self:=fun _ _ _ _ _ st h=>wpAny_pyIter_listiter st h
theorem vZ {P:Program}{w:World}{K:PySem.W.Frag}{tg:Expr}(it:Addr)(lo:Int)(n:Nat):ady P w K tg (Itr lo n) [it] it (fun i h=>IsRangeIter h it (lo+(i:Nat) * 1) ((n:Int) - (i:Nat)) 1) where
 mem:=by simp
 obj:=fun i h st b hb=>by
  have e:b=it:=by simpa using hb
  subst e;exact⟨_,st,fun v z=>by
   have z':Data.fields _=Data.cell v:=z;cases z'⟩
 keep:=fun i h h' st k=>k it (by simp) _ st
 item:=by
  intro X hP hw hK hc i pins s σ H E I hf st hg;subst hP hw hK;obtain⟨f0,f1,f2,f3,f4,f5⟩:=hf it (by simp);have W:=Walks.range (prog:=X.prog) (w:=X.w) (I.ok.hd hc) it lo 1 n;refine W.item i s _ _ hg st fun v h' tk hv st' kk=>?_;obtain⟨t,rfl⟩:=hv;have I1:Inv X pins σ H { s with heap:=h',toks:=tk }:=I.turned (fun b o hb e=>kk b o (by simpa using hb) e) f0 f1 f3 f4 f5;refine⟨_,rfl,adu (s:={ s with heap:=h',toks:=tk }) (n := "range_iterator") st' rfl rfl (by decide) ⟨.int (lo+i),H,I1,⟨t,?_⟩,⟨rfl,rfl⟩,st',fun b hb=>(hf b hb).1⟩⟩;rw [Int.mul_one]
 done:=by
  intro X hP hw hK hc i pins s σ H E I hf st hg;subst hP hw hK;obtain⟨f0,f1,f2,f3,f4,f5⟩:=hf it (by simp);exact wpAny_pyNext_range_end (I.ok.hd hc) st (by have:n<=i:=hg;lia) fun h' eb=>⟨rfl,I.turned (t':=s.toks) (fun b o hb e=>eb b o hb e) f0 f1 f3 f4 f5⟩
 self:=fun _ _ _ _ _ st h=>wpAny_pyIter_rangeiter st h
section
variable {X:Cx}{tg:Expr}
def adR (K:PySem.W.Frag)(tl:TE):TI:=fun σ H R=>tl σ H fun x H1=>∃ a,x=.ref a/\(∃ xs,SqL K H1 a xs)/\R (Itl K a) H1
theorem dy {l:Expr}{tl:TE}(hl:PE X l tl):PI X tg l (adR X.K tl):=by
 intro pins s σ H R I h;refine thn (hl pins s σ H _ I h) fun v s1 ⟨x,H1,I1,r1,q1⟩=>?_;obtain⟨a,e,⟨xs,hq⟩,q⟩:=q1;subst e;cases r1;obtain⟨its,rv,p,hz⟩:=I1.list hq;refine aij p.isList ?_;refine⟨s1.heap.objs.size,[s1.heap.objs.size],_,_,H1,rfl,I1.kept (t':=s1.toks) fun b o e=>ae0 _ e,yf a _,⟨_,afo _ rfl,rfl,rfl⟩,fun b hb=>?_,q⟩;have e:b=s1.heap.objs.size:=by simpa using hb
 subst e;exact I1.fpOk (ae4 _) (I1.hok.fresh (ae4 _))
theorem uA {pins:List (Addr×Obj)}{σ:St}{H:Hp}{s:Shared}{R:It->Hp->Prop}{E:Value->Shared->Prop}{lo hi:Int}{t u v:Tok}{tk:Nat}(I:Inv X pins σ H s)(h1:-(2 ^ 62)<=lo)(h2:lo < 2 ^ 62)(h3:-(2 ^ 62)<=hi)(h4:hi < 2 ^ 62)
 (q:R (Itr lo (hi - lo).toNat) H):wpAny (model X.prog X.w) X.A (pyIter (.ref s.heap.objs.size)) (PIE X pins σ tg R) E { s with heap:=s.heap.push { cls:=.type "range",data:=.fields #[.int lo t,.int hi u,.int 1 v] },toks:=tk }:=by
 refine wpAny_pyIter_range (IsRange.new ..) (small_one h1 h2 h3 h4) ?_;have I1:Inv X pins σ H { s with heap:=s.heap.push { cls:=.type "range",data:=.fields #[.int lo t,.int hi u,.int 1 v] },toks:=tk }:=I.kept fun b o e=>ae0 _ e;refine⟨(s.heap.push { cls:=.type "range",data:=.fields #[.int lo t,.int hi u,.int 1 v] }).objs.size,[(s.heap.push { cls:=.type "range",data:=.fields #[.int lo t,.int hi u,.int 1 v] }).objs.size],_,_,H,rfl,
  I1.kept (t':=tk) fun b o e=>ae0 _ e,vZ _ lo (hi - lo).toNat,?_,fun b hb=>?_,q⟩
 ·have e1:lo+((0:Nat):Int) * 1=lo:=by simp
  have e2:(((hi - lo).toNat:Nat):Int) - ((0:Nat):Int)=Builtin.Range.rangeSize lo hi 1:=by rw [rangeSize_one];split<;>lia
  show IsRangeIter _ _ (lo+((0:Nat):Int) * 1) ((((hi - lo).toNat:Nat):Int) - ((0:Nat):Int)) 1;rw [e1,e2];exact afo _ rfl
 ·have e:b=(s.heap.push { cls:=.type "range",data:=.fields #[.int lo t,.int hi u,.int 1 v] }).objs.size:=by simpa using hb
  subst e;exact I1.fpOk (ae4 _) (I1.hok.fresh (ae4 _))
def acK (ta:TA):TI:=fun σ H R=>ta σ H fun vs H1=>∃ j:Int,vs=[.int j]/\-(2 ^ 62)<=j/\j < 2 ^ 62/\R (Itr 0 j.toNat) H1
def ael (ta:TA):TI:=fun σ H R=>ta σ H fun vs H1=>∃ i j:Int,vs=[.int i,.int j]/\(-(2 ^ 62)<=i/\i < 2 ^ 62/\-(2 ^ 62)<=j/\j < 2 ^ 62)/\R (Itr i (j - i).toNat) H1
theorem cq {a:Expr}{ta:TA}{p pos:Pos}(hg:Gl X "range")(hm:X.mg "range" = none)(ha:PA X [a] ta)(hs:starEach [a] X.env=[(false,eval a X.env)]:=by rfl):PI X tg (.Call (.Name "range" p) [a] [] pos) (acK ta):=by
 intro pins s σ H R I h;refine Call_ (pj I hg hm boot_range (agl (thn (ha pos pins s σ H _ I h) fun us s1 ⟨vs,H1,I1,r1,q1⟩=>?_) hs rfl));obtain⟨j,e,q1,q2,q⟩:=q1;subst e;cases r1 with
 | cons r rr =>
  cases rr;obtain⟨t,rfl⟩:=r;exact call_range_1 (uA I1 (by lia) (by lia) q1 q2 (by simpa using q))
theorem w8 {a b:Expr}{ta:TA}{p pos:Pos}(hg:Gl X "range")(hm:X.mg "range" = none)(ha:PA X [a,b] ta)(hs:starEach [a,b] X.env=[(false,eval a X.env),(false,eval b X.env)]:=by rfl)(hs2:starEach [b] X.env=[(false,eval b X.env)]:=by rfl) :
 PI X tg (.Call (.Name "range" p) [a,b] [] pos) (ael ta):=by
 intro pins s σ H R I h;refine Call_ (pj I hg hm boot_range (agl (thn (ha pos pins s σ H _ I h) fun us s1 ⟨vs,H1,I1,r1,q1⟩=>?_) (by rw [hs,hs2]) (by rw [hs2];rfl)));obtain⟨i,j,e,⟨q1,q2,q3,q4⟩,q⟩:=q1;subst e;cases r1 with
 | cons r rr =>
  cases rr with
  | cons r' rr =>
   cases rr;obtain⟨t,rfl⟩:=r;obtain⟨t',rfl⟩:=r';exact call_range_2 (uA I1 q1 q2 q3 q4 q)
def aep (wi:TI)(g:TG)(tb:TS):TS:=fun D σ H=>wi σ H fun J H1=>∃ W:Nat->Nat->St->Hp->Prop,(∃ m,W 0 m σ H1)/\∀ i m σ H,W i m σ H →
 (J.stop i H/\D.nx σ H)\/(J.go i H/\∃ N:St->Hp->Prop,(∀ σ' H',N σ' H'->∃ m',m' < m/\W (i+1) m' σ' H')/\∀ x H',J.yld i H x H'->g x σ H' fun σ2 H2=>tb { D with nx:=N,ct:=N,bk:=D.nx } σ2 H2)
def pD (fp:List Addr)(h:Heap):List (Addr×Obj):=fp.filterMap fun b=>(h.get? b).map fun o=>(b,o)
theorem fo {fp:List Addr}{h:Heap}{b:Addr}{o:Obj}(hb:b∈fp)(e:h.get? b=some o):(b,o)∈pD fp h:=List.mem_filterMap.mpr ⟨b,hb,by rw [e];rfl⟩
theorem zk {fp:List Addr}{h:Heap}{p:Addr×Obj}(hp:p∈pD fp h):p.1∈fp/\h.get? p.1=some p.2:=by
 obtain⟨b,hb,e⟩:=List.mem_filterMap.mp hp;cases q:h.get? b with
 | none=>rw [q] at e;cases e
 | some o =>
  rw [q] at e;have e':(b,o)=p:=afP e;subst e';exact⟨hb,q⟩
theorem Inv.pinned {pins:List (Addr×Obj)}{σ:St}{H:Hp}{s:Shared}{fp:List Addr}(I:Inv X pins σ H s)(hf:∀ b∈fp,sg X pins H b)(ho:∀ b∈fp,∃ o,s.heap.get? b=some o/\∀ v,o.data≠.cell v):Inv X (pins++pD fp s.heap) σ H s :=
 I.pins_of fun p hp=>(afc.mp hp).elim (fun z=>I.pin p (ae8 _ z)) fun z=>by
  obtain⟨hb,e⟩:=zk z;obtain⟨f0,f1,f2,_⟩:=hf p.1 hb;obtain⟨o,e',d⟩:=ho p.1 hb;rw [e] at e';cases e';exact⟨e,f0,f1,f2,d⟩
theorem Inv.unpinned {pins pl:List (Addr×Obj)}{σ:St}{H:Hp}{s:Shared}(I:Inv X (pins++pl) σ H s):Inv X pins σ H s:=I.pins_of fun p hp=>I.pin p (ae8 _ (afA _ hp))
theorem gj {iter:Expr}{body:List Stmt}{wi:TI}{g:TG}{tb:TS}{pos:Pos}(hp:PassesOwn (model X.prog X.w) X.A X.env X.xe)(hc:X.calm=true)(hi:PI X tg iter wi)(hg:PG X tg g)(hb:PSs X body tb)
 (hs:∀ x,foldedSetIterable iter X.env x=pure x:=by intro _;rfl):PS X (.For tg iter body [] pos) (aep wi g tb):=by
 intro pins s σ H D I h;refine wpAny_For (thn (hi pins s σ H _ I h) fun v s1 h1=>thn h1 fun itv s2 h2=>?_) hs;obtain⟨it,fp,tn,J,H2,e,I2,T,st2,f2,W,⟨m0,w0⟩,turn⟩:=h2;subst e;have stat:∀ {H':Hp},(∀ b∈fp,H' b=none)->∀ b∈fp,sg X pins H' b:=fun hn b hb=>⟨hn b hb,(f2 b hb).2⟩;refine codeAny_forLoop_any (fun n s'=>∃ i σ' H',Inv X pins σ' H' s'/\tn i s'.heap/\(∀ b∈fp,H' b=none)/\W i n σ' H') ?_ m0 ⟨0,σ,H2,I2,st2,fun b hb=>(f2 b hb).1,w0⟩;rintro n s3 ⟨i,σ3,H3,I3,st3,fr3,w3⟩;rcases turn i n σ3 H3 w3 with ⟨stop,qn⟩ | ⟨go,N,hN,step⟩
 ·refine ahk hp (thn (T.done X rfl rfl rfl hc i pins s3 σ3 H3 X.xe I3 (stat fr3) st3 stop) fun r s4 ⟨hr,I4⟩=>?_);subst hr;exact ahW ⟨σ3,H3,I4,qn⟩
 ·refine ahk hp (thn (T.item X rfl rfl rfl hc i pins s3 σ3 H3 X.xe I3 (stat fr3) st3 go) fun r s4 ⟨u,hr,h4⟩=>?_);subst hr;refine ahk hp (thn h4 fun _ s5 ⟨x,H5,I5,r5,y5,st5,fr5⟩=>?_);have I5':=I5.pinned (stat fr5) (T.obj _ _ st5);refine ahk hp (thn (hg _ s5 σ3 H5 x u _ I5' r5 (step x H5 y5)) fun _ s6 ⟨σ6,H6,I6,q6⟩=>?_);refine ahk hp (thn (hb _ s6 σ6 H6 _ I6 q6) fun f s7 q7=>?_);have again:∀ {σ7:St} {H7:Hp},Inv X (pins++pD fp s5.heap) σ7 H7 s7->N σ7 H7->∃ m,m < n/\∃ i σ' H',Inv X pins σ' H' s7/\tn i s7.heap/\(∀ b∈fp,H' b=none)/\W i m σ' H':=fun {σ7 H7} I7 n7=>by
   obtain⟨m',hm,w7⟩:=hN σ7 H7 n7;refine⟨m',hm,i+1,σ7,H7,I7.unpinned,T.keep _ _ _ st5 fun b hb o e=>(I7.pin (b,o) (ae8 _ (ae8 _ (fo hb e)))).1,fun b hb=>?_,w7⟩;obtain⟨o,e,d⟩:=T.obj _ _ st5 b hb;exact (I7.pin (b,o) (ae8 _ (ae8 _ (fo hb e)))).2.1
  cases f with
  | next=>obtain⟨σ7,H7,I7,n7⟩:=q7;exact again I7 n7
  | cont=>obtain⟨σ7,H7,I7,n7⟩:=q7;exact again I7 n7
  | brk=>obtain⟨σ7,H7,I7,q7⟩:=q7;exact⟨σ7,H7,I7.unpinned,q7⟩
  | ret v=>obtain⟨x7,σ7,H7,I7,r7,q7⟩:=q7;exact⟨x7,σ7,H7,I7.unpinned,r7,q7⟩
end
theorem kE {K:PySem.W.Frag}{a:Addr}{xs:List V}{g:TG}{tb:TS}{D:vt}{σ:St}{H:Hp}(Pv:Nat->St->Hp->Prop)(h0:Pv 0 σ H)(hl:∀ i σ H,i<=xs.length->Pv i σ H->SqL K H a xs)
 (hs:∀ i x σ H,xs[i]? = some x->Pv i σ H->g x σ H fun σ2 H2=>tb { D with nx:=Pv (i+1),ct:=Pv (i+1),bk:=D.nx } σ2 H2)(hd:∀ σ H,Pv xs.length σ H->D.nx σ H) :
 ∃ W:Nat->Nat->St->Hp->Prop,(∃ m,W 0 m σ H)/\∀ i m σ H,W i m σ H →
  ((Itl K a).stop i H/\D.nx σ H)\/((Itl K a).go i H/\∃ N:St->Hp->Prop,(∀ σ' H',N σ' H'->∃ m',m' < m/\W (i+1) m' σ' H')/\∀ x H',(Itl K a).yld i H x H'->g x σ H' fun σ2 H2=>tb { D with nx:=N,ct:=N,bk:=D.nx } σ2 H2):=by
 refine⟨fun i m σ H=>m=xs.length - i/\i<=xs.length/\Pv i σ H,⟨xs.length,by simp,afh _,h0⟩,?_⟩;rintro i m σ H ⟨rfl,hi,p⟩;have q:=hl i σ H hi p;by_cases hlt:i < xs.length
 ·refine .inr ⟨⟨xs,xs[i],q,by simp [hlt]⟩,Pv (i+1),fun σ' H' p'=>⟨xs.length - (i+1),by lia,rfl,hlt,p'⟩,fun x H' y=>?_⟩;obtain⟨e,y⟩:=y;subst e;exact hs i x σ _ (y xs q) p
 ·have e:i=xs.length:=by lia
  subst e;exact .inl ⟨⟨xs,q,ae4 _⟩,hd σ H p⟩
theorem fZ {lo:Int}{n:Nat}{g:TG}{tb:TS}{D:vt}{σ:St}{H:Hp}(Pv:Nat->St->Hp->Prop)(h0:Pv 0 σ H)
 (hs:∀ i σ H,i < n->Pv i σ H->g (.int (lo+i)) σ H fun σ2 H2=>tb { D with nx:=Pv (i+1),ct:=Pv (i+1),bk:=D.nx } σ2 H2)(hd:∀ σ H,Pv n σ H->D.nx σ H) :
 ∃ W:Nat->Nat->St->Hp->Prop,(∃ m,W 0 m σ H)/\∀ i m σ H,W i m σ H →
  ((Itr lo n).stop i H/\D.nx σ H)\/((Itr lo n).go i H/\∃ N:St->Hp->Prop,(∀ σ' H',N σ' H'->∃ m',m' < m/\W (i+1) m' σ' H')/\∀ x H',(Itr lo n).yld i H x H'->g x σ H' fun σ2 H2=>tb { D with nx:=N,ct:=N,bk:=D.nx } σ2 H2):=by
 refine⟨fun i m σ H=>m=n - i/\i<=n/\Pv i σ H,⟨n,by simp,afh _,h0⟩,?_⟩;rintro i m σ H ⟨rfl,hi,p⟩;by_cases hlt:i < n
 ·refine .inr ⟨hlt,Pv (i+1),fun σ' H' p'=>⟨n - (i+1),by lia,rfl,hlt,p'⟩,fun x H' y=>?_⟩;obtain⟨e,y⟩:=y;subst e y;exact hs i σ _ hlt p
 ·have e:i=n:=by lia
  subst e;exact .inl ⟨ae4 _,hd σ H p⟩
abbrev R2:=V->V->Hp->VK->Prop
def OpR (X:Cx)(f:Value->Value->Sem Value)(r:R2):Prop :=
 ∀ (pins:List (Addr×Obj)) (s:Shared) (σ:St) (H:Hp) (x y:V) (v u:Value) (Q:VK),Inv X pins σ H s->RelV x v->RelV y u->r x y H Q →
  wpAny (model X.prog X.w) X.A (f v u) (EP X pins σ Q) X.xe s
def UnR (X:Cx)(f:Value->Sem Value)(r:V->Hp->VK->Prop):Prop :=
 ∀ (pins:List (Addr×Obj)) (s:Shared) (σ:St) (H:Hp) (x:V) (v:Value) (Q:VK),Inv X pins σ H s->RelV x v->r x H Q →
  wpAny (model X.prog X.w) X.A (f v) (EP X pins σ Q) X.xe s
def iw (X:Cx)(f:Value)(r:List V->Hp->VK->Prop):Prop :=
 ∀ (pins:List (Addr×Obj)) (s:Shared) (σ:St) (H:Hp) (xs:List V) (us:List Value) (Q:VK),Inv X pins σ H s->Vals xs us->r xs H Q →
  wpAny (model X.prog X.w) X.A (call f us) (EP X pins σ Q) X.xe s
def aeD (X:Cx)(r:V->Hp->(Bool->Hp->Prop)->Prop):Prop :=
 ∀ (pins:List (Addr×Obj)) (s:Shared) (σ:St) (H:Hp) (x:V) (v:Value) (Q:Bool->Hp->Prop),Inv X pins σ H s->RelV x v->r x H Q →
  wpAny (model X.prog X.w) X.A (truthy v) (TP X pins σ Q) X.xe s
def tOp (r:R2)(ta tb:TE):TE:=fun σ H Q=>ta σ H fun x H1=>tb σ H1 fun y H2=>r x y H2 Q
def tUn (r:V->Hp->VK->Prop)(ta:TE):TE:=fun σ H Q=>ta σ H fun x H1=>r x H1 Q
def rI (C:Int->Int->Prop)(g:Int->Int->V):R2:=fun x y H Q=>∃ i j,x=.int i/\y=.int j/\C i j/\Q (g i j) H
def rI0 (g:Int->Int->V):R2:=fun x y H Q=>∃ i j,x=.int i/\y=.int j/\Q (g i j) H
def rU (g:Int->V):V->Hp->VK->Prop:=fun x H Q=>∃ i,x=.int i/\Q (g i) H
section
variable {X:Cx}{a b c:Expr}{ta tb tc:TE}{pos:Pos}
theorem adU (ha:PE X a ta)(hb:PE X b tb){pins:List (Addr×Obj)}{s:Shared}{σ:St}{H:Hp}{R:V->V->Hp->Prop}(I:Inv X pins σ H s)
 (h:ta σ H fun x H1=>tb σ H1 fun y H2=>R x y H2){Q:Value->Shared->Prop}{f:Value->Value->Sem Value}
 (hf:∀ v u s2 x y H2,Inv X pins σ H2 s2->RelV x v->RelV y u->R x y H2->wpAny (model X.prog X.w) X.A (f v u) Q X.xe s2) :
 wpAny (model X.prog X.w) X.A (eval a X.env) (fun v s₁=>wpAny (model X.prog X.w) X.A (eval b X.env) (fun u s₂=>wpAny (model X.prog X.w) X.A (f v u) Q X.xe s₂) X.xe s₁) X.xe s:=by
 refine thn (ha pins s σ H _ I h) fun v s1 ⟨x,H1,I1,r1,q1⟩=>?_;refine thn (hb pins s1 σ H1 _ I1 q1) fun u s2 ⟨y,H2,I2,r2,q2⟩=>?_;exact hf v u s2 x y H2 I2 r1 r2 q2
theorem aZ {op:Operator}{r:R2}(ho:OpR X (binaryOp op) r)(ha:PE X a ta)(hb:PE X b tb):PE X (.BinOp a op b pos) (tOp r ta tb):=by
 intro pins s σ H Q I h;exact wpAny_BinOp (adU ha hb I h fun v u s2 x y H2 I2 rx ry q=>ho pins s2 σ H2 x y v u Q I2 rx ry q)
theorem yt {op:UnaryOp}{r:V->Hp->VK->Prop}(ho:UnR X (unaryOp op) r)(ha:PE X a ta):PE X (.UnaryOp op a pos) (tUn r ta):=by
 intro pins s σ H Q I h;exact UnaryOp_ (thn (ha pins s σ H _ I h) fun v s1 ⟨x,H1,I1,r1,q1⟩=>ho pins s1 σ H1 x v Q I1 r1 q1)
theorem opI {f:Value->Value->Sem Value}{C:Int->Int->Prop}{g:Int->Int->Int}
 (rule:∀ (i j:Int) (t u:Tok) (s:Shared) (Q:Value->Shared->Prop) (E:Value->Shared->Prop),C i j->Q (.int (g i j) s.toks) { s with toks:=s.toks+1 }->wpAny (model X.prog X.w) X.A (f (.int i t) (.int j u)) Q E s) :
 OpR X f (rI C fun i j=>.int (g i j)):=by
 intro pins s σ H x y v u Q I rx ry h;obtain⟨i,j,rfl,rfl,hc,q⟩:=h;obtain⟨t,rfl⟩:=rx;obtain⟨t',rfl⟩:=ry;exact rule i j t t' s _ _ hc ⟨.int (g i j),H,I.tok _,⟨_,rfl⟩,q⟩
theorem aeG {f:Value->Value->Sem Value}{g:Int->Int->Int}
 (rule:∀ (i j:Int) (t u:Tok) (s:Shared) (Q:Value->Shared->Prop) (E:Value->Shared->Prop),Q (.int (g i j) s.toks) { s with toks:=s.toks+1 }->wpAny (model X.prog X.w) X.A (f (.int i t) (.int j u)) Q E s) :
 OpR X f (rI0 fun i j=>.int (g i j)):=by
 intro pins s σ H x y v u Q I rx ry h;obtain⟨i,j,rfl,rfl,q⟩:=h;obtain⟨t,rfl⟩:=rx;obtain⟨t',rfl⟩:=ry;exact rule i j t t' s _ _ ⟨.int (g i j),H,I.tok _,⟨_,rfl⟩,q⟩
theorem adH {f:Value->Value->Sem Value}{g:Int->Int->Bool}
 (rule:∀ (i j:Int) (t u:Tok) (s:Shared) (Q:Value->Shared->Prop) (E:Value->Shared->Prop),Q (.bool (g i j)) s->wpAny (model X.prog X.w) X.A (f (.int i t) (.int j u)) Q E s) :
 OpR X f (rI0 fun i j=>.bl (g i j)):=by
 intro pins s σ H x y v u Q I rx ry h;obtain⟨i,j,rfl,rfl,q⟩:=h;obtain⟨t,rfl⟩:=rx;obtain⟨t',rfl⟩:=ry;exact rule i j t t' s _ _ ⟨.bl (g i j),H,I,rfl,q⟩
def aeR (i j:Int):Prop:=0 < j/\j < 1073741824
def aeI (i j:Int):Prop:=0<=j/\j<=1000000/\i.natAbs < 2 ^ 64
def CMul (i j:Int):Prop:=(-(2 ^ 64) < i/\i < 2 ^ 64)\/(-(2 ^ 64) < j/\j < 2 ^ 64)
theorem CMul.ok {i j:Int}(h:CMul i j):IntMulOk i j:=by
 rcases h with ⟨h1,h2⟩ | ⟨h1,h2⟩
 ·exact .of_left (intBits_le_64 h1 h2)
 ·exact .of_right (intBits_le_64 h1 h2)
theorem kN:OpR X (binaryOp .Add) (rI0 fun i j=>.int (i+j)):=aeG fun _ _ _ _ _ _ _ q=>add_int q
theorem rQ:OpR X (binaryOp .Mult) (rI CMul fun i j=>.int (i * j)):=opI fun _ _ _ _ _ _ _ hc q=>mul_int q hc.ok
theorem yV:OpR X (binaryOp .FloorDiv) (rI aeR fun i j=>.int (i / j)):=opI fun i j _ _ _ _ _ hc q=>by
 have h1:(0:Int) < j:=hc.1;have h2:j < 1073741824:=hc.2;exact floordiv_int (by lia) (by rw [Int.fdiv_eq_ediv_of_nonneg i (by lia)];exact q) (.inl (PyProof.noPylong_small (by lia)))
theorem oB:OpR X (binaryOp .Mod) (rI (fun _ j=>0 < j) fun i j=>.int (i % j)):=opI fun i j _ _ _ _ _ hc q=>by
 have h1:(0:Int) < j:=hc;exact mod_int' (by lia) (by rw [Int.fmod_eq_emod_of_nonneg i (by lia)];exact q)
theorem adl:OpR X (binaryOp .Pow) (rI aeI fun i j=>.int (i ^ j.toNat)):=opI fun _ _ _ _ _ _ _ hc q=>pow_int_small hc.1 hc.2.1 hc.2.2 q
theorem unI {f:Value->Sem Value}{g:Int->Int}
 (rule:∀ (i:Int) (t:Tok) (s:Shared) (Q:Value->Shared->Prop) (E:Value->Shared->Prop),Q (.int (g i) s.toks) { s with toks:=s.toks+1 }->wpAny (model X.prog X.w) X.A (f (.int i t)) Q E s) :
 UnR X f (rU fun i=>.int (g i)):=by
 intro pins s σ H x v Q I rx h;obtain⟨i,rfl,q⟩:=h;obtain⟨t,rfl⟩:=rx;exact rule i t s _ _ ⟨.int (g i),H,I.tok _,⟨_,rfl⟩,q⟩
theorem qM:UnR X (unaryOp .USub) (rU fun i=>.int (-i)):=unI fun _ _ _ _ _ q=>neg_int q
end
def aeu:V->V->Bool
 | .non,.non=>true | .non,.int _=>true | .int _,.non=>true | .non,.bl _=>true | .bl _,.non=>true | .non,.str _=>true | .str _,.non=>true
 | .int _,.int _=>true | .bl _,.bl _=>true | .str _,.str _=>true | .byt _,.byt _=>true
 | .int _,.str _=>true | .str _,.int _=>true | .bl _,.str _=>true | .str _,.bl _=>true
 | _,_=>false
def rEq:R2:=fun x y H Q=>aeu x y=true/\Q (.bl (decide (x=y))) H
def rNe:R2:=fun x y H Q=>aeu x y=true/\Q (.bl (!decide (x=y))) H
theorem xQ {i j:Int}:decide (V.int i=V.int j)=(i == j):=by
 rw [ahX];simp
theorem aaQ {i j:Bool}:decide (V.bl i=V.bl j)=(i == j):=by
 rw [ahX];simp
theorem yA {i j:Str}:decide (V.str i=V.str j)=(i == j):=by
 rw [ahX];simp
theorem xo {i j:Array UInt8}:decide (V.byt i=V.byt j)=(i.toList == j.toList):=by
 rw [ahX];cases i;cases j;simp
section
variable {X:Cx}{a b c:Expr}{ta tb tc:TE}{pos:Pos}
theorem bD {pins:List (Addr×Obj)}{σ:St}{H:Hp}{s:Shared}{Q:VK}{k k':Bool}(I:Inv X pins σ H s)(q:Q (.bl k) H)(e:k=k'):EP X pins σ Q (.bool k') s:=by
 subst e;exact⟨.bl k,H,I,rfl,q⟩
theorem kF:OpR X (compareOp .Eq) rEq:=by
 intro pins s σ H x y v u Q I rx ry h;obtain⟨hs,q⟩:=h;cases x with
 | non =>
  cases rx;cases y with
  | non=>cases ry;exact PySem.EqNone.eq_none_none (bD I q (by simp))
  | bl j=>cases ry;exact PySem.EqNone.eq_none_bool (bD I q (by simp))
  | int j=>obtain⟨t',rfl⟩:=ry;exact PySem.EqNone.eq_none_int (bD I q (by simp))
  | str j=>obtain⟨t',rfl⟩:=ry;exact PySem.EqNone.eq_none_str (bD I q (by simp))
  | _=>exact absurd (show false=true from hs) ae2
 | bl i =>
  cases rx;cases y with
  | non=>cases ry;exact PySem.EqNone.eq_bool_none (bD I q (by simp))
  | bl j=>cases ry;exact eq_bool (bD I q aaQ)
  | str j=>obtain⟨t',rfl⟩:=ry;exact PySem.EqMixed.eq_bool_str (bD I q (by simp))
  | _=>exact absurd (show false=true from hs) ae2
 | int i =>
  obtain⟨t,rfl⟩:=rx;cases y with
  | non=>cases ry;exact PySem.EqNone.eq_int_none (bD I q (by simp))
  | int j=>obtain⟨t',rfl⟩:=ry;exact eq_int (bD I q xQ)
  | str j=>obtain⟨t',rfl⟩:=ry;exact PySem.EqMixed.eq_int_str (bD I q (by simp))
  | _=>exact absurd (show false=true from hs) ae2
 | str i =>
  obtain⟨t,rfl⟩:=rx;cases y with
  | non=>cases ry;exact PySem.EqNone.eq_str_none (bD I q (by simp))
  | bl j=>cases ry;exact PySem.EqMixed.eq_str_bool (bD I q (by simp))
  | int j=>obtain⟨t',rfl⟩:=ry;exact PySem.EqMixed.eq_str_int (bD I q (by simp))
  | str j=>obtain⟨t',rfl⟩:=ry;exact eq_str (bD I q yA)
  | _=>exact absurd (show false=true from hs) ae2
 | byt i =>
  obtain⟨t,rfl⟩:=rx;cases y with
  | byt j=>obtain⟨t',rfl⟩:=ry;exact PySem.W.eq_bytes (bD I q xo)
  | _=>exact absurd (show false=true from hs) ae2
 | _=>cases y<;>exact absurd (show false=true from hs) ae2
theorem rM:OpR X (compareOp .NotEq) rNe:=by
 intro pins s σ H x y v u Q I rx ry h;obtain⟨hs,q⟩:=h;cases x with
 | non =>
  cases rx;cases y with
  | non=>cases ry;exact PySem.EqNone.ne_none_none (bD I q (by simp))
  | bl j=>cases ry;exact PySem.EqNone.ne_none_bool (bD I q (by simp))
  | int j=>obtain⟨t',rfl⟩:=ry;exact PySem.EqNone.ne_none_int (bD I q (by simp))
  | str j=>obtain⟨t',rfl⟩:=ry;exact PySem.EqNone.ne_none_str (bD I q (by simp))
  | _=>exact absurd (show false=true from hs) ae2
 | bl i =>
  cases rx;cases y with
  | non=>cases ry;exact PySem.EqNone.ne_bool_none (bD I q (by simp))
  | bl j=>cases ry;exact ne_bool (bD I q (afH not aaQ))
  | str j=>obtain⟨t',rfl⟩:=ry;exact PySem.EqMixed.ne_bool_str (bD I q (by simp))
  | _=>exact absurd (show false=true from hs) ae2
 | int i =>
  obtain⟨t,rfl⟩:=rx;cases y with
  | non=>cases ry;exact PySem.EqNone.ne_int_none (bD I q (by simp))
  | int j=>obtain⟨t',rfl⟩:=ry;exact ne_int (bD I q (afH not xQ))
  | str j=>obtain⟨t',rfl⟩:=ry;exact PySem.EqMixed.ne_int_str (bD I q (by simp))
  | _=>exact absurd (show false=true from hs) ae2
 | str i =>
  obtain⟨t,rfl⟩:=rx;cases y with
  | non=>cases ry;exact PySem.EqNone.ne_str_none (bD I q (by simp))
  | bl j=>cases ry;exact PySem.EqMixed.ne_str_bool (bD I q (by simp))
  | int j=>obtain⟨t',rfl⟩:=ry;exact PySem.EqMixed.ne_str_int (bD I q (by simp))
  | str j=>obtain⟨t',rfl⟩:=ry;exact ne_str (bD I q (afH not yA))
  | _=>exact absurd (show false=true from hs) ae2
 | byt i =>
  obtain⟨t,rfl⟩:=rx;cases y with
  | byt j=>obtain⟨t',rfl⟩:=ry;exact PySem.W.ne_bytes (bD I q (afH not xo))
  | _=>exact absurd (show false=true from hs) ae2
 | _=>cases y<;>exact absurd (show false=true from hs) ae2
theorem yP:OpR X (compareOp .Lt) (rI0 fun i j=>.bl (decide (i < j))):=adH fun _ _ _ _ _ _ _ q=>lt_int q
theorem uu:OpR X (compareOp .LtE) (rI0 fun i j=>.bl (decide (i<=j))):=adH fun _ _ _ _ _ _ _ q=>le_int q
theorem zi:OpR X (compareOp .Gt) (rI0 fun i j=>.bl (decide (j < i))):=adH fun _ _ _ _ _ _ _ q=>gt_int q
theorem zC:OpR X (compareOp .GtE) (rI0 fun i j=>.bl (decide (j<=i))):=adH fun _ _ _ _ _ _ _ q=>ge_int q
theorem qT:OpR X (compareOp .In) (fun x y H Q=>∃ i j,x=.str i/\y=.str j/\Q (.bl (!(Builtin.Str.occurrences j i 0 j.length 1).isEmpty)) H):=by
 intro pins s σ H x y v u Q I rx ry h;obtain⟨i,j,rfl,rfl,q⟩:=h;obtain⟨t,rfl⟩:=rx;obtain⟨t',rfl⟩:=ry;exact in_str (bD I q rfl)
theorem acS:OpR X (compareOp .Is) (fun x y H Q=>y=.non/\Q (.bl (decide (x=.non))) H):=by
 intro pins s σ H x y v u Q I rx ry h;obtain⟨rfl,q⟩:=h;cases ry;refine is_none_gen (bD I q ?_);cases x<;>first
  | (cases rx;rfl)
  | (obtain⟨t,rfl⟩:=rx;rfl)
theorem aby:OpR X (compareOp .IsNot) (fun x y H Q=>y=.non/\Q (.bl (!decide (x=.non))) H):=by
 intro pins s σ H x y v u Q I rx ry h;obtain⟨rfl,q⟩:=h;cases ry;refine isnot_none_gen (bD I q ?_);cases x<;>first
  | (cases rx;rfl)
  | (obtain⟨t,rfl⟩:=rx;rfl)
theorem aS (b:Expr){op:CmpOp}(h:op≠.In:=by decide)(h2:op≠.NotIn:=by decide):behindInMarks op b=false:=by
 have e1:(op == CmpOp.In)=false:=by cases op<;>first | rfl | exact absurd rfl h
 have e2:(op == CmpOp.NotIn)=false:=by cases op<;>first | rfl | exact absurd rfl h2
 cases b<;>simp [behindInMarks,e1,e2]
theorem bN {op:CmpOp}{r:R2}(ho:OpR X (compareOp op) r)(ha:PE X a ta)(hb:PE X b tb)(hm:behindInMarks op b=false):PE X (.Compare a [op] [b] pos) (tOp r ta tb):=by
 intro pins s σ H Q I h;exact wpAny_Compare1 (adU ha hb I h fun v u s2 x y H2 I2 rx ry q=>ho pins s2 σ H2 x y v u Q I2 rx ry q) hm
def p9 (t:TE):TT:=fun σ H Q=>t σ H fun x H'=>∃ k,x=.bl k/\Q k H'
theorem aT {op:CmpOp}{r:R2}(ho:OpR X (compareOp op) r)(ha:PE X a ta)(hb:PE X b tb)(hm:behindInMarks op b=false):PT X (.Compare a [op] [b] pos) (p9 (tOp r ta tb)):=by
 intro pins s σ H Q I h;refine wpAny_isTrue_Compare1 (thn (ha pins s σ H _ I h) fun v s1 ⟨x,H1,I1,r1,q1⟩=>thn (hb pins s1 σ H1 _ I1 q1) fun u s2 ⟨y,H2,I2,r2,q2⟩ =>
  thn (ho pins s2 σ H2 x y v u _ I2 r1 r2 q2) fun c s3 ⟨z,H3,I3,r3,k,e,q3⟩=>?_) hm
 subst e;cases r3;exact afT ⟨H3,I3,q3⟩
def aaU (r r':R2)(ta tb tc:TE):TE:=fun σ H Q=>ta σ H fun x H1=>tb σ H1 fun y H2=>r x y H2 fun z H3=>∃ k,z=.bl k ∧
 (if k=true then tc σ H3 fun w' H4=>r' y w' H4 Q else Q (.bl false) H3)
theorem aaE {op op':CmpOp}{r r':R2}(ho:OpR X (compareOp op) r)(ho':OpR X (compareOp op') r')(ha:PE X a ta)(hb:PE X b tb)(hc:PE X c tc)
 (hm:lastMarks [op,op'] [b,c]=false:=by with_unfolding_all rfl):PE X (.Compare a [op,op'] [b,c] pos) (aaU r r' ta tb tc):=by
 intro pins s σ H Q I h;refine Compare_chain (thn (ha pins s σ H _ I h) fun v s1 ⟨x,H1,I1,r1,q1⟩=>chain_link (thn (hb pins s1 σ H1 _ I1 q1) fun u s2 ⟨y,H2,I2,r2,q2⟩ =>
  thn (ho pins s2 σ H2 x y v u _ I2 r1 r2 q2) fun d s3 ⟨z,H3,I3,r3,k,e,q3⟩=>?_)) hm
 subst e;cases r3;refine afT ?_;cases k with
 | false=>exact ite_ff ⟨.bl false,H3,I3,rfl,q3⟩
 | true=>exact ite_tt (chain_last (thn (hc pins s3 σ H3 _ I3 q3) fun w' s4 ⟨z',H4,I4,r4,q4⟩=>ho' pins s4 σ H4 y z' u w' Q I4 r2 r4 q4))
theorem qb {op op':CmpOp}{r r':R2}(ho:OpR X (compareOp op) r)(ho':OpR X (compareOp op') r')(ha:PE X a ta)(hb:PE X b tb)(hc:PE X c tc)
 (hm:lastMarks [op,op'] [b,c]=false:=by with_unfolding_all rfl):PT X (.Compare a [op,op'] [b,c] pos) (p9 (aaU r r' ta tb tc)):=by
 intro pins s σ H Q I h;refine isTrue_chain (thn (ha pins s σ H _ I h) fun v s1 ⟨x,H1,I1,r1,q1⟩=>test_link (thn (hb pins s1 σ H1 _ I1 q1) fun u s2 ⟨y,H2,I2,r2,q2⟩ =>
  thn (ho pins s2 σ H2 x y v u _ I2 r1 r2 q2) fun d s3 ⟨z,H3,I3,r3,k,e,q3⟩=>?_)) hm
 subst e;cases r3;refine afT ?_;cases k with
 | false =>
  obtain⟨k',e',q'⟩:=q3;cases e';exact ite_ff ⟨H3,I3,q'⟩
 | true =>
  refine ite_tt (test_last (thn (hc pins s3 σ H3 _ I3 q3) fun w' s4 ⟨z',H4,I4,r4,q4⟩=>thn (ho' pins s4 σ H4 y z' u w' _ I4 r2 r4 q4) fun d' s5 ⟨z2,H5,I5,r5,k2,e2,q5⟩=>?_));subst e2;cases r5;exact afT ⟨H5,I5,q5⟩
def aer (K:PySem.W.Frag)(x:V)(H:Hp)(k:Bool):Prop :=
 match x with
 | .non=>k=false
 | .bl b=>k=b
 | .int i=>k=(i != 0)
 | .str y=>y.length<=sizeLine/\k=((y.length:Int) != 0)
 | .byt y=>y.size<=sizeLine/\k=((y.size:Int) != 0)
 | .ref p=>(∃ xs,SqL K H p xs/\k=!xs.isEmpty)\/(∃ xs,SqT K H p xs/\k=!xs.isEmpty)\/∃ kvs,H p=some (.dK kvs)/\k=!kvs.isEmpty
 | _=>False
theorem vU {κ:Type}{kvs:List (κ×V)}{vs:List (κ×Value)}(r:KV kvs vs):(!vs.isEmpty)=!kvs.isEmpty:=by
 cases r<;>rfl
theorem pd {xs:List V}{its:List Value}(r:Vals xs its):(!its.toArray.isEmpty)=!xs.isEmpty:=by
 cases r<;>simp
theorem mJ:(sizeLine:Nat) < 2 ^ 63:=by rw [sizeLine_eq];decide
theorem adt:aeD X (fun x H Q=>∃ k,aer X.K x H k/\Q k H):=by
 intro pins s σ H x v Q I rx h;obtain⟨k,e,q⟩:=h;have hl:=mJ;have hs:sizeLine=16777216:=sizeLine_eq;cases x with
 | non =>
  cases rx;have e':k=false:=e;subst e';exact truthy_none ⟨H,I,q⟩
 | bl b =>
  cases rx;have e':k=b:=e;subst e';exact afT ⟨H,I,q⟩
 | int i =>
  obtain⟨t,rfl⟩:=rx;have e':k=(i != 0):=e;subst e';exact PySem.P.truthy_int ⟨H,I,q⟩
 | str y =>
  obtain⟨t,rfl⟩:=rx;obtain⟨hy,e'⟩:y.length<=sizeLine/\k=((y.length:Int) != 0):=e;subst e';exact PySem.P.truthy_str (by lia) ⟨H,I.tok _,q⟩
 | byt y =>
  obtain⟨t,rfl⟩:=rx;obtain⟨hy,e'⟩:y.size<=sizeLine/\k=((y.size:Int) != 0):=e;subst e';exact PySem.W.truthy_bytes (by lia) ⟨H,I.tok _,q⟩
 | ref p =>
  cases rx;have e':(∃ xs,SqL X.K H p xs/\k=!xs.isEmpty)\/(∃ xs,SqT X.K H p xs/\k=!xs.isEmpty)\/∃ kvs,H p=some (.dK kvs)/\k=!kvs.isEmpty:=e;rcases e' with ⟨xs,hx,e'⟩ | ⟨xs,hx,e'⟩ | ⟨kvs,hx,e'⟩
  ·subst e';obtain⟨its,r,pl,hz⟩:=I.list hx;have hlen:=r.length;exact wpAny_truthy_list pl.isList (by simp only [ae7];lia) ⟨H,I.tok _,by rw [pd r];exact q⟩
  ·subst e';obtain⟨its,r,pl,hz⟩:=I.tuple hx;have hlen:=r.length;exact truthy_tuple pl (by simp only [ae7];lia) ⟨H,I.tok _,by rw [pd r];exact q⟩
  ·subst e';obtain⟨hz,hS,vs,r,m⟩:kvs.length<=sizeLine/\(p == sysModules)=false/\∃ vs,KV kvs vs/\s.heap.DictOf (gD X.prog X.w) p vs:=I.hok p _ hx;have hlen:kvs.length=vs.length:=Paired.length r;exact wpAny_truthy_dict hS m (by lia) ⟨H,I.tok _,by rw [vU r];exact q⟩
 | _=>exact (show False from e).elim
theorem qi (ha:PE X a ta)(he:∀ whole,isTrue a X.env whole=(do let v ← whole;standAt a.pos;holding [v] (truthy v))) :
 PT X a (fun σ H Q=>ta σ H fun x H'=>∃ k,aer X.K x H' k/\Q k H'):=by
 intro pins s σ H Q I h;exact isTrue_plain (thn (ha pins s σ H _ I h) fun v s1 ⟨x,H1,I1,r1,q1⟩=>adt pins s1 σ H1 x v Q I1 r1 q1) (he _)
theorem bz:OpR X (binaryOp .Add) (fun x y H Q=>∃ i j,x=.str i/\y=.str j/\i.length+j.length<=sizeLine/\Q (.str (i++j)) H):=by
 intro pins s σ H x y v u Q I rx ry h;obtain⟨i,j,rfl,rfl,hz,q⟩:=h;obtain⟨t,rfl⟩:=rx;obtain⟨t',rfl⟩:=ry;exact add_str (fun t' tk=>⟨.str (i++j),H,I.tok _,⟨_,rfl⟩,q⟩) hz
theorem kZ {x:V}{us:List Value}(r:Vals [x] us):∃ u,us=[u]/\RelV x u:=by
 cases r with
 | cons r1 r2=>cases r2;exact⟨_,rfl,r1⟩
theorem vT {x y:V}{us:List Value}(r:Vals [x,y] us):∃ u w',us=[u,w']/\RelV x u/\RelV y w':=by
 cases r with
 | cons r1 r2 =>
  cases r2 with
  | cons r3 r4=>cases r4;exact⟨_,_,rfl,r1,r3⟩
theorem qY (hc:X.calm=true):iw X (.builtin "max") (fun xs H Q=>∃ i j,xs=[.int i,.int j]/\Q (.int (if j > i then j else i)) H):=by
 intro pins s σ H xs us Q I r h;obtain⟨i,j,rfl,q⟩:=h;obtain⟨u,w',rfl,⟨t,rfl⟩,⟨t',rfl⟩⟩:=vT r;refine max_two_ints (I.ok.hd hc) fun h' tk k=>⟨_,H,I.kept k,?_,q⟩;by_cases hj:j > i
 ·rw [if_pos hj,if_pos hj];exact⟨_,rfl⟩
 ·rw [if_neg hj,if_neg hj];exact⟨_,rfl⟩
theorem rE (hc:X.calm=true):iw X (.builtin "min") (fun xs H Q=>∃ i j,xs=[.int i,.int j]/\Q (.int (if j < i then j else i)) H):=by
 intro pins s σ H xs us Q I r h;obtain⟨i,j,rfl,q⟩:=h;obtain⟨u,w',rfl,⟨t,rfl⟩,⟨t',rfl⟩⟩:=vT r;refine min_two_ints (I.ok.hd hc) fun h' tk k=>⟨_,H,I.kept k,?_,q⟩;by_cases hj:j < i
 ·rw [if_pos hj,if_pos hj];exact⟨_,rfl⟩
 ·rw [if_neg hj,if_neg hj];exact⟨_,rfl⟩
theorem cG:iw X (.type "int") (fun xs H Q=>(∃ i,xs=[.int i]/\Q (.int i) H)\/∃ k,xs=[.bl k]/\Q (.int (if k then 1 else 0)) H):=by
 intro pins s σ H xs us Q I r h;rcases h with ⟨i,rfl,q⟩ | ⟨k,rfl,q⟩
 ·obtain⟨u,rfl,t,rfl⟩:=kZ r;exact call_int_int ⟨.int i,H,I,⟨_,rfl⟩,q⟩
 ·obtain⟨u,rfl,r1⟩:=kZ r;cases r1;exact call_int_bool ⟨.int (if k then 1 else 0),H,I.tok _,⟨_,rfl⟩,q⟩
theorem cg:iw X (.type "str") (fun xs H Q=>∃ i,xs=[.int i]/\i.natAbs.log2 < 1920/\Q (.str (toString i)) H):=by
 intro pins s σ H xs us Q I r h;obtain⟨i,rfl,hz,q⟩:=h;obtain⟨u,rfl,t,rfl⟩:=kZ r;exact PySem.P.str_of_int hz ⟨.str _,H,I.tok _,⟨_,rfl⟩,q⟩
end
structure ObjM (h:Heap)(x dx C:Addr)(mA:Str->Option Value):Prop where
 obj:h.get? x=some (instObj C dx)
 ns:h.Ns1 dx mA
 ne:dx≠x
theorem xa {h:Heap}{dx:Addr}{mA:Str->Option Value}(n:h.Ns1 dx mA):∃ od,h.get? dx=some od/\∀ name,lookIn name od=some (mA name):=by
 obtain⟨o,es,ep,ho,hd,hk,_,hm⟩:=n;refine⟨o,ho,fun name=>?_⟩;have e:=hm name;unfold nsFind findBy at e;rw [← Array.find?_toList] at e;unfold lookIn;rw [hd];dsimp only;split
 ·rename_i y q;rw [q] at e;exact afH some e
 ·rename_i q;rw [q] at e;have a:es.toList.any (·.refKey)=false:=by
   rw [List.any_eq_false];intro y hy;obtain⟨z,t,hkey⟩:=hk y (ahR.mp hy);simp [DictEntry.refKey,hkey]
  have a':¬ es.toList.any (·.refKey)=true:=by rw [a];exact ae2
  rw [if_neg a'];exact afH some e
theorem ObjM.look {h:Heap}{x dx C:Addr}{mA:Str->Option Value}(I:ObjM h x dx C mA):∃ od,InstAt h x (instObj C dx) C (some od)/\∀ name,lookIn name od=some (mA name) :=
 let ⟨od,ho,hl⟩:=xa I.ns
 ⟨od,⟨I.obj,rfl,rfl,ho⟩,hl⟩
section
variable {prog:Program}{w:World}{A:Around}{E:Value->Shared->Prop}{s:Shared}{K:PySem.W.Frag}{x dx C f:Addr}{mA:Str->Option Value}{name:Str}{v:Value}
theorem zd {expr:Bool}{Q:Value->Shared->Prop}(X:K.In s.heap)(I:ObjM s.heap x dx C mA)(hg:plainGet K C name=true)(hh:hasDictIn K C=true)
 (ha:findIn K (.ref C) name=some none)(hv:mA name=some v)(hv':handedIn v=true)(h:Q v { s with toks:=s.toks+1 }) :
 wpAny (model prog w) A (getAttr (.ref x) name expr) Q E s:=by
 obtain⟨od,J,hl⟩:=I.look;exact PySem.W.get_value X J (ahY hg).1 (PySem.W.findObj_own hh ha rfl (by rw [hl,hv])) hv' h
theorem aaz {pl:Sem Bool}{Q:Value×List Value->Shared->Prop}(X:K.In s.heap)(I:ObjM s.heap x dx C mA)(hg:plainGet K C name=true)
 (hf:findIn K (.ref C) name=some (some (.ref f)))(ht:isFn K (.ref f)=true)(hv:mA name=none)(h:Q (.ref f,[.ref x]) s) :
 wpAny (model prog w) A (getMethod (.ref x) name pl) Q E s:=by
 obtain⟨od,J,hl⟩:=I.look;exact PySem.W.method_fn X J (ahY hg).1 (ahY hg).2 hf (afj.mp ht) (by show (lookIn name od).map (·.isSome)=some false;rw [hl,hv];rfl) h
theorem acy {ns:List Str}{Q:Unit->Shared->Prop}(X:K.In s.heap)(I:ObjM s.heap x dx C mA)
 (hs:findIn K (.ref C) "__setattr__" = some (some (.builtin "object.__setattr__")))(hp:plainOver K C=true)(ht:takerIn K C name=some none)(hh:hasDictIn K C=true)
 (hw:PySem.Within mA ns)(hsz:ns.length<=sizeLine)
 (h:∀ h',ObjM h' x dx C (fun y=>if y=name then some v else mA y)->Heap.SameBut dx s.heap h'->Q () { s with heap:=h',toks:=s.toks+2 }) :
 wpAny (model prog w) A (setAttr (.ref x) name v) Q E s:=by
 obtain⟨od,J,hl⟩:=I.look;refine set_plain X J hs (PySem.W.osa_open (s:={ s with toks:=s.toks+1 }) (r:=none) X J hp ht fun b=>?_);obtain⟨cd,hc,hd'⟩:=PySem.W.any_some hh;have hx:s.heap.get? x=some ⟨.ref C,some dx,.plain,#[]⟩:=I.obj;refine aeU (ae3 (aeU (aeU (aif hx (aeU (PySem.W.Looks.here (s:={ s with toks:=s.toks+1 }) (PySem.W.looks_clsIn X hc) ?_))))));rw [hd'];refine ae3 (a:=some dx) (aeU (ae3 (aeU ?_)));refine wpAny_nsSet1 (s:={ s with toks:=s.toks+1 }) I.ns fun h' hn2 hs2=>?_;obtain⟨oD,esD,epD,hoD,hdD,hcD⟩:=hn2.count (PySem.Within.cons name v hw);refine aeU (wpAny_lookBehind hoD (by rw [hdD];exact pastItsLine_dict (afC hcD (by rw [afn];lia))) ?_);exact ae3 (h _ ⟨(hs2.2 _ (ag1 I.ne)).trans I.obj,hn2,I.ne⟩ hs2)
theorem aaA {R:Result->Shared->Prop}{vs:List Value}{kw:List (Str×Value)}(X:K.In s.heap)(hm:makesIn K C=true)
 (hi:findIn K (.ref C) "__init__" = some (some (.ref f)))(hf:typeIn K (.ref f)=some (.type "function"))
 (h:codeAny (model prog w) (A.under (.builtin "type.__call__" ⟨.ref C::vs,kw⟩)) (.call (.ref f) ⟨.ref (s.heap.objs.size+1)::vs,kw⟩) (PySem.W.InitBack (s.heap.objs.size+1) R)
  { s with heap:=(s.heap.push emptyDict).push (instObj C s.heap.objs.size) }) :
 codeAny (model prog w) A (.call (.ref C) ⟨vs,kw⟩) R s:=by
 obtain⟨hh,g,d,t,os⟩:=s;exact PySem.W.make_core (PySem.W.makes_of X hm) (PySem.W.looks_findIn X hi) (fun self=>PySem.W.bind_fn X self hf) (.inl rfl) h
end
def iI (f:Str)(v:V):List (Str×V)->List (Str×V)
 | []=>[(f,v)]
 | (g,x)::r=>if g=f then (g,v)::r else (g,x)::iI f v r
theorem nO (f g:Str)(v:V):∀ fs:List (Str×V),(iI f v fs).lookup g=if g=f then some v else fs.lookup g
 | []=>by
  show List.lookup g [(f,v)]=_;by_cases h:g=f
  ·have hb:(g == f)=true:=afj.mpr h;simp only [List.lookup,hb,if_pos h]
  ·have hb:(g == f)=false:=ahd.mpr h;simp only [List.lookup,hb,if_neg h]
 | (k,x)::r=>by
  have ih:=nO f g v r;rw [show iI f v ((k,x)::r)=(if k=f then (k,v)::r else (k,x)::iI f v r) from rfl];by_cases hk:k=f
  ·rw [if_pos hk];by_cases h:g=k
   ·have hb:(g == k)=true:=afj.mpr h;simp only [List.lookup,hb,if_pos (h.trans hk)]
   ·have hb:(g == k)=false:=ahd.mpr h;simp only [List.lookup,hb,if_neg (fun e:g=f=>h (e.trans hk.symm))]
  ·rw [if_neg hk];by_cases h:g=k
   ·have hb:(g == k)=true:=afj.mpr h;simp only [List.lookup,hb,if_neg (fun e:g=f=>hk (h.symm.trans e))]
   ·have hb:(g == k)=false:=ahd.mpr h;simp only [List.lookup,hb];exact ih
theorem m8 (f:Str)(v:V):∀ fs:List (Str×V),f∈(iI f v fs).map (·.1)/\∀ g,g∈fs.map (·.1)->g∈(iI f v fs).map (·.1)
 | []=>⟨by simp [iI],fun g h=>by simp at h⟩
 | (k,x)::r=>by
  obtain⟨i1,i2⟩:=m8 f v r;rw [show iI f v ((k,x)::r)=(if k=f then (k,v)::r else (k,x)::iI f v r) from rfl];by_cases hk:k=f
  ·rw [if_pos hk];subst hk;exact⟨by simp,fun g h=>by simpa using h⟩
  ·rw [if_neg hk];refine⟨?_,fun g h=>?_⟩
   ·rw [afl];exact aeW _ i1
   ·rw [afl] at h ⊢;rcases aeY.mp h with e | e
    ·exact aeY.mpr (.inl e)
    ·exact aeW _ (i2 g e)
theorem fU (f:Str)(v:V):∀ fs:List (Str×V),(iI f v fs).length<=fs.length+1
 | []=>by simp [iI]
 | (k,x)::r=>by
  have ih:=fU f v r;rw [show iI f v ((k,x)::r)=(if k=f then (k,v)::r else (k,x)::iI f v r) from rfl];by_cases hk:k=f
  ·rw [if_pos hk,afn,afn];lia
  ·rw [if_neg hk,afn,afn];lia
theorem RelO.some_of {v:V}{o:Option Value}(r:RelO (some v) o):∃ u,o=some u/\RelV v u:=by
 cases o with
 | none=>exact (show False from r).elim
 | some u=>exact⟨u,rfl,r⟩
theorem RelO.none_of {o:Option Value}(r:RelO none o):o=none:=by
 cases o with
 | none=>rfl
 | some u=>exact (show False from r).elim
theorem rC {v:V}{u:Value}(r:RelV v u):handedIn u=true:=by
 cases v with
 | non=>cases (show u=Value.none from r);rfl
 | bl b=>cases (show u=Value.bool b from r);rfl
 | int i=>obtain⟨t,e⟩:=(show ∃ t,u=Value.int i t from r);cases e;rfl
 | str x=>obtain⟨t,e⟩:=(show ∃ t,u=Value.str x t from r);cases e;rfl
 | byt b=>obtain⟨t,e⟩:=(show ∃ t,u=Value.bytes b t from r);cases e;rfl
 | flt b=>obtain⟨t,e⟩:=(show ∃ t,u=Value.float b t from r);cases e;rfl
 | ref a=>cases (show u=Value.ref a from r);rfl
 | ty n=>cases (show u=Value.type n from r);rfl
section
variable {P:Program}{w:World}{H H':Hp}{h h':Heap}{a C dx:Addr}{fs fs':List (Str×V)}
theorem nI (hok:HOk P w H h)(e:H a=some (.ins C dx fs)):∃ mA,ObjM h a dx C mA/\(∀ f,RelO (fs.lookup f) (mA f))/\PySem.Within mA (fs.map (·.1))/\fs.length<=1000/\H dx=some (.own a):=by
 obtain⟨d,z,ne,ob,mA,n,r,q⟩:=(show ObjOk P w H h a (.ins C dx fs) from hok a _ e);exact⟨mA,⟨ob,n,ne⟩,r,q,z,d⟩
end
structure Cls (K:PySem.W.Frag)(C:Addr):Prop where
 pg:plainGet K C Str.empty=true
 hd:hasDictIn K C=true
 po:plainOver K C=true
 sa:findIn K (.ref C) "__setattr__" = some (some (.builtin "object.__setattr__"))
theorem Cls.get {K:PySem.W.Frag}{C:Addr}(c:Cls K C)(f:Str):plainGet K C f=true:=c.pg
def NoAttr (K:PySem.W.Frag)(C:Addr)(f:Str):Prop:=findIn K (.ref C) f=some none
theorem NoAttr.taker {K:PySem.W.Frag}{C:Addr}{f:Str}(n:NoAttr K C f):takerIn K C f=some none:=by
 unfold takerIn;rw [show findIn K (.ref C) f=some none from n]
 rfl
structure wK (K:PySem.W.Frag)(C:Addr)(m:Str)(f:Addr):Prop where
 at_:findIn K (.ref C) m=some (some (.ref f))
 fn:isFn K (.ref f)=true
 kp:keepIn K (.ref f)=true
section
variable {X:Cx}{pins:List (Addr×Obj)}{σ:St}{H:Hp}{s:Shared}{a C dx:Addr}{fs:List (Str×V)}{f:Str}{v:V}{A:Around}{E:Value->Shared->Prop}
theorem wu {b:Bool}{Q:Value->Shared->Prop}(I:Inv X pins σ H s)(e:H a=some (.ins C dx fs))(c:Cls X.K C)(n:NoAttr X.K C f)(l:fs.lookup f=some v)
 (h:∀ u s',Inv X pins σ H s'->RelV v u->Q u s'):wpAny (model X.prog X.w) A (getAttr (.ref a) f b) Q E s:=by
 obtain⟨mA,O,r,_,_,_⟩:=nI I.hok e;obtain⟨u,hu,ru⟩:=RelO.some_of (v:=v) (o:=mA f) (by rw [← l];exact r f);exact zd I.kIn O (c.get f) c.hd n hu (rC ru) (h u _ (I.tok _) ru)
theorem jF {m:Str}{g:Addr}{pl:Sem Bool}{Q:Value×List Value->Shared->Prop}(I:Inv X pins σ H s)(e:H a=some (.ins C dx fs))(c:Cls X.K C)(k:wK X.K C m g)(l:fs.lookup m=none)
 (h:Q (.ref g,[.ref a]) s):wpAny (model X.prog X.w) A (getMethod (.ref a) m pl) Q E s:=by
 obtain⟨mA,O,r,_,_,_⟩:=nI I.hok e;have hn:mA m=none:=RelO.none_of (by rw [← l];exact r m);exact aaz I.kIn O (c.get m) k.at_ k.fn hn h
theorem wb {y:V}{u:Value}{Q:Unit->Shared->Prop}(I:Inv X pins σ H s)(e:H a=some (.ins C dx fs))(c:Cls X.K C)(n:NoAttr X.K C f)(hl:fs.length < 1000)(ry:RelV y u)
 (h:∀ s',Inv X pins σ (upd H a (.ins C dx (iI f y fs))) s'->Q () s'):wpAny (model X.prog X.w) A (setAttr (.ref a) f u) Q E s:=by
 obtain⟨mA,O,r,wi,_,ho⟩:=nI I.hok e;have hz:(fs.map (·.1)).length<=sizeLine:=by rw [aeT,sizeLine_eq];lia
 refine acy I.kIn O c.sa c.po n.taker c.hd wi hz fun h' O' sb=>h _ ?_;have hd:∃ o,h'.get? dx=some o:=let ⟨o,_,_,e',_⟩:=O'.ns;⟨o,e'⟩;refine I.write (x:=a) (e:=dx) (by rw [e];exact True.intro) (.inr ho) (fun b q hb z=>(sb.2 b hb).trans z) hd ?_;refine⟨by rw [ax O.ne];exact ho,?_,O.ne,O'.obj,_,O'.ns,fun g=>?_,fun g hg=>?_⟩
 ·have:=fU f y fs;lia
 ·show RelO ((iI f y fs).lookup g) (if g=f then some u else mA g);rw [nO];by_cases q:g=f
  ·rw [if_pos q,if_pos q];exact ry
  ·rw [if_neg q,if_neg q];exact r g
 ·by_cases q:g=f
  ·rw [q];exact (m8 f y fs).1
  ·refine (m8 f y fs).2 g (wi g fun z=>hg ?_);show (if g=f then some u else mA g)=none;rw [if_neg q];exact z
theorem Inv.made (I:Inv X pins σ H s):Inv X pins σ (upd (upd H s.heap.objs.size (.own (s.heap.objs.size+1))) (s.heap.objs.size+1) (.ins C s.heap.objs.size []))
 { s with heap:=(s.heap.push emptyDict).push (instObj C s.heap.objs.size) }:=by
 have e1:(s.heap.push emptyDict).get? s.heap.objs.size=some emptyDict:=afo s.heap rfl;have e2:((s.heap.push emptyDict).push (instObj C s.heap.objs.size)).get? (s.heap.objs.size+1)=some (instObj C s.heap.objs.size):=by
  have:=afo (s.heap.push emptyDict) (o:=instObj C s.heap.objs.size) rfl
  rwa [ahD] at this
 have e3:(s.heap.push emptyDict).Ns s.heap.objs.size (fun _=>none):=⟨emptyDict,#[],_,e1,rfl,(fun e he=>absurd he (by simp)),fun _=>rfl⟩;have I1:=I.laid (a:=s.heap.objs.size) (o:=.own (s.heap.objs.size+1)) (h':=s.heap.push emptyDict) (t':=s.toks) (fun b u q=>ae0 _ q) (ae4 _) ⟨_,e1⟩;refine I1.laid (a:=s.heap.objs.size+1) (o:=.ins C s.heap.objs.size []) (t':=s.toks) (fun b u q=>ae0 _ q) (aj4 (ahD _ _)) ?_;have ne:s.heap.objs.size≠s.heap.objs.size+1:=afq (Nat.lt_succ_self _);refine⟨by rw [ax ne,ag],afh _,ne,e2,fun _=>none,(Heap.Ns1.of_empty e3).at fun o q=>ae0 _ q,fun _=>True.intro,fun y hy=>absurd rfl hy⟩
theorem zc {prog:Program}{w:World}{env:Env}{e:Expr}{f:Str}{pos:Pos}{s:Shared}{Q:Value->Shared->Prop}(hb:attributeBase e f env (eval e env)=eval e env)
 (h:wpAny (model prog w) A (eval e env) (fun o s₁=>wpAny (model prog w) A (getAttr o f true) Q E s₁) E s):wpAny (model prog w) A (eval (.Attribute e f pos) env) Q E s :=
 Attribute_any_ h (by rw [arm_eval_Attribute,hb])
end
def aeQ (K:PySem.W.Frag)(ta:TE)(f:Str):TE:=fun σ H Q=>ta σ H fun x H1=>∃ a C dx fs v,x=.ref a/\H1 a=some (.ins C dx fs)/\Cls K C/\NoAttr K C f/\fs.lookup f=some v/\Q v H1
def aeB (K:PySem.W.Frag)(ta tv:TE)(f:Str):TS:=fun D σ H=>tv σ H fun y H1=>ta σ H1 fun x H2=>∃ a C dx fs,x=.ref a/\H2 a=some (.ins C dx fs)/\Cls K C/\NoAttr K C f/\fs.length < 1000 ∧
 D.nx σ (upd H2 a (.ins C dx (iI f y fs)))
section
variable {X:Cx}{o e value:Expr}{f:Str}{pos pos' tpos:Pos}{ta tv:TE}
theorem fu (he:PE X e ta)(hb:attributeBase e f X.env (eval e X.env)=eval e X.env):PE X (.Attribute e f pos) (aeQ X.K ta f):=by
 intro pins s σ H Q I h;refine zc hb (thn (he pins s σ H _ I h) fun u s1 ⟨x,H1,I1,rx,a,C,dx,fs,v,ex,ea,c,n,l,q⟩=>?_);subst ex;obtain rfl:u=Value.ref a:=rx;exact wu I1 ea c n l fun u' s2 I2 ru=>⟨v,H1,I2,ru,q⟩
theorem jV (ha:PE X o ta)(hv:PE X value tv)(hs:swapsWith value (some (.Attribute o f pos')) pos.line X.env=pure false):PS X (.Assign [.Attribute o f pos'] value pos) (aeB X.K ta tv f):=by
 intro pins s σ H D I h;refine ahz (thn (hv pins s σ H _ I h) fun u s1 ⟨y,H1,I1,ry,q⟩=>thn (ha pins s1 σ H1 _ I1 q) fun ov s2 ⟨x,H2,I2,rx,a,C,dx,fs,ex,ea,c,n,l,q2⟩=>?_) hs;subst ex;obtain rfl:ov=Value.ref a:=rx;exact wb I2 ea c n l ry fun s3 I3=>⟨σ,_,I3,q2⟩
theorem acs {pl:Sem Bool}{m:Str}{apos:Pos}{args:List Expr}{pins:List (Addr×Obj)}{s:Shared}{σ:St}{H:Hp}{Q:Value->Shared->Prop}{te:TE}(he:PE X e te)(I:Inv X pins σ H s)
 (h:te σ H fun x H1=>∃ a C dx fs g,x=.ref a/\H1 a=some (.ins C dx fs)/\Cls X.K C/\wK X.K C m g/\fs.lookup m=none ∧
  ∀ s1,Inv X pins σ H1 s1->wpAny (model X.prog X.w) X.A (callWith pos (.ref g) [.ref a] (backTo pos (starEach args X.env)) (backToKw pos (keywordEach [] X.env))) Q X.xe s1)
 (ht:eval (.Call (.Attribute e m apos) args [] pos) X.env=(do
  let ov ← eval e X.env
  standAt apos.atName
  let (f,first) ← holding [ov] (getMethod ov m pl)
  callWith pos f first (backTo pos (starEach args X.env)) (backToKw pos (keywordEach [] X.env)))) :
 wpAny (model X.prog X.w) X.A (eval (.Call (.Attribute e m apos) args [] pos) X.env) Q X.xe s:=by
 refine agw (pl:=pl) (thn (he pins s σ H _ I h) fun u s1 ⟨x,H1,I1,rx,a,C,dx,fs,g,ex,ea,c,k,l,q⟩=>?_) ht;subst ex;obtain rfl:u=Value.ref a:=rx;exact jF I1 ea c k l (q s1 I1)
end
section
variable {X:Cx}{pins:List (Addr×Obj)}{σ:St}{H:Hp}{s:Shared}{A:Around}{E:Value->Shared->Prop}{Q:Value->Shared->Prop}{c:Value}{b:Bool}
inductive v8 (K:PySem.W.Frag)(H:Hp):V->Value->Prop where
 | non:v8 K H .non (.type "NoneType")
 | bl (x:Bool):v8 K H (.bl x) (.type "bool")
 | int (i:Int):v8 K H (.int i) (.type "int")
 | str (x:Str):v8 K H (.str x) (.type "str")
 | flt (x:UInt64):v8 K H (.flt x) (.type "float")
 | lst {a:Addr} {xs:List V} (e:H a=some (.lst xs)):v8 K H (.ref a) (.type "list")
 | frz {a:Addr} {o:Obj} {xs:List V} (e:H a=some (.frz o (.lst xs))):v8 K H (.ref a) (.type "list")
 | tup {a:Addr} {xs:List V} (e:H a=some (.tup xs)):v8 K H (.ref a) (.type "tuple")
 | dK {a:Addr} {kvs:List (Key×V)} (e:H a=some (.dK kvs)):v8 K H (.ref a) (.type "dict")
 | dT {a:Addr} {kvs:List (List Key×V)} (e:H a=some (.dT kvs)):v8 K H (.ref a) (.type "dict")
 | ins {a C dx:Addr} {fs:List (Str×V)} (e:H a=some (.ins C dx fs)) (cl:Cls K C) (ha:findIn K (.ref C) "__class__" = some (some (.builtin "object.__class__")))
  (hn:specialIn K (.builtin "object.__class__") "__get__" = some (some (.builtin "getset_descriptor.__get__"))) (htk:takesIn K (.builtin "object.__class__")=some true)
  (hm:mroIn K C (.type "object")=some true):v8 K H (.ref a) (.ref C)
theorem yq {x:V}{u t:Value}(I:Inv X pins σ H s)(rx:RelV x u)(ty:v8 X.K H x t)(e:kitOne X.K t c=some b)(h:∀ tk,Q (.bool b) { s with toks:=tk }) :
 wpAny (model X.prog X.w) A (call (.builtin "isinstance") [u,c]) Q E s:=by
 cases ty with
 | non=>cases (show u=Value.none from rx);exact af1 PySem.W.kitx_none I.kIn True.intro e (fun z=>nomatch z) h
 | bl y=>cases (show u=Value.bool y from rx);exact af1 PySem.W.kitx_bool I.kIn True.intro e (fun z=>nomatch z) h
 | int i=>obtain⟨t,q⟩:=(show ∃ t,u=Value.int i t from rx);cases q;exact af1 PySem.W.kitx_int I.kIn True.intro e (fun z=>nomatch z) h
 | str y=>obtain⟨t,q⟩:=(show ∃ t,u=Value.str y t from rx);cases q;exact af1 PySem.W.kitx_str I.kIn True.intro e (fun z=>nomatch z) h
 | flt y=>obtain⟨t,q⟩:=(show ∃ t,u=Value.float y t from rx);cases q;exact af1 PySem.W.kitx_float I.kIn True.intro e (fun z=>nomatch z) h
 | @lst a xs ea =>
  cases (show u=Value.ref a from rx);obtain⟨_,_,n,_,h1⟩:=(show ObjOk X.prog X.w H s.heap a (.lst xs) from I.hok a _ ea);exact af1 kitx_list I.kIn ⟨_,h1,rfl⟩ e (fun z=>nomatch z) h
 | @frz a ob xs ea =>
  cases (show u=Value.ref a from rx);obtain⟨_,_,_,n,_,h1⟩:=(show ObjOk X.prog X.w H s.heap a (.frz ob (.lst xs)) from I.hok a _ ea);exact af1 kitx_list I.kIn ⟨_,h1,rfl⟩ e (fun z=>nomatch z) h
 | @tup a xs ea =>
  cases (show u=Value.ref a from rx);obtain⟨_,_,_,p⟩:=(show ObjOk X.prog X.w H s.heap a (.tup xs) from I.hok a _ ea);obtain⟨o,h1,h2,_⟩:=p;exact af1 PySem.W.kitx_tuple I.kIn ⟨o,h1,h2⟩ e (fun z=>nomatch z) h
 | @dK a kvs ea =>
  cases (show u=Value.ref a from rx);obtain⟨_,_,vs,_,p⟩:=(show ObjOk X.prog X.w H s.heap a (.dK kvs) from I.hok a _ ea);obtain⟨o,es,ep,h1,h2,_⟩:=p;exact af1 kitx_dict I.kIn ⟨o,h1,h2.1⟩ e (fun z=>nomatch z) h
 | @dT a kvs ea =>
  cases (show u=Value.ref a from rx);obtain⟨_,_,xs,_,o,es,ep,h1,h2,_⟩:=(show ObjOk X.prog X.w H s.heap a (.dT kvs) from I.hok a _ ea);exact af1 kitx_dict I.kIn ⟨o,h1,h2.1⟩ e (fun z=>nomatch z) h
 | @ins a C dx fs ea cl ha hn htk hm =>
  cases (show u=Value.ref a from rx);obtain⟨mA,O,_⟩:=nI I.hok ea;obtain⟨od,J,_⟩:=O.look;exact af1 (PySem.W.kitx_own (cl.get _) cl.hd ha hn htk hm) I.kIn J e (fun z=>nomatch z) h
end
structure Room (k:Nat)(A:Around):Prop where
 hd:A.handled=none
 dp:A.depth+3 * k+5 < recursionLimit
 un:A.units+16 * k+200 < cLine
theorem Room.mono {j k:Nat}{A:Around}(r:Room k A)(h:j<=k):Room j A:=⟨r.hd,by have:=r.dp;lia,by have:=r.un;lia⟩
theorem Room.deeper {k:Nat}{A:Around}(r:Room (k+1) A)(env:Env):Room k (A.deeper env) :=
 ⟨r.hd,by have:=r.dp;show A.depth+1+3 * k+5 < _;lia,by have:=r.un;show A.units+3+16 * k+200 < _;lia⟩
theorem wG {A:Around}{C:Addr}{us:List Value}{kw:List (Str×Value)}:(A.under (.builtin "type.__call__" ⟨.ref C::us,kw⟩)).depth=A.depth+1:=by
 first | rfl | simp [Around.under,Code.weight,Code.isCreation,Code.isGuard,Code.isCaller,Code.frames,Code.isFrame,guardIds]
theorem vN {A:Around}{C:Addr}{us:List Value}{kw:List (Str×Value)}:(A.under (.builtin "type.__call__" ⟨.ref C::us,kw⟩)).units=A.units+1:=by
 first | rfl | simp [Around.under,Code.cUnits,Code.frames,Code.isFrame]
theorem Room.make {k:Nat}{A:Around}(r:Room (k+1) A)(C:Addr)(us:List Value)(kw:List (Str×Value)):Room k (A.under (.builtin "type.__call__" ⟨.ref C::us,kw⟩)) :=
 ⟨r.hd,by have:=r.dp;rw [wG];lia,by have:=r.un;rw [vN];lia⟩
theorem Room.depth {k:Nat}{A:Around}(r:Room k A):A.depth < recursionLimit:=by have:=r.dp;lia
theorem Room.units {k:Nat}{A:Around}(r:Room k A):A.units+64 < cLine:=by have:=r.un;lia
def cu:TA:=fun _ H Q=>Q [] H
def aJ (ta:TE)(tr:TA):TA:=fun σ H Q=>ta σ H fun x H1=>tr σ H1 fun xs H2=>Q (x::xs) H2
section
variable {X:Cx}{e:Expr}{es:List Expr}{te:TE}{t:TA}{pos:Pos}
theorem af:PA X [] cu:=fun _ _ _ _ H Q I h=>aik ⟨[],H,I,.nil,h⟩
theorem ae (ha:PE X e te)(hr:PA X es t)(hs:starEach (e::es) X.env=(false,eval e X.env)::starEach es X.env:=by rfl):PA X (e::es) (aJ te t):=by
 intro pos pins s σ H Q I h;rw [hs];show wpAny _ _ (spliced ((false,eval e X.env)::backTo pos (starEach es X.env))) _ _ s;refine ahl (thn (ha pins s σ H _ I h) fun u s1 ⟨x,H1,I1,r1,q1⟩=>?_);exact thn (hr pos pins s1 σ H1 _ I1 q1) fun us s2 ⟨xs,H2,I2,r2,q2⟩=>⟨x::xs,H2,I2,.cons r1 r2,q2⟩
def wD (t:TA):TE:=fun σ H Q=>t σ H fun xs H1=>xs.length<=sizeLine/\∀ p,H1 p=none->Q (.ref p) (upd H1 p (.tup xs))
def oR (t:TA):TE:=fun σ H Q=>t σ H fun xs H1=>xs.length<=sizeLine/\∀ p,H1 p=none->Q (.ref p) (upd H1 p (.lst xs))
theorem cC {x1}(h:PA X es t):PE X (.Tuple es x1 pos) (wD t):=by
 intro pins s σ H Q I hq;refine wpAny_Tuple_spliced (thn (h pos pins s σ H _ I hq) fun us s1 ⟨xs,H1,I1,r,z,q⟩=>⟨by rw [← r.length];exact z,?_⟩);have hf:H1 s1.heap.objs.size=none:=I1.hok.fresh (ae4 _);refine⟨.ref s1.heap.objs.size,upd H1 s1.heap.objs.size (.tup xs),I1.laid (t':=s1.toks) (fun b u e=>ae0 _ e) (ae4 _) ?_,rfl,q _ hf⟩;exact⟨z,us,r,⟨_,afo _ rfl,rfl,_,rfl⟩⟩
theorem bq (h:PA X es t):PE X (.List es pos) (oR t):=by
 intro pins s σ H Q I hq;refine wpAny_List_spliced (thn (h pos pins s σ H _ I hq) fun us s1 ⟨xs,H1,I1,r,z,q⟩=>⟨by rw [← r.length];exact z,?_⟩);have hf:H1 s1.heap.objs.size=none:=I1.hok.fresh (ae4 _);refine⟨.ref s1.heap.objs.size,upd H1 s1.heap.objs.size (.lst xs),I1.laid (t':=s1.toks) (fun b u e=>ae0 _ e) (ae4 _) ?_,rfl,q _ hf⟩;exact⟨z,us,0,r,afo _ rfl⟩
end
abbrev Sp:=List V->Hp->VK->XK->Prop
abbrev CXT:=List Env->Hp->Shared->XK->Value->Shared->Prop
structure Env0 (P:Program)(w:World)(K:PySem.W.Frag)(mg:Str->Option Value)(base:Heap)(A:Around)(outer:List Env)(s:Shared)(H:Hp):Prop where
 frames:A.frames=some outer
 mod:Mod K mg base
 bs:∀ b o,base.get? b=some o->s.heap.get? b=some o/\H b=none
 bsz:base.objs.size<=s.heap.objs.size
 funs:s.heap.FunFrames base outer
 frf:∀ b∈frs outer,H b=none
 hok:HOk P w H s.heap
 bare:AllBare s.gens
def CE (outer:List Env)(P:Program)(w:World)(H:Hp)(s:Shared)(Q:VK)(u:Value)(s':Shared):Prop :=
 ∃ v H',s'.os=s.os/\AllBare s'.gens/\Un (frs outer) [] H H' s.heap s'.heap/\HOk P w H' s'.heap/\RelV v u/\Q v H'
def CR (CX:CXT)(outer:List Env)(P:Program)(w:World)(H:Hp)(s:Shared)(Q:VK)(E:XK)(r:Result)(s':Shared):Prop :=
 match r with
 | .ok (.ret u)=>CE outer P w H s Q u s'
 | .ok _=>False
 | .error e=>CX outer H s E e s'
structure FnOk (P:Program)(w:World)(K:PySem.W.Frag)(mg:Str->Option Value)(base:Heap)(CX:CXT)(k:Nat)(f:Addr)(fd:FuncData)(ps:List Str)(sp:Sp):Prop where
 len:∀ vs H Q E,sp vs H Q E->vs.length=ps.length
 run:∀ (A:Around) (outer:List Env) (s:Shared) (H:Hp) (args:Args) (us:List Value) (vs:List V) (Q:VK) (E:XK),Room k A->Env0 P w K mg base A outer s H->BindsTo s fd args (ps.zip us)->Vals vs us->sp vs H Q E →
  codeAny (model P w) A (.call (.ref f) args) (CR CX outer P w H s Q E) s
theorem Env0.make {P:Program}{w:World}{K:PySem.W.Frag}{mg:Str->Option Value}{base:Heap}{A:Around}{outer:List Env}{s:Shared}{H:Hp}(e:Env0 P w K mg base A outer s H)(C:Addr)(us:List Value)(kw:List (Str×Value)) :
 Env0 P w K mg base (A.under (.builtin "type.__call__" ⟨.ref C::us,kw⟩)) outer s H:=⟨by first | exact e.frames | (simpa [Around.under,Code.envs,Code.isFrame,pushEnvs] using e.frames),e.mod,e.bs,e.bsz,e.funs,e.frf,e.hok,e.bare⟩
section
variable {X:Cx}{pins:List (Addr×Obj)}{σ:St}{H:Hp}{s s':Shared}
theorem Inv.env0 (I:Inv X pins σ H s):Env0 X.prog X.w X.K X.mg X.base X.A X.stack s H :=
 ⟨I.ok.frames,I.ok.mod,I.bs,afC I.ok.bsz I.sz,I.stack,I.stkFree,I.hok,I.bare⟩
theorem Inv.after {Q:VK}{u:Value}(I:Inv X pins σ H s)(h:CE X.stack X.prog X.w H s Q u s'):EP X pins σ Q u s':=by
 obtain⟨v,H',os,bare,un,hok,r,q⟩:=h;obtain⟨hh,g,d,t,os'⟩:=s';obtain rfl:os'=s.os:=os;exact⟨v,H',I.call (h':=hh) (g':=g) (d':=d) (t':=t) (ch:=[]) un hok bare (fun b z=>absurd z (by simp)),r,q⟩
end
def me (sp:Sp)(dvs:List V)(E:XK)(t:TA):TE:=fun σ H Q=>t σ H fun vs H1=>sp (vs++dvs) H1 Q E
def acY (C:Addr)(m:Str)(sp:Sp)(dvs:List V)(E:XK)(ta:TE)(t:TA):TE:=fun σ H Q=>ta σ H fun x H1=>∃ a dx fs,x=.ref a/\H1 a=some (.ins C dx fs)/\fs.lookup m=none ∧
 t σ H1 fun vs H2=>sp (x::(vs++dvs)) H2 Q E
def ac7 (C:Addr)(sp:Sp)(dvs:List V)(E:XK)(t:TA):TE:=fun σ H Q=>t σ H fun vs H1=>∀ x dx,H1 x=none->H1 dx=none->dx≠x →
 sp (.ref x::(vs++dvs)) (upd (upd H1 dx (.own x)) x (.ins C dx [])) (fun v H2=>v=.non/\Q (.ref x) H2) E
def Binds (K:PySem.W.Frag)(fd:FuncData)(ps:List Str)(ds:List Value):Prop :=
 ∀ (s:Shared) (us:List Value),K.In s.heap->(us++ds).length=ps.length->BindsTo s fd ⟨us,[]⟩ (ps.zip (us++ds))
theorem Binds.all {K:PySem.W.Frag}{fd:FuncData}{ps:List Str}(h:∀ us:List Value,us.length=ps.length->bindArgs fd ⟨us,[]⟩=pure (ps.zip us)):Binds K fd ps []:=fun s us _ hl=>by
 rw [afD] at hl ⊢;exact .of_eq (h us hl)
def iX (CX:CXT)(X:Cx)(E:XK):Prop:=∀ (pins:List (Addr×Obj)) (σ:St) (H:Hp) (s:Shared) (e:Value) (s':Shared),Inv X pins σ H s->CX X.stack H s E e s'->X.xe e s'
section
variable {X:Cx}{CX:CXT}{k:Nat}{f C:Addr}{fd:FuncData}{ps:List Str}{sp:Sp}{dvs:List V}{ds:List Value}{E:XK}{x m:Str}{p pos apos:Pos}{e o:Expr}{es:List Expr}{ta:TE}{t:TA}
theorem qS {pins:List (Addr×Obj)}{σ:St}{H:Hp}{s:Shared}{Q:VK}{us:List Value}{vs:List V}(F:FnOk X.prog X.w X.K X.mg X.base CX k f fd ps sp)(hr:Room k X.A)(hb:Binds X.K fd ps ds)(hd:Vals dvs ds)(hx:iX CX X E)
 (I:Inv X pins σ H s)(r:Vals vs us)(h:sp (vs++dvs) H Q E):wpAny (model X.prog X.w) X.A (call (.ref f) us) (EP X pins σ Q) X.xe s:=by
 have r2:Vals (vs++dvs) (us++ds):=r.append hd;have hl:(us++ds).length=ps.length:=by rw [← r2.length];exact F.len _ _ _ _ h
 refine ahe (ahf (F.run X.A X.stack s H ⟨us,[]⟩ (us++ds) (vs++dvs) Q E hr I.env0 (hb s us I.kIn hl) r2 h) fun r s' hq=>?_);cases r with
 | error e=>exact hx pins σ H s e s' I hq
 | ok fl =>
  cases fl with
  | ret u=>exact I.after hq
  | next=>exact False.elim hq
  | brk=>exact False.elim hq
  | cont=>exact False.elim hq
theorem fX (F:FnOk X.prog X.w X.K X.mg X.base CX k f fd ps sp)(hr:Room k X.A)(hg:Gl X x)(hm:X.mg x=some (.ref f))(hk:keepIn X.K (.ref f)=true)(hb:Binds X.K fd ps ds)(hd:Vals dvs ds)(hx:iX CX X E)
 (ha:PA X (e::es) t)(hdb:(x == ("__debug__" : Str))=false:=by decide)(he:starEach (e::es) X.env=(false,eval e X.env)::starEach es X.env:=by rfl)(hpl:(backTo pos (starEach es X.env)).any (·.1)=false:=by rfl) :
 PE X (.Call (.Name x p) (e::es) [] pos) (me sp dvs E t):=by
 intro pins s σ H Q I h;refine agc (fF I hg hm ?_ hdb);refine agx (h₀:=X.base) I.ok.mod.kin hk (thn (ha pos pins s σ H _ I h) fun us s1 ⟨vs,H1,I1,r,q⟩=>⟨I1.kIn,?_⟩) he hpl;exact qS F hr hb hd hx I1 r q
theorem qo {pl:Sem Bool}(he:PE X o ta)(c:Cls X.K C)(hm:wK X.K C m f)(F:FnOk X.prog X.w X.K X.mg X.base CX k f fd ps sp)(hr:Room k X.A)(hb:Binds X.K fd ps ds)(hd:Vals dvs ds)(hx:iX CX X E)(ha:PA X (e::es) t)
 (hst:starEach (e::es) X.env=(false,eval e X.env)::starEach es X.env:=by rfl)(hpl:(backTo pos (starEach es X.env)).any (·.1)=false:=by rfl)
 (ht:eval (.Call (.Attribute o m apos) (e::es) [] pos) X.env=(do
  let ov ← eval o X.env
  standAt apos.atName
  let (f,first) ← holding [ov] (getMethod ov m pl)
  callWith pos f first (backTo pos (starEach (e::es) X.env)) (backToKw pos (keywordEach [] X.env))):=by rfl) :
 PE X (.Call (.Attribute o m apos) (e::es) [] pos) (acY C m sp dvs E ta t):=by
 intro pins s σ H Q I h;refine agw (pl:=pl) (thn (he pins s σ H _ I h) fun u s1 ⟨x,H1,I1,rx,a,dx,fs,ex,ea,l,q⟩=>?_) ht;subst ex;obtain rfl:u=Value.ref a:=rx;refine jF I1 ea c hm l ?_;refine agx (first:=[.ref a]) (h₀:=X.base) I.ok.mod.kin hm.kp (thn (ha pos pins s1 σ H1 _ I1 q) fun us s2 ⟨vs,H2,I2,r,q2⟩=>⟨I2.kIn,?_⟩) hst hpl;exact qS (us:=.ref a::us) (vs:=.ref a::vs) F hr hb hd hx I2 (.cons rfl r) q2
theorem uT {pl:Sem Bool}(he:PE X o ta)(c:Cls X.K C)(hm:wK X.K C m f)(F:FnOk X.prog X.w X.K X.mg X.base CX k f fd ps sp)(hr:Room k X.A)(hb:Binds X.K fd ps ds)(hd:Vals dvs ds)(hx:iX CX X E)
 (ht:eval (.Call (.Attribute o m apos) [] [] pos) X.env=(do
  let ov ← eval o X.env
  standAt apos.atName
  let (f,first) ← holding [ov] (getMethod ov m pl)
  callWith pos f first (backTo pos (starEach [] X.env)) (backToKw pos (keywordEach [] X.env))):=by rfl) :
 PE X (.Call (.Attribute o m apos) [] [] pos) (acY C m sp dvs E ta cu):=by
 intro pins s σ H Q I h;refine agw (pl:=pl) (thn (he pins s σ H _ I h) fun u s1 ⟨x,H1,I1,rx,a,dx,fs,ex,ea,l,q⟩=>?_) ht;subst ex;obtain rfl:u=Value.ref a:=rx;refine jF I1 ea c hm l ?_;exact callWith_K0 (first:=[.ref a]) I1.kIn hm.kp (qS (us:=[.ref a]) (vs:=[.ref a]) F hr hb hd hx I1 (.cons rfl .nil) q)
structure Mk (K:PySem.W.Frag)(C f:Addr):Prop where
 makes:makesIn K C=true
 init:findIn K (.ref C) "__init__" = some (some (.ref f))
 fn:isFn K (.ref f)=true
 kp:keepIn K (.ref C)=true
theorem aaj {pins:List (Addr×Obj)}{σ:St}{H:Hp}{s:Shared}{Q:VK}{us:List Value}{vs:List V}(M:Mk X.K C f)(F:FnOk X.prog X.w X.K X.mg X.base CX k f fd ps sp)(hr:Room (k+1) X.A)(hb:Binds X.K fd ps ds)(hd:Vals dvs ds)
 (hx:iX CX X E)(I:Inv X pins σ H s)(r:Vals vs us)
 (h:∀ x dx,H x=none->H dx=none->dx≠x->sp (.ref x::(vs++dvs)) (upd (upd H dx (.own x)) x (.ins C dx [])) (fun v H2=>v=.non/\Q (.ref x) H2) E) :
 wpAny (model X.prog X.w) X.A (call (.ref C) us) (EP X pins σ Q) X.xe s:=by
 have hq:=h (s.heap.objs.size+1) s.heap.objs.size (I.hok.fresh (agK _)) (I.hok.fresh (ae4 _)) (afq (Nat.lt_succ_self _));have I2:=Inv.made (C:=C) I;have r2:Vals (V.ref (s.heap.objs.size+1)::(vs++dvs)) (Value.ref (s.heap.objs.size+1)::(us++ds)):=.cons rfl (r.append hd);have hl:(Value.ref (s.heap.objs.size+1)::us++ds).length=ps.length:=by
  have e:=r2.length;rw [F.len _ _ _ _ hq] at e;exact e.symm
 refine ahe (aaA (f:=f) I.kIn M.makes M.init (afj.mp M.fn) (ahf (F.run _ X.stack _ _ ⟨Value.ref (s.heap.objs.size+1)::us,[]⟩ (Value.ref (s.heap.objs.size+1)::(us++ds)) _ _ E (hr.make C us [])
  (I2.env0.make C us []) (hb _ (Value.ref (s.heap.objs.size+1)::us) I2.kIn hl) r2 hq) fun r s' hq'=>?_))
 cases r with
 | error e=>exact hx pins σ _ _ e s' I2 hq'
 | ok fl =>
  cases fl with
  | ret u =>
   obtain⟨v,H',I3,rv,ev,q3⟩:=I2.after hq';subst ev;exact⟨rv,⟨V.ref (s.heap.objs.size+1),H',I3,rfl,q3⟩⟩
  | next=>exact False.elim hq'
  | brk=>exact False.elim hq'
  | cont=>exact False.elim hq'
theorem aal (M:Mk X.K C f)(F:FnOk X.prog X.w X.K X.mg X.base CX k f fd ps sp)(hr:Room (k+1) X.A)(hg:Gl X x)(hm:X.mg x=some (.ref C))(hb:Binds X.K fd ps ds)(hd:Vals dvs ds)(hx:iX CX X E)
 (hdb:(x == ("__debug__" : Str))=false:=by decide):PE X (.Call (.Name x p) [] [] pos) (ac7 C sp dvs E cu):=by
 intro pins s σ H Q I h;refine agc (fF I hg hm ?_ hdb);exact callWith_K0 I.kIn M.kp (aaj (us:=[]) M F hr hb hd hx I .nil h)
end
section
variable {X:Cx}{CX:CXT}{k:Nat}{f C:Addr}{fd:FuncData}{ps ks:List Str}{sp:Sp}{E:XK}{x m:Str}{p pos apos kpos:Pos}{e o:Expr}{es:List Expr}{kws:List Keyword}{te ta:TE}{t tk:TA}{nm:Option Str}
variable {g:List Value->List Value->List Value}{gV:List V->List V->List V}
end
structure az (N P:List Str)(sc:Scope):Prop where
 kind:sc.kind=.function
 co:sc.isCoroutine=false
 gen:sc.isGenerator=false
 nd:N.Nodup
 pre:N.take P.length=P
 par:∀ x∈P,sc.names.lookup x=some .local\/sc.names.lookup x=some .cell
 nofree:∀ y∈sc.names,y.2≠.free
theorem scM {N P:List Str}{sc:Scope}(a:sc.kind=.function)(b:sc.isCoroutine=false)(c:sc.isGenerator=false)(e:N.take P.length=P)(d:N.Nodup/\(∀ x∈P,sc.names.lookup x=some .local\/sc.names.lookup x=some .cell)/\∀ y∈sc.names,y.2≠.free):az N P sc:=⟨a,b,c,d.1,e,d.2.1,d.2.2⟩
theorem sd {kindOf:Str->Option NameKind}{x:Str}:∀ {binds:List (Str×Value)} {m:Str->Option Value},(∀ v,(x,v) ∉ binds)->bindL kindOf binds m x=m x
 | [],_,_=>rfl
 | (n,v)::r,m,h=>by
  unfold bindL;rw [sd fun w hw=>h w (aeW _ hw)];split
  ·have:x≠n:=by rintro rfl;exact h v aeX
   simp [this]
  ·rfl
theorem qU {kindOf:Str->Option NameKind}{x:Str}:∀ {binds:List (Str×Value)} {m:Str->Option Value},(∀ v,(x,v) ∉ binds)->bindC kindOf binds m x=m x
 | [],_,_=>rfl
 | (n,v)::r,m,h=>by
  unfold bindC;rw [qU fun w hw=>h w (aeW _ hw)];split
  ·rfl
  ·have:x≠n:=by rintro rfl;exact h v aeX
   simp [this]
theorem r8 {kindOf:Str->Option NameKind}{x:Str}{v:Value}:∀ {P:List Str} {vs:List Value} {i:Nat} {m:Str->Option Value},P.Nodup->P[i]? = some x->vs[i]? = some v->kindOf x=some .local →
 bindL kindOf (P.zip vs) m x=some v
 | [],_,_,_,_,h,_,_=>by simp at h
 | _::_,[],_,_,_,_,h,_=>by simp at h
 | p::P,w::vs,0,m,nd,h1,h2,hk=>by
  simp at h1 h2;subst h1;subst h2;show bindL kindOf ((p,w)::P.zip vs) m p=_;unfold bindL;rw [sd fun v hv=>(ahZ.mp nd).1 (aiM hv).1,if_pos hk];simp
 | p::P,w::vs,i+1,m,nd,h1,h2,hk=>by
  show bindL kindOf ((p,w)::P.zip vs) m x=_;unfold bindL;exact r8 (i:=i) (ahZ.mp nd).2 (by simpa using h1) (by simpa using h2) hk
theorem rK {kindOf:Str->Option NameKind}{x:Str}{v:Value}:∀ {P:List Str} {vs:List Value} {i:Nat} {m:Str->Option Value},P.Nodup->P[i]? = some x->vs[i]? = some v->kindOf x≠some .local →
 bindC kindOf (P.zip vs) m x=some v
 | [],_,_,_,_,h,_,_=>by simp at h
 | _::_,[],_,_,_,_,h,_=>by simp at h
 | p::P,w::vs,0,m,nd,h1,h2,hk=>by
  simp at h1 h2;subst h1;subst h2;show bindC kindOf ((p,w)::P.zip vs) m p=_;unfold bindC;rw [qU fun v hv=>(ahZ.mp nd).1 (aiM hv).1,if_neg hk];simp
 | p::P,w::vs,i+1,m,nd,h1,h2,hk=>by
  show bindC kindOf ((p,w)::P.zip vs) m x=_;unfold bindC;exact rK (i:=i) (ahZ.mp nd).2 (by simpa using h1) (by simpa using h2) hk
def start (N:List Str)(vs:List V):St:=vs.map some++List.replicate (N.length - vs.length) none
def gL (CX:CXT)(P:Program)(w:World)(K:PySem.W.Frag)(mg:Str->Option Value)(base:Heap)(N:List Str)(qual:Str)(scope:Scope)(f:Addr)(cd:Value)(A:Around)(outer:List Env)(s:Shared)(H:Hp)(E:XK):Cx where
 prog:=P
 w:=w
 K:=K
 mg:=mg
 base:=base
 A:=A.deeper (envOfC qual scope s.heap.objs.size f cd)
 N:=N
 s₀:=s
 H₀:=H
 env:=envOfC qual scope s.heap.objs.size f cd
 outer:=outer
 stack:=envOfC qual scope s.heap.objs.size f cd::outer
 ex:=[]
 calm:=true
 fn:=fun _=>true
 pn:=[]
 xe:=fun e s'=>wpAny (model P w) (A.deeper (envOfC qual scope s.heap.objs.size f cd)) (leaving (envOfC qual scope s.heap.objs.size f cd) e) (fun _ s''=>CX outer H s E e s'') (fun e' s''=>CX outer H s E e' s'') s'
theorem vo {sc:Scope}{n:Nat}{x:Str}(h:sc.names.lookup x=some .cell):∃ c,(cellsFrom n sc.names []).lookup x=some c:=by
 have q:=aiF sc.names n [] (.inl h);exact Option.isSome_iff_exists.mp q
theorem wO {CX:CXT}{P:Program}{w:World}{K:PySem.W.Frag}{mg:Str->Option Value}{base:Heap}{N ps:List Str}{qual:Str}{scope:Scope}{f:Addr}{cd:Value}{A:Around}{outer:List Env}{s s1:Shared}{H:Hp}{E:XK}{us:List Value}{vs:List V}
 (S:az N ps scope)(hd:A.handled=none)(e0:Env0 P w K mg base A outer s H)(hl:vs.length=ps.length)(r:Vals vs us)
 (x:InCallC s s.heap.objs.size (bindL (envOfC qual scope s.heap.objs.size f cd).kindOf (ps.zip us) fun _=>none) (cellsFrom (s.heap.objs.size+1) scope.names []) (bindC (envOfC qual scope s.heap.objs.size f cd).kindOf (ps.zip us) fun _=>none) s1) :
 Inv (gL CX P w K mg base N qual scope f cd A outer s H E) [] (start N vs) H s1:=by
 have hpl:ps.length<=N.length:=by have:=afH List.length S.pre;rw [afs] at this;lia
 obtain⟨h1,tk,rfl,hk⟩:=x.done;have noA:∀ b:Addr,b ∉ (gL CX P w K mg base N qual scope f cd A outer s H E).ex:=fun b z=>absurd (show b∈([]:List Addr) from z) (by simp);refine⟨⟨e0.mod,S.kind,rfl,rfl,ae4 _,fun y z c h1 h2=>?_,fun y hy=>?_,fun y c _ h=>?_,fun _=>hd,Around.frames_deeper e0.frames,.inr ⟨rfl,rfl⟩,fun b z=>absurd z (noA b),e0.bs,e0.bsz,fun b _ _=>noA b,fun b z=>absurd z (noA b),e0.funs,e0.frf⟩,
  rfl,e0.bare,Un.kept hk,⟨_,x.toInCall.ns,fun i y v h1 h2 h3=>?_⟩,fun y c h=>⟨_,x.cell y c h⟩,e0.hok.fresh (ae4 _),fun y c h=>?_,fun p hp=>absurd (show p∈([]:List (Addr×Obj)) from hp) (by simp),e0.hok.kept hk,?_⟩
 ·exact name_of_addr x.apart (agL h1) (agL h2)
 ·have hy:scope.names.lookup y=some .cell\/scope.names.lookup y=some .free:=hy;rcases hy with hy | hy
  ·exact vo hy
  ·exact absurd rfl (S.nofree _ (agL hy))
 ·exact ag0 (x.above y c (agL h))
 ·have hi:i < vs.length:=by
   unfold start at h2;by_cases hi:i < vs.length
   ·exact hi
   ·rw [aff (by simpa using hi)] at h2;rw [ahm] at h2;split at h2<;>cases h2
  have ha:vs[i]? = some v:=by
   unfold start at h2;rw [afp (by simpa using hi),afg] at h2;cases e:vs[i]? with
   | none=>rw [e] at h2;cases h2
   | some a=>rw [e] at h2;cases h2;rfl
  obtain⟨u,hu,rv⟩:=r.get ha;have hp:ps[i]? = some y:=by
   rw [← S.pre,agE (by lia)];exact h1
  have ndP:ps.Nodup:=by rw [← S.pre];exact S.nd.sublist (List.take_sublist _ _)
  refine⟨u,rv,?_⟩;rcases S.par y (afY hp) with k | k
  ·exact .inl ⟨k,r8 ndP hp hu k⟩
  ·obtain⟨c,e⟩:=vo (n:=s.heap.objs.size+1) k;refine .inr ⟨.inl k,c,e,?_⟩;have q:=x.cell y c e;rw [rK ndP hp hu (by show scope.names.lookup y≠_;rw [k];decide)] at q;exact q
 ·exact e0.hok.fresh (ag0 (x.above y c (agL h)))
 ·unfold start;show _=N.length;rw [aeV,aeT,aft];lia
theorem acA {CX:CXT}{P:Program}{w:World}{K:PySem.W.Frag}{mg:Str->Option Value}{base:Heap}{k:Nat}{f:Addr}{name qual:Str}{params:Arguments}{body:List Stmt}{scope:Scope}{dV kV doc pm cdv ct oc:Value}{an od:Option Addr}
 {osl:Array (Option Value)}{N ps:List Str}{sp:Sp}(lk:K.lookup f=some ⟨oc,od,.func (fnOf name qual params body scope dV kV doc pm an cdv ct),osl⟩)(hcd:codeIn K cdv qual=true)(S:az N ps scope)
 (len:∀ vs H Q E,sp vs H Q E->vs.length=ps.length)
 (hbody:∀ (A:Around) (outer:List Env) (s:Shared) (H:Hp) (vs:List V) (Q:VK) (E:XK),Room k (A.deeper (envOfC qual scope s.heap.objs.size f cdv))->sp vs H Q E →
  ∃ t,PSs (gL CX P w K mg base N qual scope f cdv A outer s H E) body t/\t { nx:=fun _ H'=>Q .non H',rt:=Q } (start N vs) H) :
 FnOk P w K mg base CX (k+1) f (fnOf name qual params body scope dV kV doc pm an cdv ct) ps sp:=by
 refine⟨len,fun A outer s H args us vs Q E hr e0 hb r hsp=>?_⟩;have hl:=len _ _ _ _ hsp;have KX:K.In s.heap:=e0.mod.kin.keeps fun b o e=>(e0.bs b o e).1;have lim:s.heap.NoLimit:=e0.mod.nolimit.keeps fun b o e=>(e0.bs b o e).1;have hkind:∀ y∈ps.zip us,scope.names.lookup y.1=some .local\/(scope.names.lookup y.1=some .cell/\((cellsFrom (s.heap.objs.size+1) scope.names []).lookup y.1).isSome=true):=fun ⟨n,v⟩ hy=>by
  rcases S.par n (aiM hy).1 with q | q
  ·exact .inl q
  ·exact .inr ⟨q,aiF _ _ _ (.inl q)⟩
 refine codeAny_call_function hr.depth (KX _ _ lk) rfl S.co S.gen rfl (PySem.W.codeRec_of KX hcd) (hb _ _ _ _ ?_);refine wpAny_newFunctionEnv_cells S.kind hkind fun env he s1 x=>?_;subst he;refine⟨lim.keeps x.toInCall.keep,codeAny_func ?_⟩;obtain⟨t,ht,hq⟩:=hbody A outer s H vs Q E (hr.deeper _) hsp;have I:Inv (gL CX P w K mg base N qual scope f cdv A outer s H E) [] (start N vs) H s1:=wO S hr.hd e0 hl r x;refine af6 (ht [] s1 (start N vs) H _ I hq) (fun fl s' hs=>?_) fun e s' hs=>hs;have fin:∀ {σ':St} {H':Hp} {v:V} {u:Value},Inv (gL CX P w K mg base N qual scope f cdv A outer s H E) [] σ' H' s'->RelV v u->Q v H'->CE outer P w H s Q u s' :=
  fun {σ' H' v u} J rv q=>⟨v,H',J.os,J.bare,J.base,J.hok,rv,q⟩
 cases fl with
 | ret u =>
  obtain⟨v,σ',H',J,rv,q⟩:=hs;exact fin J rv q
 | next =>
  obtain⟨σ',H',J,q⟩:=hs;exact fin (v:=V.non) (u:=Value.none) J rfl q
 | brk =>
  obtain⟨_,_,_,q⟩:=hs;exact False.elim q
 | cont =>
  obtain⟨_,_,_,q⟩:=hs;exact False.elim q
section
variable {X:Cx}{x:Str}{p pos:Pos}{e:Expr}{es:List Expr}{t:TA}{id T:String}{r:List V->Hp->VK->Prop}
def tCB (r:List V->Hp->VK->Prop)(t:TA):TE:=fun σ H Q=>t σ H fun vs H1=>r vs H1 Q
theorem av (hc:iw X (.builtin id) r)(hg:Gl X x)(hm:X.mg x=none)(hv:bootBuiltins x=some (.builtin id))(ha:PA X (e::es) t)(hn:x ≠ "__name__" := by decide)(hdb:(x == ("__debug__" : Str))=false:=by decide)
 (he:starEach (e::es) X.env=(false,eval e X.env)::starEach es X.env:=by rfl)(hpl:(backTo pos (starEach es X.env)).any (·.1)=false:=by rfl):PE X (.Call (.Name x p) (e::es) [] pos) (tCB r t):=by
 intro pins s σ H Q I h;refine agc (pj I hg hm hv ?_ hn hdb);exact ahH (thn (ha pos pins s σ H _ I h) fun us s1 ⟨vs,H1,I1,r1,q1⟩=>hc pins s1 σ H1 vs us Q I1 r1 q1) he hpl
theorem aR (hc:iw X (.type T) r)(hg:Gl X x)(hm:X.mg x=none)(hv:bootBuiltins x=some (.type T))(ha:PA X (e::es) t)(hn:x ≠ "__name__" := by decide)(hdb:(x == ("__debug__" : Str))=false:=by decide)
 (he:starEach (e::es) X.env=(false,eval e X.env)::starEach es X.env:=by rfl)(hpl:(backTo pos (starEach es X.env)).any (·.1)=false:=by rfl):PE X (.Call (.Name x p) (e::es) [] pos) (tCB r t):=by
 intro pins s σ H Q I h;refine agc (pj I hg hm hv ?_ hn hdb);exact agl (thn (ha pos pins s σ H _ I h) fun us s1 ⟨vs,H1,I1,r1,q1⟩=>hc pins s1 σ H1 vs us Q I1 r1 q1) he hpl
end
end L2
namespace HT
open PySem PyProof.Rows
section
open PySem.SeqAt
open PySem.AutoSeq1 (wpAny_loadPart')
open PySem.MeetsSeq PySem.MeetsSeq2 PySem.MeetsSeq3
end
section
variable {prog:Program}{w:World}{A:Around}{E:Value->Shared->Prop}{s:Shared}
def sIx (n d:Nat):Option Int->Nat
 | none=>d
 | some v=>if v < 0 then (v+(n:Int)).toNat else min v.toNat n
theorem sIx_none (n d:Nat):sIx n d none=d:=rfl
theorem sIx_nat (n d k:Nat):sIx n d (some (k:Int))=min k n:=by
 show (if (k:Int) < 0 then ((k:Int)+(n:Int)).toNat else min (k:Int).toNat n)=min k n;rw [if_neg (by lia),afu]
end
end HT
namespace L2
open PySem PySem.Spec PyProof.Rows
abbrev TO:=St->Hp->(Option Int->Hp->Prop)->Prop
def PO (X:Cx)(e:Option Expr)(t:TO):Prop :=
 ∀ (pins:List (Addr×Obj)) (s:Shared) (σ:St) (H:Hp) (Q:Option Int->Hp->Prop),Inv X pins σ H s->t σ H Q →
  wpAny (model X.prog X.w) X.A (evalPart e X.env) (fun u s'=>∃ o H',Inv X pins σ H' s'/\IsPart u o/\Q o H') X.xe s
def qG:TO:=fun _ H Q=>Q none H
def aaf (t:TE):TO:=fun σ H Q=>t σ H fun x H1=>∃ i,x=.int i/\Q (some i) H1
section
variable {X:Cx}{e:Expr}{te:TE}{lo hi:Option Expr}{tl th:TO}{pos p2:Pos}
theorem gJ:PO X none qG:=by
 intro pins s σ H Q I h;rw [evalPart_none];exact ae3 ⟨none,H,I,.none,h⟩
theorem gB (h:PE X e te):PO X (some e) (aaf te):=by
 intro pins s σ H Q I hw;rw [evalPart_some];refine thn (h pins s σ H _ I hw) fun u s1 ⟨x,H1,I1,r1,q1⟩=>?_;obtain⟨i,rfl,q⟩:=q1;obtain⟨t,rfl⟩:=r1;exact⟨some i,H1,I1,.int i t,q⟩
def SlR (X:Cx)(r:V->Option Int->Option Int->Hp->VK->Prop):Prop :=
 ∀ (pins:List (Addr×Obj)) (s:Shared) (σ:St) (H:Hp) (x:V) (v vl vu:Value) (lo hi:Option Int) (sl:Addr) (Q:VK),Inv X pins σ H s->RelV x v->s.heap.IsSliceOf sl vl vu .none->IsPart vl lo->IsPart vu hi->r x lo hi H Q →
  ∃ T id,typeLookup (.type T) "__getitem__" = pure (some (.builtin id))/\s.TypeIs v T/\wpAny (model X.prog X.w) X.A (getItem v (.ref sl)) (EP X pins σ Q) X.xe s
def tSl (r:V->Option Int->Option Int->Hp->VK->Prop)(te:TE)(tl th:TO):TE:=fun σ H Q=>te σ H fun x H1=>tl σ H1 fun l H2=>th σ H2 fun u H3=>r x l u H3 Q
theorem d7 {r:V->Option Int->Option Int->Hp->VK->Prop}(hr:SlR X r)(he:PE X e te)(hl:PO X lo tl)(hu:PO X hi th):PE X (.Subscript e (.Slice lo hi none p2) pos) (tSl r te tl th):=by
 intro pins s σ H Q I h;refine Subscript_ (thn (he pins s σ H _ I h) fun v s1 ⟨x,H1,I1,r1,q1⟩=>?_);refine wpAny_Slice (thn (hl pins s1 σ H1 _ I1 q1) fun vl s2 ⟨l,H2,I2,pl,q2⟩=>thn (hu pins s2 σ H2 _ I2 q2) fun vu s3 ⟨u,H3,I3,pu,q3⟩=>?_);rw [evalPart_none];refine ae3 ?_;have I4:Inv X pins σ H3 { s3 with heap:=s3.heap.push { cls:=.type "slice",data:=.fields #[vl,vu,.none] } }:=I3.kept (t':=s3.toks) fun b ob q=>ae0 _ q;obtain⟨T,id,hT,ht,hg⟩:=hr pins { s3 with heap:=s3.heap.push { cls:=.type "slice",data:=.fields #[vl,vu,.none] } } σ H3 x v vl vu l u s3.heap.objs.size Q I4 r1 (Heap.IsSliceOf.new ..) pl pu q3;show wpAny (model X.prog X.w) X.A (subscriptTail e (.Slice lo hi none p2) v (.ref s3.heap.objs.size)) (EP X pins σ Q) X.xe { s3 with heap:=s3.heap.push { cls:=.type "slice",data:=.fields #[vl,vu,.none] } };exact tail_any (ops:=[.ref s3.heap.objs.size,v]) ht hT hg (by with_unfolding_all rfl)
def uV (xs:List V)(lo hi:Option Int):List V:=(xs.drop (HT.sIx xs.length 0 lo)).take (HT.sIx xs.length xs.length hi - HT.sIx xs.length 0 lo)
theorem tQ (xs:List V)(lo hi:Option Int):(uV xs lo hi).length<=xs.length:=by
 unfold uV;rw [afs,af2];lia
end
def ixN (n:Nat)(i:Int):Option Nat:=if 0<=i then (if i < n then some i.toNat else none) else if -(n:Int)<=i then some (i+n).toNat else none
def atI {α:Type}(xs:List α)(i:Int):Option α:=(ixN xs.length i).bind fun j=>xs[j]?
theorem xZ {n:Nat}{i:Int}{j:Nat}(h:ixN n i=some j):seqIndex? i n=some j/\j < n/\-(n:Int)<=i/\i < n:=by
 unfold ixN at h;by_cases h0:0<=i
 ·rw [if_pos h0] at h;by_cases h1:i < n
  ·rw [if_pos h1] at h;have e:i.toNat=j:=afP h;exact⟨by rw [seqIndex_of h0 h1,e],by lia,by lia,h1⟩
  ·rw [if_neg h1] at h;cases h
 ·rw [if_neg h0] at h;by_cases h1:-(n:Int)<=i
  ·rw [if_pos h1] at h;have e:(i+n).toNat=j:=afP h;exact⟨by rw [seqIndex_neg (by lia) h1,e],by lia,h1,by lia⟩
  ·rw [if_neg h1] at h;cases h
theorem tR {α:Type}{xs:List α}{i:Int}{v:α}(h:atI xs i=some v):∃ j,seqIndex? i xs.length=some j/\xs[j]? = some v/\j < xs.length/\-(xs.length:Int)<=i/\i < xs.length:=by
 unfold atI at h;cases e:ixN xs.length i with
 | none=>rw [e] at h;cases h
 | some j =>
  rw [e] at h;obtain⟨h1,h2,h3,h4⟩:=xZ e;exact⟨j,h1,h,h2,h3,h4⟩
theorem bP {α:Type}{xs:List α}{j:Nat}{v:α}(h:xs[j]? = some v):atI xs (j:Int)=some v:=by
 have hj:j < xs.length:=(aeZ.mp h).1;have e:ixN xs.length (j:Int)=some j:=by
  unfold ixN;rw [if_pos (by lia),if_pos (by lia)];simp
 unfold atI;rw [e];exact h
theorem aaM {α:Type}(xs:List α)(v:α):atI (xs++[v]) (-1)=some v:=by
 have hl:(xs++[v]).length=xs.length+1:=by simp
 have e:ixN (xs++[v]).length (-1)=some xs.length:=by
  unfold ixN;rw [hl,if_neg (by decide),if_pos (by lia)];congr 1;lia
 unfold atI;rw [e];show (xs++[v])[xs.length]? = some v;simp
def abA (b:Expr):Prop:=∀ o i,subscripted b false o i=operate [o,i] (getItem o i)
def IxR (X:Cx)(r:R2):Prop :=
 ∀ (value slice:Expr) (pins:List (Addr×Obj)) (s:Shared) (σ:St) (H:Hp) (x y:V) (v u:Value) (Q:VK),Inv X pins σ H s->RelV x v->RelV y u->r x y H Q →
  subscripted slice false v u=operate [v,u] (getItem v u)->wpAny (model X.prog X.w) X.A (subscriptTail value slice v u) (EP X pins σ Q) X.xe s
def MtR (X:Cx)(id:String)(r:V->List V->Hp->VK->Prop):Prop :=
 ∀ (pins:List (Addr×Obj)) (s:Shared) (σ:St) (H:Hp) (x:V) (xs:List V) (v:Value) (us:List Value) (Q:VK),Inv X pins σ H s->RelV x v->Vals xs us->r x xs H Q →
  wpAny (model X.prog X.w) X.A (call (.builtin id) (v::us)) (EP X pins σ Q) X.xe s
section
variable {X:Cx}{a b:Expr}{ta tb:TE}{pos:Pos}
theorem a7 {r:R2}(hr:IxR X r)(ha:PE X a ta)(hb:PE X b tb)(hs:abA b):PE X (.Subscript a b pos) (tOp r ta tb):=by
 intro pins s σ H Q I h;exact Subscript_ (adU ha hb I h fun v u s2 x y H2 I2 rx ry q=>hr a b pins s2 σ H2 x y v u Q I2 rx ry q (hs _ _))
def zt (K:PySem.W.Frag):R2:=fun x y H Q=>∃ p xs i v,x=.ref p/\y=.int i/\SqL K H p xs/\atI xs i=some v/\Q v H
def acF (K:PySem.W.Frag):R2:=fun x y H Q=>∃ p xs i v,x=.ref p/\y=.int i/\SqT K H p xs/\atI xs i=some v/\Q v H
def aeO:R2:=fun x y H Q=>∃ z i c,x=.str z/\y=.int i/\z.length<=sizeLine/\atI z.cps.toList i=some c/\Q (.str ⟨#[c]⟩) H
theorem aX:IxR X (zt X.K):=by
 intro value slice pins s σ H x y v u Q I rx ry h hs;obtain⟨p,xs,i,z,rfl,rfl,hq,he,q⟩:=h;cases rx;obtain⟨t,rfl⟩:=ry;obtain⟨its,r,pl,hz⟩:=I.list hq;obtain⟨j,h1,h2,h3,h4,h5⟩:=tR he;obtain⟨w,ew,rw'⟩:=r.get h2;have hl:=r.length;have hn:=mJ;have fin:EP X pins σ Q w s:=⟨z,H,I,rw',q⟩;by_cases h0:0<=i
 ·have hj:i.toNat=j:=by
   rw [seqIndex_of h0 h5] at h1;exact afP h1
  exact item_listR pl.isList h0 (by lia) (by rw [hj];simpa using ew) fin hs
 ·have hj:(i+(its.toArray.size:Int)).toNat=j:=by
   rw [seqIndex_neg (by lia) h4] at h1;rw [ae7,← hl];exact afP h1
  exact subscriptTail_builtinR (x:=w) pl.isList.typeIs ail.lookup
   (wpAny_getItem_list_neg (Q:=fun r s'=>r=w/\EP X pins σ Q r s') pl.isList (by lia) (by rw [ae7]<;>lia) (by lia) (by rw [hj];simpa using ew) ⟨rfl,fin⟩) hs
theorem bJ:IxR X (acF X.K):=by
 intro value slice pins s σ H x y v u Q I rx ry h hs;obtain⟨p,xs,i,z,rfl,rfl,hq,he,q⟩:=h;cases rx;obtain⟨t,rfl⟩:=ry;obtain⟨its,r,pl,hz⟩:=I.tuple hq;obtain⟨j,h1,h2,h3,h4,h5⟩:=tR he;obtain⟨w,ew,rw'⟩:=r.get h2;have hl:=r.length;have hn:=mJ;have fin:EP X pins σ Q w s:=⟨z,H,I,rw',q⟩;exact subscriptTail_builtinR (x:=w) pl.typeIs slot_tuple_getitem.lookup
  (getItem_tuple (j:=j) (Q:=fun r s'=>r=w/\EP X pins σ Q r s') pl (by lia) (by lia) (by rw [ae7,← hl];exact h1) (by simpa using ew) ⟨rfl,fin⟩) hs
theorem aa6:IxR X aeO:=by
 intro value slice pins s σ H x y v u Q I rx ry h hs;obtain⟨z,i,c,rfl,rfl,hz,he,q⟩:=h;obtain⟨t,rfl⟩:=rx;obtain⟨t',rfl⟩:=ry;obtain⟨j,h1,h2,h3,h4,h5⟩:=tR he;have hl:z.cps.toList.length=z.length:=by simp [Str.length]
 rw [hl] at h1 h4 h5;have hn:=mJ;exact tail_any (ahg s z t) slot_str_getitem.lookup (getItem_str (c:=c) (by
  have e1:decide (i < -(2 ^ 63:Int))=false:=afv (by lia);have e2:decide (i ≥ 2 ^ 63)=false:=afv (by lia);rw [e1,e2,Bool.or_false]) (by rw [h1];simpa using h2) ⟨.str ⟨#[c]⟩,H,I.tok _,⟨_,rfl⟩,q⟩) hs
theorem vI (its:List Value)(n j:Nat)(u:Value):Obj.mapSeq (·.setIfInBounds j u) { cls:=.type "list",data:=.seq its.toArray n }={ cls:=.type "list",data:=.seq (its.set j u).toArray n }:=by
 simp [Obj.mapSeq]
theorem Inv.lst {pins:List (Addr×Obj)}{σ:St}{H:Hp}{s:Shared}{p:Addr}{xs:List V}(I:Inv X pins σ H s)(h:H p=some (.lst xs)) :
 ∃ (its:List Value) (n:Nat),Vals xs its/\s.heap.get? p=some { cls:=.type "list",data:=.seq its.toArray n }/\xs.length<=sizeLine:=by
 obtain⟨z,its,n,r,e⟩:=I.hok p _ h;exact⟨its,n,r,e,z⟩
theorem Inv.lstUpd {pins:List (Addr×Obj)}{σ:St}{H:Hp}{s:Shared}{p:Addr}{xs ys:List V}{its its':List Value}{n n':Nat}{f:Obj->Obj}(I:Inv X pins σ H s)(h:H p=some (.lst xs))
 (ho:s.heap.get? p=some { cls:=.type "list",data:=.seq its.toArray n })(hf:f { cls:=.type "list",data:=.seq its.toArray n }={ cls:=.type "list",data:=.seq its'.toArray n' })(r:Vals ys its')(hz:ys.length<=sizeLine)(t:Nat) :
 Inv X pins σ (upd H p (.lst ys)) { s with heap:=s.heap.update p f,toks:=t }:=by
 have e:(s.heap.update p f).get? p=some { cls:=.type "list",data:=.seq its'.toArray n' }:=by
  rw [ag2 f ho (by rw [hf]<;>rfl),hf]
 refine I.write (x:=p) (e:=p) (by rw [h];trivial) (.inl rfl) (fun b u hb q=>(Heap.get?_update_other _ _ (ag1 hb)).trans q) ⟨_,e⟩ ?_;exact⟨hz,its',n',r,e⟩
def abm:V->V->V->Hp->(Hp->Prop)->Prop:=fun o i v H Q=>∃ p xs k j,o=.ref p/\i=.int k/\H p=some (.lst xs)/\ixN xs.length k=some j/\Q (upd H p (.lst (xs.set j v)))
theorem qv:aeq X abm:=by
 intro pins s σ H o i v ov iv u Q I ro ri rv h;obtain⟨p,xs,k,j,rfl,rfl,hp,hj,q⟩:=h;cases ro;obtain⟨t,rfl⟩:=ri;obtain⟨its,n,r,ho,hz⟩:=I.lst hp;obtain⟨h1,h2,h3,h4⟩:=xZ hj;have hl:=r.length;have hn:=mJ;have I':Inv X pins σ (upd H p (.lst (xs.set j v))) { s with heap:=s.heap.update p (Obj.mapSeq (·.setIfInBounds j u)) } :=
  I.lstUpd hp ho (vI its n j u) (r.set rv j) (by rw [aiN];exact hz) s.toks
 by_cases h0:0<=k
 ·have hk:k.toNat=j:=by
   rw [seqIndex_of h0 h4] at h1;exact afP h1
  exact PySem.W.ki_setAt ho h0 (by lia) (by rw [ae7,← hl];exact h4) (by rw [hk];exact⟨_,I',q⟩)
 ·have hk:(k+(its.toArray.size:Int)).toNat=j:=by
   rw [seqIndex_neg (by lia) h3] at h1;rw [ae7,← hl];exact afP h1
  exact PySem.W.ki_setBack ho (by lia) (by rw [ae7,← hl];exact h3) (by lia) (by rw [hk];exact⟨_,I',q⟩)
theorem sS (lo hi:Option Int)(n:Nat):(sliceBounds lo hi none n).1=((HT.sIx n 0 lo:Nat):Int)/\(sliceBounds lo hi none n).2.1=((HT.sIx n n hi:Nat):Int)/\(sliceBounds lo hi none n).2.2=1:=by
 refine⟨?_,?_,rfl⟩
 ·cases lo with
  | none=>simp [sliceBounds,HT.sIx]
  | some i =>
   simp only [sliceBounds,HT.sIx,Option.getD_none,show (1:Int) > 0 by decide,aiO];by_cases h:i < 0
   ·simp only [h,aiO]<;>lia
   ·simp only [h,ahU]<;>lia
 ·cases hi with
  | none=>simp [sliceBounds,HT.sIx]
  | some i =>
   simp only [sliceBounds,HT.sIx,Option.getD_none,show (1:Int) > 0 by decide,aiO];by_cases h:i < 0
   ·simp only [h,aiO]<;>lia
   ·simp only [h,ahU]<;>lia
theorem qD (its:List Value)(lo hi:Option Int):slicePick its.toArray lo hi none=((its.drop (HT.sIx its.length 0 lo)).take (HT.sIx its.length its.length hi - HT.sIx its.length 0 lo)).toArray:=by
 obtain⟨h1,h2,h3⟩:=sS lo hi its.toArray.size;unfold slicePick;rw [h1,h2,h3];simp only [sliceRange_one,pick_run,ae7]<;>rfl
def adJ (K:PySem.W.Frag):V->Option Int->Option Int->Hp->VK->Prop:=fun x lo hi H Q=>∃ a xs,x=.ref a/\SqL K H a xs/\∀ p,H p=none->Q (.ref p) (upd H p (.lst (uV xs lo hi)))
theorem iy:SlR X (adJ X.K):=by
 intro pins s σ H x v vl vu lo hi sl Q I rx hs pl pu h;obtain⟨a,xs,rfl,hx,q⟩:=h;cases rx;obtain⟨its,r,ht,hz⟩:=I.list hx;have hlen:=r.length;refine⟨"list",_,ail.lookup,ht.isList.typeIs,?_⟩;refine wpAny_getItem_list_slice ht.isList hs pl pu .none (by simp) ?_ (by rw [ae7]<;>lia);rw [qD,← hlen];refine⟨.ref s.heap.objs.size,_,I.laid (t':=s.toks) (o:=.lst (uV xs lo hi)) (fun b ob q=>ae0 _ q) (ae4 _) ?_,rfl,q _ (I.hok.fresh (ae4 _))⟩;exact⟨afC (tQ xs lo hi) hz,_,0,(r.drop (HT.sIx xs.length 0 lo)).take (HT.sIx xs.length xs.length hi - HT.sIx xs.length 0 lo),afo _ rfl⟩
def i7:V->Bool
 | .non=>true
 | .bl _=>true
 | .int _=>true
 | .str _=>true
 | _=>false
def eqV:V->V->Bool
 | .non,.non=>true
 | .bl a,.bl b=>a == b
 | .bl a,.int b=>(if a then 1 else 0) == b
 | .int a,.bl b=>a == (if b then 1 else 0)
 | .int a,.int b=>a == b
 | .str a,.str b=>a == b
 | _,_=>false
theorem acP {A:Around}{s:Shared}{y x:V}{u v:Value}(ry:RelV y u)(rx:RelV x v)(fy:i7 y=true)(fx:i7 x=true):SeqAt.EqAt A s u v (eqV y x):=by
 cases y with
 | non =>
  cases ry;cases x with
  | non=>cases rx;exact SeqAt.EqAt.same _
  | bl b=>cases rx;exact SeqAt.EqAt.none_bool b
  | int b=>obtain⟨t,rfl⟩:=rx;exact SeqAt.EqAt.none_int b t
  | str b=>obtain⟨t,rfl⟩:=rx;exact SeqAt.EqAt.none_str b t
  | _=>exact absurd (show false=true from fx) ae2
 | bl a =>
  cases ry;cases x with
  | non=>cases rx;exact SeqAt.EqAt.bool_none a
  | bl b=>cases rx;exact SeqAt.EqAt.bool_bool a b
  | int b=>obtain⟨t,rfl⟩:=rx;exact SeqAt.EqAt.bool_int a b t
  | str b=>obtain⟨t,rfl⟩:=rx;exact SeqAt.EqAt.bool_str a b t
  | _=>exact absurd (show false=true from fx) ae2
 | int a =>
  obtain⟨t',rfl⟩:=ry;cases x with
  | non=>cases rx;exact SeqAt.EqAt.int_none a t'
  | bl b=>cases rx;exact SeqAt.EqAt.int_bool a t' b
  | int b=>obtain⟨t,rfl⟩:=rx;exact SeqAt.EqAt.int_int a t' b t
  | str b=>obtain⟨t,rfl⟩:=rx;exact SeqAt.EqAt.int_str a t' b t
  | _=>exact absurd (show false=true from fx) ae2
 | str a =>
  obtain⟨t',rfl⟩:=ry;cases x with
  | non=>cases rx;exact SeqAt.EqAt.str_none a t'
  | bl b=>cases rx;exact SeqAt.EqAt.str_bool a t' b
  | int b=>obtain⟨t,rfl⟩:=rx;exact SeqAt.EqAt.str_int a t' b t
  | str b=>obtain⟨t,rfl⟩:=rx;exact SeqAt.EqAt.str_str a t' b t
  | _=>exact absurd (show false=true from fx) ae2
 | _=>exact absurd (show false=true from fy) ae2
def eqU (x:V)(u:Value):Bool:=match u with
 | .none=>eqV .non x
 | .bool b=>eqV (.bl b) x
 | .int i _=>eqV (.int i) x
 | .str z _=>eqV (.str z) x
 | _=>false
theorem uF {x y:V}{u:Value}(r:RelV y u)(f:i7 y=true):eqU x u=eqV y x:=by
 cases y with
 | non=>cases r;rfl
 | bl b=>cases r;rfl
 | int i=>obtain⟨t,rfl⟩:=r;rfl
 | str z=>obtain⟨t,rfl⟩:=r;rfl
 | _=>exact absurd (show false=true from f) ae2
theorem oj {x:V}:∀ {xs:List V} {us:List Value},Vals xs us->xs.all i7=true->us.any (eqU x)=xs.any fun y=>eqV y x
 | _,_,.nil,_=>rfl
 | y::xs,u::us,.cons r t,f=>by
  rw [ag5,afx] at f;rw [aix,aix,uF r f.1,oj t f.2]
theorem hV {A:Around}{s:Shared}{x:V}{v:Value}(rx:RelV x v)(fx:i7 x=true):∀ {xs:List V} {us:List Value},Vals xs us->xs.all i7=true->∀ u∈us,SeqAt.EqAt A s u v (eqU x u)
 | _,_,.nil,_=>fun u hu=>by cases hu
 | y::xs,u::us,.cons r t,f=>fun u' hu=>by
  rw [ag5,afx] at f;rcases aeY.mp hu with rfl | hu
  ·rw [uF r f.1];exact acP r rx f.1 fx
  ·exact hV rx fx t f.2 u' hu
def inV (x:V)(xs:List V):Bool:=xs.any fun y=>eqV y x
def rIn (K:PySem.W.Frag)(neg:Bool):R2:=fun x y H Q=>∃ p xs,y=.ref p/\(SqL K H p xs\/SqT K H p xs)/\i7 x=true/\xs.all i7=true/\Q (.bl (if neg then !inV x xs else inV x xs)) H
theorem oM:OpR X (compareOp .In) (rIn X.K false):=by
 intro pins s σ H x y v u Q I rx ry h;obtain⟨p,xs,rfl,hq,fx,fs,q⟩:=h;cases ry;rcases hq with hq | hq
 ·obtain⟨its,r,pl,hz⟩:=I.list hq;refine SeqAt.in_listAt (eqU x) pl.isList (fun w hw=>hV rx fx r fs w (by simpa using hw)) ⟨.bl _,H,I,rfl,?_⟩;rw [show its.toArray.any (eqU x)=its.any (eqU x) by simp,oj r fs];exact q
 ·obtain⟨its,r,pl,hz⟩:=I.tuple hq;refine SeqAt.in_tupleAt (eqU x) pl (fun w hw=>hV rx fx r fs w (by simpa using hw)) ⟨.bl _,H,I,rfl,?_⟩;rw [show its.toArray.any (eqU x)=its.any (eqU x) by simp,oj r fs];exact q
theorem lQ:OpR X (compareOp .NotIn) (rIn X.K true):=by
 intro pins s σ H x y v u Q I rx ry h;obtain⟨p,xs,rfl,hq,fx,fs,q⟩:=h;cases ry;rcases hq with hq | hq
 ·obtain⟨its,r,pl,hz⟩:=I.list hq;refine SeqAt.notIn_listAt (eqU x) pl.isList (fun w hw=>hV rx fx r fs w (by simpa using hw)) ⟨.bl _,H,I,rfl,?_⟩;rw [show its.toArray.any (eqU x)=its.any (eqU x) by simp,oj r fs];exact q
 ·obtain⟨its,r,pl,hz⟩:=I.tuple hq;refine SeqAt.notIn_tupleAt (eqU x) pl (fun w hw=>hV rx fx r fs w (by simpa using hw)) ⟨.bl _,H,I,rfl,?_⟩;rw [show its.toArray.any (eqU x)=its.any (eqU x) by simp,oj r fs];exact q
theorem aH:iw X (.builtin "len") (fun xs H Q=>∃ p ys,xs=[.ref p]/\(SqL X.K H p ys\/SqT X.K H p ys)/\Q (.int ys.length) H):=by
 intro pins s σ H xs us Q I r h;obtain⟨p,ys,rfl,hq,q⟩:=h;obtain⟨u,rfl,rx⟩:=kZ r;cases rx;have hn:=mJ;rcases hq with hq | hq
 ·obtain⟨its,r',pl,hz⟩:=I.list hq;have hlen:=r'.length;exact Calls.call_len_list pl.isList (by simp only [ae7]<;>lia) ⟨.int ys.length,H,I.tok _,⟨s.toks+1,by rw [ae7,hlen]⟩,q⟩
 ·obtain⟨its,r',pl,hz⟩:=I.tuple hq;have hlen:=r'.length;exact len_tuple pl (by simp only [ae7]<;>lia) ⟨.int ys.length,H,I.tok _,⟨s.toks+1,by rw [ae7,hlen]⟩,q⟩
theorem lO:iw X (.builtin "len") (fun xs H Q=>∃ z,xs=[.str z]/\z.length<=sizeLine/\Q (.int z.length) H):=by
 intro pins s σ H xs us Q I r h;obtain⟨z,rfl,hz,q⟩:=h;obtain⟨u,rfl,t,rfl⟩:=kZ r;have hn:=mJ;exact len_str (by lia) ⟨.int z.length,H,I.tok _,⟨_,rfl⟩,q⟩
theorem de:iw X (.type "list") (fun xs H Q=>∃ p ys,xs=[.ref p]/\(SqL X.K H p ys\/SqT X.K H p ys)/\∀ l,H l=none->Q (.ref l) (upd H l (.lst ys))):=by
 intro pins s σ H xs us Q I r h;obtain⟨p,ys,rfl,hq,q⟩:=h;obtain⟨u,rfl,rx⟩:=kZ r;cases rx;have fin:∀ (its:List Value),Vals ys its->ys.length<=sizeLine->∀ (h':Heap) (c':Nat),(∀ b o',s.heap.get? b=some o'->h'.get? b=some o') →
  h'.get? s.heap.objs.size=some { cls:=.type "list",dict:=none,data:=.seq its.toArray c',slots:=#[] }->EP X pins σ Q (.ref s.heap.objs.size) { s with heap:=h' }:=fun its r' hz h' c' kp e =>
  ⟨.ref s.heap.objs.size,_,I.laid (t':=s.toks) kp (ae4 _) (show ObjOk X.prog X.w _ h' _ (.lst ys) from ⟨hz,its,c',r',e⟩),rfl,q _ (I.hok.fresh (ae4 _))⟩
 rcases hq with hq | hq
 ·obtain⟨its,r',pl,hz⟩:=I.list hq;have hlen:=r'.length;obtain⟨o,ho,hc,n,hd⟩:=pl.isList;exact call_list_seq p (.inl rfl) ho hc hd (fun h' c' kp e=>fin its r' hz h' c' kp e) (by simp only [ae7]<;>lia)
 ·obtain⟨its,r',pl,hz⟩:=I.tuple hq;have hlen:=r'.length;obtain⟨o,ho,hc,n,hd⟩:=pl;exact call_list_seq p (.inr rfl) ho hc hd (fun h' c' kp e=>fin its r' hz h' c' kp e) (by simp only [ae7]<;>lia)
def tyV (K:PySem.W.Frag)(T:String)(x:V)(H:Hp):Prop:=match x with
 | .str _=>T = "str"
 | .int _=>T = "int"
 | .ref p=>(T = "list" ∧ ∃ xs,SqL K H p xs)\/(T = "tuple" ∧ ∃ o,K.lookup p=some o/\o.cls=.type "tuple" ∧ o.dict=none) ∨
  (T = "dict" ∧ ((∃ kvs,H p=some (.dK kvs))\/∃ kvs,H p=some (.dT kvs)))\/(T = "set" ∧ ∃ S n,H p=some (.set S n))
 | _=>False
theorem aa3 {pins:List (Addr×Obj)}{σ:St}{H:Hp}{s:Shared}{T:String}{x:V}{v:Value}(I:Inv X pins σ H s)(r:RelV x v)(ty:tyV X.K T x H) :
 s.TypeIs v T/\∀ a,v=.ref a->∃ ob,s.heap.get? a=some ob/\ob.dict=none:=by
 cases x with
 | str z =>
  obtain⟨t,rfl⟩:=r;cases (show T = "str" from ty);exact⟨ahg s z t,fun _ e=>nomatch e⟩
 | int i =>
  obtain⟨t,rfl⟩:=r;cases (show T = "int" from ty);exact⟨typeIs_int s i t,fun _ e=>nomatch e⟩
 | ref p =>
  cases r;rcases ty with ⟨rfl,xs,hq⟩ | ⟨rfl,o,hk,hc,hd⟩ | ⟨rfl,hk⟩ | ⟨rfl,S,n,hk⟩
  ·obtain⟨its,_,pl,_⟩:=I.list hq;refine⟨pl.isList.typeIs,fun a e=>?_⟩;cases e;obtain⟨o,n,e,c,hd,_⟩:=pl;exact⟨o,e,hd⟩
  ·refine⟨⟨o,I.kIn p o hk,hc⟩,fun a e=>?_⟩;cases e;exact⟨o,I.kIn _ o hk,hd⟩
  ·have z:∃ o,s.heap.get? p=some o/\o.ExactDict:=by
    rcases hk with ⟨kvs,hk⟩ | ⟨kvs,hk⟩
    ·obtain⟨_,_,_,_,o,_,_,e,ex,_⟩:=I.hok p _ hk;exact⟨o,e,ex⟩
    ·obtain⟨_,_,_,_,o,_,_,e,ex,_⟩:=I.hok p _ hk;exact⟨o,e,ex⟩
   obtain⟨o,e,ex⟩:=z;refine⟨⟨o,e,ex.1⟩,fun a e2=>?_⟩;cases e2;exact⟨o,e,ex.2.1⟩
  ·obtain⟨o,_,_,_,e,ex,_⟩:=I.hok p _ hk;refine⟨⟨o,e,ex.1⟩,fun a e2=>?_⟩;cases e2;exact⟨o,e,ex.2.1⟩
 | _=>exact False.elim ty
def aeE (K:PySem.W.Frag)(T:String)(r:V->List V->Hp->VK->Prop)(to:TE):TE:=fun σ H Q=>to σ H fun x H1=>tyV K T x H1/\r x [] H1 Q
def tBM (K:PySem.W.Frag)(T:String)(r:V->List V->Hp->VK->Prop)(to:TE)(t:TA):TE:=fun σ H Q=>to σ H fun x H1=>tyV K T x H1/\t σ H1 fun xs H2=>r x xs H2 Q
variable {o e:Expr}{es:List Expr}{to:TE}{t:TA}{name:Str}{apos cpos:Pos}{T id:String}{r:V->List V->Hp->VK->Prop}
theorem adD (pa:PlainAttrs T)(slot:Slot T name id)(hty:typeOf (.builtin id)=pure (.type "method_descriptor"))(hm:MtR X id r)(ho:PE X o to)
 (hbase:attributeBase o name X.env (eval o X.env)=eval o X.env:=by rfl)(hline:(apos.endLine == cpos.line)=true:=by rfl):PE X (.Call (.Attribute o name apos) [] [] cpos) (aeE X.K T r to):=by
 intro pins s σ H Q I h;refine wpAny_Call_method0_late hbase hline (thn (ho pins s σ H _ I h) fun v s1 ⟨x,H1,I1,r1,ty,q1⟩=>?_);obtain⟨h1,h2⟩:=aa3 I1 r1 ty;exact⟨T,id,pa,slot,hty,h1,h2,ahv rfl (PySem.evalArgs_none (hm pins s1 σ H1 x [] v [] Q I1 r1 .nil q1))⟩
theorem dz (pa:PlainAttrs T)(slot:Slot T name id)(hty:typeOf (.builtin id)=pure (.type "method_descriptor"))(hm:MtR X id r)(ho:PE X o to)(ha:PA X (e::es) t)
 (hbase:attributeBase o name X.env (eval o X.env)=eval o X.env:=by rfl)
 (hfew:((backTo cpos (starEach (e::es) X.env)).all (fun x=>!x.1) && (backToKw cpos (keywordEach [] X.env)).all (fun x=>x.1.isSome)
  && decide ((e::es).length+([]:List Keyword).length+(if ([]:List Keyword).isEmpty then 0 else 1) < 30))=true:=by rfl)
 (hline:(apos.endLine == cpos.line)=true:=by rfl)(hs:starEach (e::es) X.env=(false,eval e X.env)::starEach es X.env:=by rfl)(hplain:(backTo cpos (starEach es X.env)).any (·.1)=false:=by rfl) :
 PE X (.Call (.Attribute o name apos) (e::es) [] cpos) (tBM X.K T r to t):=by
 intro pins s σ H Q I h;refine wpAny_Call_method_late hbase hfew hline rfl (thn (ho pins s σ H _ I h) fun v s1 ⟨x,H1,I1,r1,ty,q1⟩=>?_);obtain⟨h1,h2⟩:=aa3 I1 r1 ty;refine⟨T,id,pa,slot,hty,h1,h2,?_⟩;have hA:=ha cpos pins s1 σ H1 _ I1 q1;rw [hs] at hA ⊢;refine ahv (by show (false || (backTo cpos (starEach es X.env)).any (·.1))=false;rw [hplain]<;>rfl) (ahS ?_);exact thn hA fun us s2 ⟨vs,H2,I2,r2,q2⟩=>hm pins s2 σ H2 x vs v us Q I2 r1 r2 q2
end
def MtM (X:Cx)(id:String)(r:V->List V->Hp->VK->Prop):Prop :=
 ∀ (pins:List (Addr×Obj)) (s:Shared) (σ:St) (H:Hp) (x:V) (xs:List V) (v:Value) (us:List Value) (Q:VK),Inv X pins σ H s->RelV x v->Vals xs us->r x xs H Q →
  wpAny (model X.prog X.w) X.A (call (.builtin id) (v::us)) (EP X pins σ Q) X.xe s
theorem Vals.one:∀ {x:V} {us:List Value},Vals [x] us->∃ u,us=[u]/\RelV x u
 | _,_,.cons r .nil=>⟨_,rfl,r⟩
theorem Vals.zero:∀ {us:List Value},Vals [] us->us=[]
 | _,.nil=>rfl
theorem Vals.dropLast {xs:List V}{us:List Value}(h:Vals xs us):Vals xs.dropLast us.dropLast:=by
 induction h with
 | nil=>exact .nil
 | cons r t ih =>
  cases t with
  | nil=>exact .nil
  | cons q t'=>exact .cons r ih
theorem Vals.eraseIdx:∀ {xs:List V} {us:List Value} (i:Nat),Vals xs us->Vals (xs.eraseIdx i) (us.eraseIdx i)
 | _,_,_,.nil=>.nil
 | _,_,0,.cons _ t=>t
 | _,_,i+1,.cons r t=>.cons r (Vals.eraseIdx i t)
theorem Vals.rep {xs:List V}{us:List Value}(h:Vals xs us):∀ k:Nat,Vals (List.replicate k xs).flatten (List.replicate k us).flatten
 | 0=>.nil
 | k+1=>by
  rw [agM,agM,agj,agj];exact Vals.append h (Vals.rep h k)
theorem wa {α:Type}(l:List α):l.eraseIdx (l.length - 1)=l.dropLast:=by
 induction l with
 | nil=>rfl
 | cons a r ih =>
  cases r with
  | nil=>rfl
  | cons b r =>
   have e:(a::b::r).length - 1=((b::r).length - 1)+1:=by
    have h1:(a::b::r).length=r.length+2:=rfl;have h2:(b::r).length=r.length+1:=rfl;lia
   rw [e,agN,ih]
   all_goals rfl
theorem oF {α:Type}:∀ (l:List α) (i:Nat),(l.eraseIdx i).length<=l.length
 | [],_=>ae4 _
 | _::_,0=>agK _
 | _::r,i+1=>Nat.succ_le_succ (oF r i)
theorem qZ (its:List Value):∀ (k:Nat) (acc:List Value),
 List.foldl (fun x1 x2=>x1++x2) acc.toArray (List.replicate k its.toArray)=(acc++(List.replicate k its).flatten).toArray
 | 0,acc=>by simp
 | k+1,acc=>by
  have e:acc.toArray++its.toArray=(acc++its).toArray:=by simp
  have e2:(acc++its)++(List.replicate k its).flatten=acc++(List.replicate (k+1) its).flatten:=by
   rw [agM,agj,ae5]
  rw [← e2,← qZ its k (acc++its),← e,agM,ahn]
section
variable {X:Cx}{pins:List (Addr×Obj)}{σ:St}{H:Hp}{s:Shared}{l b:Addr}{xs ys zs:List V}
theorem Inv.lset {its its':List Value}{n:Nat}{f:Array Value->Array Value}{t':Nat}(I:Inv X pins σ H s)(hH:H l=some (.lst xs))
 (e:s.heap.get? l=some { cls:=.type "list",data:=.seq its.toArray n })(hf:f its.toArray=its'.toArray)(hv:Vals ys its')(hz:ys.length<=sizeLine) :
 Inv X pins σ (upd H l (.lst ys)) { s with heap:=s.heap.update l (Obj.mapSeq f),toks:=t' }:=by
 have q:=PySem.IsL.update e f;rw [hf] at q;refine I.write (x:=l) (e:=l) (by rw [hH];exact trivial) (.inl rfl) (fun b' u hb hu=>(Heap.get?_update_other s.heap (Obj.mapSeq f) (ag1 hb)).trans hu) ⟨_,q⟩ ?_;exact⟨hz,its',_,hv,q⟩
theorem Inv.lnew {its:List Value}{t':Nat}(I:Inv X pins σ H s)(hv:Vals ys its)(hz:ys.length<=sizeLine) :
 Inv X pins σ (upd H s.heap.objs.size (.lst ys)) { s with heap:=s.heap.push { cls:=.type "list",data:=.seq its.toArray },toks:=t' } :=
 I.laid (fun _ _ q=>ae0 _ q) (ae4 _) ⟨hz,its,0,hv,afo _ rfl⟩
theorem Inv.fresh (I:Inv X pins σ H s):H s.heap.objs.size=none:=I.hok.fresh (ae4 _)
theorem Inv.lstM (I:Inv X pins σ H s)(hH:H l=some (.lst xs)):xs.length<=sizeLine/\∃ (its:List Value) (n:Nat),Vals xs its/\xs.length=its.length/\s.heap.get? l=some { cls:=.type "list",data:=.seq its.toArray n }:=by
 obtain⟨z,its,n,r,e⟩:=I.hok l _ hH;exact⟨z,its,n,r,r.length,e⟩
theorem uE {n:Nat}(h:n<=sizeLine):Builtin.List.listTooLong n=false:=by
 unfold Builtin.List.listTooLong;exact afv (by lia)
end
section
variable {X:Cx}
def sZ:V->List V->Hp->VK->Prop:=fun x vs H Q=>∃ l xs y,x=.ref l/\vs=[y]/\H l=some (.lst xs)/\xs.length < sizeLine/\Q .non (upd H l (.lst (xs++[y])))
theorem dw:MtM X "list.append" sZ:=by
 intro pins s σ H x vs v us Q I rx rv h;obtain⟨l,xs,y,rfl,rfl,hH,hz,q⟩:=h;cases rx;obtain⟨u,rfl,ru⟩:=rv.one;obtain⟨z,its,n,r,hl,e⟩:=I.lstM hH;refine agt F.slot_list_append ⟨_,e,rfl⟩ F.entry_list_append (F.args_list_append_2 _ _) (PySem.list_append l its.toArray n u (by rw [ae7];lia)) ⟨e,?_⟩;refine⟨.non,_,I.lset (its':=its++[u]) hH e (by simp) (r.append (.cons ru .nil)) ?_,rfl,q⟩;rw [aeV,ahI];lia
def acj:V->List V->Hp->VK->Prop:=fun x vs H Q=>∃ l b xs zs,x=.ref l/\vs=[.ref b]/\H l=some (.lst xs)/\H b=some (.lst zs)/\xs.length+zs.length<=sizeLine/\Q .non (upd H l (.lst (xs++zs)))
theorem ac0:MtM X "list.extend" acj:=by
 intro pins s σ H x vs v us Q I rx rv h;obtain⟨l,b,xs,zs,rfl,rfl,hH,hB,hz,q⟩:=h;cases rx;obtain⟨u,rfl,ru⟩:=rv.one;cases ru;obtain⟨z,its,n,r,hl,e⟩:=I.lstM hH;obtain⟨z2,its2,n2,r2,hl2,e2⟩:=I.lstM hB;have hsz:its.toArray.size+its2.toArray.size<=sizeLine:=by rw [ae7,ae7];lia
 have hlong:¬ (!its.toArray.isEmpty && Builtin.List.listTooLong (its.toArray.size+its2.toArray.size))=true:=by
  rw [uE hsz,Bool.and_false];exact ae2
 refine agt F.slot_list_extend ⟨_,e,rfl⟩ F.entry_list_extend (F.args_list_extend_2 _ _)
  (AutoSeq1.list_extend_list_list_0 l its.toArray n b its2.toArray n2 hlong (by rw [ae7];lia) (by lia)) ⟨e,e2,?_⟩
 refine⟨.non,_,I.lset (its':=its++its2) hH e (by simp) (r.append r2) ?_,rfl,q⟩;rw [aeV];lia
def aeC:V->List V->Hp->VK->Prop:=fun x vs H Q=>∃ l xs y,x=.ref l/\vs=[]/\H l=some (.lst xs)/\xs[xs.length - 1]? = some y/\Q y (upd H l (.lst xs.dropLast))
theorem adi:MtM X "list.pop" aeC:=by
 intro pins s σ H x vs v us Q I rx rv h;obtain⟨l,xs,y,rfl,rfl,hH,hy,q⟩:=h;cases rx;have hus:=rv.zero;subst hus;obtain⟨z,its,n,r,hl,e⟩:=I.lstM hH;obtain⟨u,hu,ru⟩:=r.get hy;have hy':its.toArray[its.toArray.size - 1]? = some u:=by
  show its.toArray[its.length - 1]? = some u;rw [← afM,← hl];exact hu
 refine agt F.slot_list_pop ⟨_,e,rfl⟩ F.entry_list_pop (F.args_list_pop_1 _) (MeetsSeq.list_pop_last l its.toArray n u hy' (by rw [ae7];lia)) ⟨e,?_⟩;refine⟨y,_,I.lset (its':=its.dropLast) hH e ?_ r.dropLast ?_,ru,q⟩
 ·show its.toArray.eraseIdxIfInBounds (its.toArray.size - 1)=its.dropLast.toArray;rw [ae7,agF,wa]
 ·rw [List.length_dropLast];lia
def xq:V->List V->Hp->VK->Prop:=fun x vs H Q=>∃ l xs i k y,x=.ref l/\vs=[.int i]/\H l=some (.lst xs)/\-(2 ^ 63)<=i/\i < 2 ^ 63/\seqIndex? i xs.length=some k/\xs[k]? = some y/\Q y (upd H l (.lst (xs.eraseIdx k)))
theorem vE:MtM X "list.pop" xq:=by
 intro pins s σ H x vs v us Q I rx rv h;obtain⟨l,xs,i,k,y,rfl,rfl,hH,h1,h2,hk,hy,q⟩:=h;cases rx;obtain⟨u,rfl,ru⟩:=rv.one;obtain⟨t,rfl⟩:=ru;obtain⟨z,its,n,r,hl,e⟩:=I.lstM hH;obtain⟨w,hw,rw'⟩:=r.get hy;refine agt F.slot_list_pop ⟨_,e,rfl⟩ F.entry_list_pop (F.args_list_pop_2 _ _)
  (MeetsSeq.list_pop_at l its.toArray n i t k w (fitsIndex_both h1 h2) (by rw [ae7,← hl];exact hk) (by rw [← afM];exact hw) (by rw [ae7];lia)) ⟨e,?_⟩
 refine⟨y,_,I.lset (its':=its.eraseIdx k) hH e ?_ (r.eraseIdx k) ?_,rw',q⟩
 ·show its.toArray.eraseIdxIfInBounds k=(its.eraseIdx k).toArray;rw [agF]
 ·have:=oF xs k;lia
def acG:R2:=fun x y H Q=>∃ l b xs zs,x=.ref l/\y=.ref b/\H l=some (.lst xs)/\H b=some (.lst zs)/\xs.length+zs.length<=sizeLine/\∀ p,H p=none->Q (.ref p) (upd H p (.lst (xs++zs)))
theorem dE:OpR X (binaryOp .Add) acG:=by
 intro pins s σ H x y v u Q I rx ry h;obtain⟨l,b,xs,zs,rfl,rfl,hH,hB,hz,q⟩:=h;cases rx;cases ry;obtain⟨z,its,n,r,hl,e⟩:=I.lstM hH;obtain⟨z2,its2,n2,r2,hl2,e2⟩:=I.lstM hB;refine PySem.P.add_list e e2 ?_ (by rw [ae7,ae7];lia);have ea:its.toArray++its2.toArray=(its++its2).toArray:=by simp
 rw [ea];exact⟨.ref _,_,I.lnew (t':=s.toks) (r.append r2) (by rw [aeV];lia),rfl,q _ I.fresh⟩
def adP:R2:=fun x y H Q=>∃ l k xs,x=.ref l/\y=.int k/\H l=some (.lst xs)/\-(2 ^ 63)<=k/\k < 2 ^ 63/\xs.length * k.toNat<=sizeLine ∧
 ∀ p,H p=none->Q (.ref p) (upd H p (.lst (List.replicate k.toNat xs).flatten))
theorem abB {α:Type}(xs:List α)(k:Nat):(List.replicate k xs).flatten.length=k * xs.length:=by
 induction k with
 | zero=>simp
 | succ k ih=>rw [agM,agj,aeV,ih,Nat.succ_mul,Nat.add_comm]
theorem qW:OpR X (binaryOp .Mult) adP:=by
 intro pins s σ H x y v u Q I rx ry h;obtain⟨l,k,xs,rfl,rfl,hH,h1,h2,hz,q⟩:=h;cases rx;obtain⟨t,rfl⟩:=ry;obtain⟨z,its,n,r,hl,e⟩:=I.lstM hH;have hlen:its.toArray.size * k.toNat<=sizeLine:=by rw [ae7,← hl];exact hz
 have hcap:¬ its.toArray.size * k.toNat > (2 ^ 63 - 1) / 8:=by
  have:(sizeLine:Nat)<=(2 ^ 63 - 1) / 8:=by decide
  lia
 have hfit:¬ (!Builtin.List.listFitsIndex k)=true:=by
  rw [fitsIndex_both h1 h2];exact ae2
 have hlong:¬ Builtin.List.listTooLong (its.toArray.size * k.toNat)=true:=by
  rw [uE hlen];exact ae2
 have hnew:List.foldl (fun x1 x2=>x1++x2) #[] (List.replicate (if its.toArray.isEmpty=true then 0 else k.toNat) its.toArray)=(List.replicate k.toNat its).flatten.toArray:=by
  have f0:∀ m:Nat,List.foldl (fun x1 x2=>x1++x2) #[] (List.replicate m its.toArray)=(List.replicate m its).flatten.toArray:=fun m=>by
   have:=qZ its m [];rw [agm] at this;exact this
  rw [f0];cases its with
  | nil=>simp
  | cons a r'=>rw [if_neg (by simp)]
 refine wpAny_binaryOp_repeat_ref (T := "list") (U := "int") (by decide) ⟨_,e,rfl⟩ (fun s'=>typeIs_int s' k t) noFill_list_mul F.fills_int_mul F.slot_int_rmul repeat_list F.slot_int_index.lookup
  (agt F.slot_int_rmul (typeIs_int s k t) F.entry_int_rmul (F.args_int_rmul_2 _ _) (int___rmul___int_list k t l its.toArray n)
   ⟨e,rfl,⟨_,e,rfl⟩,agt F.slot_list_mul ⟨_,e,rfl⟩ F.entry_list_mul (F.args_list_mul_2 _ _) (AutoListH.list___mul___list_int_3 l its.toArray n k t hfit hcap hlong) ⟨e,?_⟩⟩)
 rw [hnew];exact⟨.ref _,_,I.lnew (t':=s.toks) (r.rep k.toNat) (by rw [abB,Nat.mul_comm];exact hz),rfl,q _ I.fresh⟩
end
section
variable {prog:Program}{w:World}{A:Around}{E:Value->Shared->Prop}{s:Shared}
end
section
variable {X:Cx}
end
end L2
namespace Att
open PySem PySem.W PySem.Calls PyProof.Rows
theorem mX {P:Params}{h:Heap}:∀ (ns:List Int) (vs:List Value),WellAll P h vs (ns.map WData.int)->IntsAre vs ns:=by
 intro ns
 induction ns with
 | nil =>
  intro vs w;rw [List.map_nil] at w;cases w;exact .nil
 | cons n ns ih =>
  intro vs w;rw [afl] at w;cases w with
  | cons a b =>
   cases a;exact .cons _ _ (ih _ b)
theorem yS {l:OpenLaw}{n:Nat}(hn:l.most=some n){P:Params}{h:Heap}{args:List WData}{vals:List Value}
 (hpre:l.row.toRowW.claim.pre args=true)(hwl:WellAll P h vals args) :
 ∃ a vs ns,vals=[Value.ref a]/\args=[WData.list (ns.map WData.int)]/\h.get? a=some { cls:=.type "list",data:=.seq vs.toArray }/\IntsAre vs ns/\ns.length<=n:=by
 have hsh:WShape.hasAll [] args [.list .int]=true:=(pre_splitW hpre).1;have hc:l.pre.holds [] { args:=args }=true:=(pre_splitW hpre).2;obtain⟨d,r,rfl,h1,h2⟩:=hasAllW_cons hsh;obtain rfl:=hasAllW_nil h2;obtain⟨xs,rfl,h3⟩:=hasW_list h1;obtain⟨ns,rfl⟩:=items_int h3;have hlen:ns.length<=n:=by
  unfold OpenLaw.pre at hc;have h4:(WTm.not (.lt (.lit (.int (n:Int))) (.len (.arg 0)))).holds [] { args:=[.list (ns.map .int)] }=true:=by
   have h4:=(holds_andW hc).1;rw [hn] at h4;exact h4
  have h5:=condW_of h4 (w_not (w_lt w_lit (w_len_list (w_arg rfl))));rw [aeT] at h5;refine Nat.le_of_not_lt fun q=>?_;have q':(n:Int) < ((ns.length:Nat):Int):=by lia
  first
   | (rw [afm q'] at h5;exact absurd h5 (by decide))
   | (simp at h5;lia)
 cases hwl with
 | cons w1 w2 =>
  cases w2;cases w1 with
  | list ho hall=>exact⟨_,_,ns,rfl,rfl,ho,mX ns _ hall,hlen⟩
theorem yQ (l:OpenLaw)(args:List WData):l.row.toRowW.claim.post args (.bool true) args=true :=
 postW_of (r:=l.row.toRowW) (X:=(true == true))
  (show WShape.has [] (.bool true) .bool=true by first | rfl | decide | simp [WShape.has,WShape.arms,WShape.armsAll])
  (show (WTm.eq .res (.lit (.bool true))).value [] { args:=args,res:=some (.bool true),after:=args }=some (.bool (true == true)) from w_eq_bool (w_res rfl) w_lit) rfl
theorem attach_call {l:OpenLaw}{n:Nat}{q:Program}{loose:List Str}{XP:(Str->Option Value)->Heap->Prop}{YP:World->Heap->Prop}{d:DefRec}
 (hn:l.most=some n)(hdf:d.params.defaults=[])
 (call:∀ (w:World) (s₀ s₁:Shared) (mg mb:Str->Option Value) (fa:Addr) (o:Obj) (pm cd doc:Value) (a:Addr) (vs:List Value) (ns:List Int),
  Ground q loose [] XP w s₀ mg mb s₁.heap->YP w s₁.heap →
  s₁.heap.get? fa=some o->o.data=.func (docDef d.name d.params d.body d.scope pm cd doc)->s₁.heap.CodeRec cd d.name->mg d.name=some (.ref fa) →
  s₁.heap.get? a=some { cls:=.type "list",data:=.seq vs.toArray }->IntsAre vs ns->ns.length<=n->s₁.gens=#[] →
  codeAny (model l.prog w) callerA (.call (.ref fa) ⟨[.ref a],[]⟩) (fun r s'=>r=.ok (.ret (.bool true))/\OldK s₁.heap s'.heap/\s'.os=s₁.os/\AllBare s'.gens) s₁) :
 WalkO q loose XP YP l.row.toRowW d [] (fun f vs=>PySem.call f vs):=by
 intro w s₀ s₁ mg mb G Y fa o pm cd doc dV kV ho hd hcd hD hmg hg args vals as hpre hlay hrd hwl hlo;obtain rfl:dV=.none:=Dflts.none hD hdf;obtain rfl:kV=.none:=Dflts.noKw hD;obtain⟨a,vs,ns,rfl,rfl,hobj,hints,hlen⟩:=yS hn hpre hwl;refine enter_call (ahf (call w s₀ s₁ mg mb fa o pm cd doc a vs ns G Y ho (fd_plain hd) hcd hmg hobj hints hlen hg) fun r s' hq=>?_);obtain⟨rfl,h2,h3,h4⟩:=hq;exact⟨.inl ⟨.bool true,.bool true,[],rfl,fun _=>rfl,.bool true,yQ l _,fun _=>⟨List.Pairwise.nil,fun _ hm=>(nomatch hm)⟩⟩,h2,h3,h4⟩
section
variable {prog:Program}{w:World}{A:Around}{E:Value->Shared->Prop}{s:Shared}{K:Frag}
end
end Att
namespace L2
open PySem PySem.Spec PyProof.Rows
theorem qJ:∀ {vs:List Value} {ns:List Int},IntsAre vs ns->Vals (ns.map V.int) vs
 | _,_,.nil=>.nil
 | _,_,.cons n t h=>.cons ⟨t,rfl⟩ (qJ h)
def adS (H:Hp):Prop:=∀ b,H b=none\/∃ o xs,H b=some (.frz o (.lst xs))
theorem zU {P:Program}{w:World}{K:PySem.W.Frag}{mg mb:Str->Option Value}{CX:CXT}{k:Nat}{fa a:Addr}{fd:FuncData}{x:Str}{sp:Sp}{s₁:Shared}{vs:List Value}{ns:List Int}
 (KX:K.In s₁.heap)(hns:s₁.heap.Ns mainGlobals mg)(hb:s₁.heap.Ns builtinsNs mb)(hbb:∀ x:Str,x ≠ "__name__" → mb x=bootBuiltins x)(hlim:s₁.heap.NoLimit)(hg:s₁.gens=#[])
 (ha:s₁.heap.get? a=some { cls:=.type "list",data:=.seq vs.toArray })(hi:IntsAre vs ns)(hl:ns.length<=sizeLine)(hr:Room k callerA)
 (F:∀ base:Heap,K.In base->base.Ns mainGlobals mg->FnOk P w K mg base CX k fa fd [x] sp)(hbind:∀ (s:Shared) (u:Value),BindsTo s fd ⟨[u],[]⟩ [(x,u)])
 (hsp:∀ H:Hp,adS H->SqL K H a (ns.map V.int)->sp [.ref a] H (fun v _=>v=.bl true) fun _ _ _=>False)
 (hCX:∀ H e s',CX [] H s₁ (fun _ _ _=>False) e s'->False) :
 codeAny (model P w) callerA (.call (.ref fa) ⟨[.ref a],[]⟩) (fun r s'=>r=.ok (.ret (.bool true))/\OldK s₁.heap s'.heap/\s'.os=s₁.os/\AllBare s'.gens) s₁:=by
 have rv:=qJ hi;have lenV:=hi.length;have core:∀ H:Hp,adS H->SqL K H a (ns.map V.int)->HOk P w H s₁.heap->(∀ b,H b≠none->b=a)->(H a≠none->K.lookup a=none) →
  codeAny (model P w) callerA (.call (.ref fa) ⟨[.ref a],[]⟩) (fun r s'=>r=.ok (.ret (.bool true))/\OldK s₁.heap s'.heap/\s'.os=s₁.os/\AllBare s'.gens) s₁:=by
  intro H hO hS hok hA hK;have base_of:∀ {b:Addr} {o:Obj},s₁.heap.get? b=some o->H b=none->(zZ s₁.heap H).get? b=some o:=fun e n=>zD e n;have noA:∀ {b:Addr} {o:Obj} {es:Array DictEntry} {ep:Nat},s₁.heap.get? b=some o->o.data=.dict es ep->H b=none:=fun {b o es ep} e d=>by
   cases q:H b with
   | none=>rfl
   | some u =>
    have e':b=a:=hA b (by rw [q];simp);subst e';rw [ha] at e;cases e;have d':Data.seq vs.toArray _=Data.dict es ep:=d;cases d'
  have nsK:∀ {b:Addr} {m:Str->Option Value},s₁.heap.Ns b m->(zZ s₁.heap H).Ns b m:=fun {b m} ⟨o,es,ep,e,d,r⟩=>⟨o,es,ep,base_of e (noA e d),d,r⟩;have hKb:K.In (zZ s₁.heap H):=fun b o e=>base_of (KX b o e) (by
   cases q:H b with
   | none=>rfl
   | some u =>
    have e':b=a:=hA b (by rw [q];simp);subst e';rw [hK (by rw [q];simp)] at e;cases e)
  have hM:Mod K mg (zZ s₁.heap H):=⟨hKb,nsK hns,⟨mb,nsK hb,hbb⟩,let ⟨mc,h1,h2⟩:=hlim;⟨mc,nsK h1,h2⟩⟩;have e0:Env0 P w K mg (zZ s₁.heap H) callerA [] s₁ H:=⟨rfl,hM,fun b o e=>abu e,aj4 (za _ _),trivial,fun b hb=>absurd (show b∈([]:List Addr) from hb) (by simp),hok,.of_eq hg⟩;refine ahf ((F _ hKb (nsK hns)).run callerA [] s₁ H ⟨[.ref a],[]⟩ [.ref a] [.ref a] _ _ hr e0 (hbind s₁ (.ref a)) (.cons rfl .nil) (hsp H hO hS)) fun r s' h=>?_;cases r with
  | error e=>exact (hCX H e s' h).elim
  | ok fl =>
   cases fl with
   | next=>exact False.elim h
   | brk=>exact False.elim h
   | cont=>exact False.elim h
   | ret u =>
    obtain⟨v,H',os,bare,un,hok',r',q⟩:=h;have q':v=.bl true:=q;subst q';obtain rfl:u=Value.bool true:=r';refine⟨rfl,OldK.of_keep fun b o e=>?_,os,bare⟩;cases q:H b with
    | none=>exact un.keep b o e q (by intro z;exact absurd (show b∈([]:List Addr) from z) (by simp)) (by simp)
    | some u =>
     rcases hO b with z | ⟨ob,xs,z⟩
     ·rw [q] at z;cases z
     ·have z2:=un.frzs b ob _ z;obtain⟨e1,_⟩:=hok b _ z;obtain⟨e2,_⟩:=hok' b _ z2;rw [e] at e1;cases e1;exact e2
 cases hk:K.lookup a with
 | some o =>
  have e:=KX a o hk;rw [ha] at e;cases e;refine core (fun _=>none) (fun _=>.inl rfl) (.inr ⟨_,vs.toArray,_,hk,rfl,rfl,rfl,by rw [ae7,lenV];exact hl,by simpa using rv⟩) (fun b u z=>by have z':(none:Option HO)=some u:=z;cases z') (fun b z=>absurd rfl z) fun z=>absurd rfl z
 | none =>
  refine core (fun b=>if b=a then some (.frz { cls:=.type "list",data:=.seq vs.toArray } (.lst (ns.map V.int))) else none) (fun b=>?_) (.inl (.inr ⟨{ cls:=.type "list",data:=.seq vs.toArray },if_pos rfl⟩)) (fun b u z=>?_) (fun b z=>?_) fun _=>hk
  ·by_cases hb:b=a
   ·exact .inr ⟨_,_,if_pos hb⟩
   ·exact .inl (if_neg hb)
  ·by_cases hb:b=a
   ·have z':=(if_pos hb).symm.trans z;cases z';subst hb;exact⟨ha,by rw [aeT];exact hl,vs,_,rv,ha⟩
   ·have z':=(if_neg hb).symm.trans z;cases z'
  ·by_cases hb:b=a
   ·exact hb
   ·exact absurd (if_neg hb) z
theorem walk_of {l:PySem.W.OpenLaw}{n k:Nat}{q:Program}{loose:List Str}{XP:(Str->Option Value)->Heap->Prop}{YP:World->Heap->Prop}{d:DefRec}{K:Params->PySem.W.Frag}{CX:World->CXT}{sp:World->Sp}{x:Str}
 (hn:l.most=some n)(hn2:n<=sizeLine)(hdf:d.params.defaults=[])(hr:Room k callerA)
 (hY:∀ (w:World) (h:Heap),YP w h->(K w.params).In h)
 (F:∀ (w:World) (mg:Str->Option Value) (fa:Addr) (h:Heap),(K w.params).In h->h.Ns mainGlobals mg->mg d.name=some (.ref fa) →
  ∃ fd:FuncData,(∀ (s:Shared) (u:Value),BindsTo s fd ⟨[u],[]⟩ [(x,u)]) ∧
   ∀ base:Heap,(K w.params).In base->base.Ns mainGlobals mg->FnOk l.prog w (K w.params) mg base (CX w) k fa fd [x] (sp w))
 (hsp:∀ (w:World) (H:Hp) (a:Addr) (ns:List Int),ns.length<=n->adS H->SqL (K w.params) H a (ns.map V.int)->sp w [.ref a] H (fun v _=>v=.bl true) fun _ _ _=>False)
 (hCX:∀ (w:World) (H:Hp) (s:Shared) (e:Value) (s':Shared),CX w [] H s (fun _ _ _=>False) e s'->False) :
 PySem.W.WalkO q loose XP YP l.row.toRowW d [] (fun f vs=>PySem.call f vs):=by
 refine Att.attach_call hn hdf fun w s₀ s₁ mg mb fa o pm cd doc a vs ns G Y ho hd hcd hmg hobj hints hlen hg=>?_;have KX:=hY w _ Y;obtain⟨fd,hb,hF⟩:=F w mg fa _ KX G.T.g hmg;exact zU KX G.T.g G.T.b G.T.builtins G.T.nolimit hg hobj hints (afC hlen hn2) hr hF hb (fun H hO hS=>hsp w H a ns hlen hO hS) fun H e s'=>hCX w H s₁ e s'
def eU (s:Stmt):Arguments:=match s with
 | .FunctionDef _ a _ _ _ _ _ _ _ _=>a
 | _=>{ posonlyargs:=[],args:=[],vararg:=none,kwonlyargs:=[],kw_defaults:=[],kwarg:=none,defaults:=[] }
def b9 (s:Stmt):List Stmt:=match s with
 | .FunctionDef _ _ b _ _ _ _ _ _ _=>b
 | _=>[]
def ak (s:Stmt):Scope:=match s with
 | .FunctionDef _ _ _ _ _ _ sc _ _ _=>sc
 | _=>{ kind:=.function,names:=[],isGenerator:=false,isCoroutine:=false }
abbrev CX0:CXT:=fun _ _ _ _ _ _=>False
abbrev E0:XK:=fun _ _ _=>False
theorem mn {X:Cx}:iX CX0 X E0:=fun _ _ _ _ _ _ _ h=>h.elim
structure Fun (K:PySem.W.Frag)(x qual:Str)(st:Stmt)(f:Addr)(fd:FuncData):Prop where
 ex:∃ (oc:Value) (od:Option Addr) (kV doc pm:Value) (an:Option Addr) (cdv ct:Value) (osl:Array (Option Value)),
  fd=fnOf x qual (eU st) (b9 st) (ak st) .none kV doc pm an cdv ct/\K.lookup f=some ⟨oc,od,.func fd,osl⟩/\codeIn K cdv qual=true
 kp:keepIn K (.ref f)=true
section
variable {P:Program}{w:World}{K:PySem.W.Frag}{mg:Str->Option Value}{base:Heap}
theorem Fun.ok {x qual:Str}{st:Stmt}{f:Addr}{fd:FuncData}{N ps:List Str}{k:Nat}{sp:Sp}(F:Fun K x qual st f fd)(S:az N ps (ak st))(len:∀ vs H Q E,sp vs H Q E->vs.length=ps.length)
 (hbody:∀ (cdv:Value) (A:Around) (outer:List Env) (s:Shared) (H:Hp) (vs:List V) (Q:VK) (E:XK),Room k (A.deeper (envOfC qual (ak st) s.heap.objs.size f cdv))->sp vs H Q E →
  ∃ t,PSs (gL CX0 P w K mg base N qual (ak st) f cdv A outer s H E).nox (b9 st) t/\t { nx:=fun _ H'=>Q .non H',rt:=Q } (start N vs) H):FnOk P w K mg base CX0 (k+1) f fd ps sp:=by
 obtain⟨oc,od,kV,doc,pm,an,cdv,ct,osl,rfl,lk,hcd⟩:=F.ex;refine acA lk hcd S len fun A outer s H vs Q E hr hsp=>?_;obtain⟨t,h,q⟩:=hbody cdv A outer s H vs Q E hr hsp;exact⟨t,h.nox,q⟩
theorem Fun.binds {x qual:Str}{st:Stmt}{f:Addr}{fd:FuncData}{ps:List Str}(F:Fun K x qual st f fd)
 (h:∀ (kV doc pm:Value) (an:Option Addr) (cdv ct:Value) (us:List Value),us.length=ps.length->bindArgs (fnOf x qual (eU st) (b9 st) (ak st) .none kV doc pm an cdv ct) ⟨us,[]⟩=pure (ps.zip us)):Binds K fd ps []:=by
 obtain⟨oc,od,kV,doc,pm,an,cdv,ct,osl,rfl,lk,hcd⟩:=F.ex;exact .all (h kV doc pm an cdv ct)
theorem fun_mk {x qual:Str}{st:Stmt}{f:Addr}{oc:Value}{od an:Option Addr}{osl:Array (Option Value)}{kV doc pm cdv ct:Value}(l:K.lookup f=some ⟨oc,od,.func (fnOf x qual (eU st) (b9 st) (ak st) .none kV doc pm an cdv ct),osl⟩)
 (c:codeIn K cdv qual=true)(k:keepIn K (.ref f)=true):Fun K x qual st f (fnOf x qual (eU st) (b9 st) (ak st) .none kV doc pm an cdv ct):=⟨⟨oc,od,kV,doc,pm,an,cdv,ct,osl,rfl,l,c⟩,k⟩
end
theorem tT {A:Around}{k:Nat}(hr:Room k A):A.units+1 < cLine:=agX (ah0 (by decide:1<=64) _) hr.units
theorem bZ {n:Nat}(h:n<=1000):n < sizeLine:=agX h (by decide)
section
variable {X:Cx}
theorem pv (i:Nat){x:Str}{pos:Pos}(hN:X.N[i]? = some x:=by rfl)(hv:Vis X.env.scope x:=by first | exact Or.inl rfl | exact Or.inr (.inl rfl) | exact Or.inr (.inr rfl))(hd:(x == ("__debug__" : Str))=false:=by decide)
 (hcd:(x == ("__classdict__" : Str))=false:=by decide):PE X (.Name x pos) (di i):=ado hN hv hd hcd
end
theorem km {A B:Prop}(h:B):if false=true then A else B:=by
 rw [if_neg ae2];exact h
theorem kW {A B:Prop}(h:A):if true=true then A else B:=by
 rw [if_pos rfl];exact h
theorem lJ {c A B:Prop}[Decidable c](h1:c->A)(h2:¬ c->B):if c then A else B:=by
 by_cases h:c
 ·rw [if_pos h];exact h1 h
 ·rw [if_neg h];exact h2 h
def Same (H H':Hp):Prop:=∀ b o,H b=some o->H' b=some o
theorem Same.refl (H:Hp):Same H H:=fun _ _ h=>h
theorem Same.trans {H H1 H2:Hp}(a:Same H H1)(b:Same H1 H2):Same H H2:=fun c o h=>b c o (a c o h)
theorem Same.free {H H':Hp}(e:Same H H'){l:Addr}(h:H' l=Option.none):H l=Option.none:=by
 cases q:H l with
 | none=>rfl
 | some o =>
  rw [e l o q] at h;cases h
theorem Same.seq {K:PySem.W.Frag}{H H':Hp}{a:Addr}{xs:List V}(e:Same H H')(h:SqL K H a xs):SqL K H' a xs:=by
 rcases h with (h | ⟨o,h⟩) | h
 ·exact .inl (.inl (e _ _ h))
 ·exact .inl (.inr ⟨o,e _ _ h⟩)
 ·exact .inr h
section
variable {κ:Type}[DecidableEq κ]
def kU (kvs:List (κ×V))(k:κ):Option V:=(kvs.find? fun kv=>decide (kv.1=k)).map (·.2)
theorem zM {p:κ×V}{r:List (κ×V)}{k:κ}(e:p.1=k):kU (p::r) k=some p.2:=by simp [kU,ah1,e]
theorem zL {p:κ×V}{r:List (κ×V)}{k:κ}(e:¬ p.1=k):kU (p::r) k=kU r k:=by simp [kU,ah1,e]
theorem RelO.isSome_eq {o:Option V}{u:Option Value}(r:RelO o u):o.isSome=u.isSome:=by
 cases o with
 | none=>cases u with
  | none=>rfl
  | some _=>exact (show False from r).elim
 | some _=>cases u with
  | none=>exact (show False from r).elim
  | some _=>rfl
theorem KV.val {kvs:List (κ×V)}{vs:List (κ×Value)}(r:KV kvs vs)(k:κ):RelO (kU kvs k) (valueAt vs k):=by
 unfold KV at r
 induction r with
 | nil=>exact True.intro
 | @cons p q ps qs h t ih =>
  obtain⟨h1,h2⟩:=h;by_cases e:p.1=k
  ·have e':q.1=k:=h1.symm.trans e;have b:valueAt (q::qs) k=some q.2:=by simp [valueAt,ah1,e']
   rw [zM e,b];exact h2
  ·have e':¬ q.1=k:=fun z=>e (h1.trans z);have b:valueAt (q::qs) k=valueAt qs k:=by simp [valueAt,ah1,e']
   rw [zL e,b];exact ih
end
theorem abi {P:Program}{w:World}{k:Key}{u:Value}(r:RelV (kV k) u):(gD P w).is k u=true:=by
 cases k with
 | inl i=>obtain⟨t,e⟩:=(show ∃ t,u=Value.int i t from r);subst e;exact tN P w i t
 | inr x=>obtain⟨t,e⟩:=(show ∃ t,u=Value.str x t from r);subst e;exact ui P w x t
section
variable {P:Program}{w:World}{H:Hp}{h:Heap}{a:Addr}
end
section
variable {X:Cx}{pins:List (Addr×Obj)}{σ:St}{H:Hp}{s:Shared}{a:Addr}{y v:V}{u r:Value}{o:Option V}{A:Around}{E:Value->Shared->Prop}
end
section
variable {X:Cx}{pins:List (Addr×Obj)}{σ:St}{H:Hp}{s:Shared}{a:Addr}{kvs:List (Key×V)}{k:Key}{u:Value}{A:Around}{E:Value->Shared->Prop}
end
def aeo (i:Expr):Prop:=∀ ov iv,subscripted i false ov iv=operate [ov,iv] (getItem ov iv)
theorem ab4 {prog:Program}{w:World}{A:Around}{E:Value->Shared->Prop}{s:Shared}{env:Env}{value slice:Expr}{pos:Pos}{T id:String}{Q:Value->Shared->Prop}
 (hl:typeLookup (.type T) "__getitem__" = pure (some (.builtin id)))(hs:aeo slice)
 (h:wpAny (model prog w) A (eval value env) (fun o s₁=>wpAny (model prog w) A (eval slice env) (fun i s₂=>s₂.TypeIs o T/\wpAny (model prog w) A (getItem o i) Q E s₂) E s₁) E s) :
 wpAny (model prog w) A (eval (.Subscript value slice pos) env) Q E s:=by
 refine Subscript_ (af6 h (fun o s₁ h₁=>af6 h₁ (fun i s₂ h₂=>?_) fun _ _ x=>x) fun _ _ x=>x);obtain⟨hT,h₂⟩:=h₂;unfold subscriptTail;refine aeU ?_;rw [getitemInPython_of_ne hT.not_modules];refine aeU (aiP hT hl ?_);have fin:wpAny (model prog w) A (subscripted slice false o i) (fun r s₃=>wpAny (model prog w) A (letTemporaryGo value o r >>= fun _=>pure r) Q E s₃) E s₂:=by
  rw [hs o i];exact wpAny_operating (af6 h₂ (fun r s₃ h₃=>aeU (wpAny_letTemporaryGo (ae3 h₃))) fun _ _ x=>x)
 first
  | exact ae3 (aeU fin)
  | exact aeU (ae3 (aeU fin))
  | exact aeU fin
section
variable {X:Cx}{o i e value:Expr}{pos pos' tpos:Pos}{td ty tv:TE}
end
section
variable {X:Cx}{pos:Pos}
end
structure M1 (X:Cx)(o:Expr)(m:Str)(apos:Pos)(e:Expr)(cpos:Pos):Prop where
 base:attributeBase o m X.env (eval o X.env)=eval o X.env
 few:((backTo cpos (starEach [e] X.env)).all (fun x=>!x.1) && (backToKw cpos (keywordEach [] X.env)).all (fun x=>x.1.isSome)
  && decide (([e]:List Expr).length+([]:List Keyword).length+(if ([]:List Keyword).isEmpty then 0 else 1) < 30))=true
 line:(apos.endLine == cpos.line)=true
 trees:backTo cpos (starEach [e] X.env)=[(false,eval e X.env)]
structure M2 (X:Cx)(o:Expr)(m:Str)(apos:Pos)(e f:Expr)(cpos:Pos):Prop where
 base:attributeBase o m X.env (eval o X.env)=eval o X.env
 few:((backTo cpos (starEach [e,f] X.env)).all (fun x=>!x.1) && (backToKw cpos (keywordEach [] X.env)).all (fun x=>x.1.isSome)
  && decide (([e,f]:List Expr).length+([]:List Keyword).length+(if ([]:List Keyword).isEmpty then 0 else 1) < 30))=true
 line:(apos.endLine == cpos.line)=true
 trees:backTo cpos (starEach [e,f] X.env)=[(false,eval e X.env),(false,eval f X.env)]
section
variable {X:Cx}{pins:List (Addr×Obj)}{σ:St}{H:Hp}{s:Shared}{a:Addr}{y d:V}{u r:Value}{o:Option V}{A:Around}{E:Value->Shared->Prop}
end
section
variable {X:Cx}{o e f:Expr}{apos cpos:Pos}{td ty tx:TE}
end
section
variable {X:Cx}{pins:List (Addr×Obj)}{σ:St}{H:Hp}{s:Shared}{a:Addr}{kvs:List (Key×V)}{A:Around}{E:Value->Shared->Prop}
end
section
variable {X:Cx}{pins:List (Addr×Obj)}{σ:St}{H:Hp}{s:Shared}{a:Addr}{y:V}{u:Value}{A:Around}{E:Value->Shared->Prop}
end
def aej (h:Heap)(e T:Addr)(cls a0:Value):Prop :=
 ∃ oe vs oT ts,h.get? e=some oe/\(oe.cls=cls/\vs[0]? = some a0)/\oe.data=.fields vs/\vs[1]? = some (.ref T)/\T≠e/\h.get? T=some oT/\oT.data=.fields ts/\ts[3]? = some .none
def CXr (P:Program)(w:World):CXT:=fun outer H s E ev s'=>∃ (e T:Addr) (cls a0:Value) (H':Hp),ev=.ref e/\s'.os=s.os/\AllBare s'.gens/\Un (frs outer) [] H H' s.heap s'.heap/\HOk P w H' s'.heap ∧
 aej s'.heap e T cls a0/\s.heap.get? e=none/\s.heap.get? T=none/\H' e=none/\H' T=none/\E cls none H'
theorem ObjOk.obj {P:Program}{w:World}{H:Hp}{h:Heap}{a:Addr}{o:HO}(x:ObjOk P w H h a o):∃ ob,h.get? a=some ob:=by
 cases o with
 | lst xs=>obtain⟨_,_,_,_,e⟩:=x;exact⟨_,e⟩
 | tup xs=>obtain⟨_,_,_,o,e,_⟩:=x;exact⟨_,e⟩
 | dK kvs=>obtain⟨_,_,_,_,o,_,_,e,_⟩:=x;exact⟨_,e⟩
 | dT kvs=>obtain⟨_,_,_,_,o,_,_,e,_⟩:=x;exact⟨_,e⟩
 | set S n=>obtain⟨o,_,_,_,e,_⟩:=x;exact⟨_,e⟩
 | ins C dx fs=>obtain⟨_,_,_,e,_⟩:=x;exact⟨_,e⟩
 | own y=>exact x
 | xd fs=>obtain⟨_,⟨_,_,_,e,_⟩,_⟩:=x;exact⟨_,e⟩
 | rng lo hi=>obtain⟨_,_,_,e⟩:=x;exact⟨_,e⟩
 | frz ob u=>obtain⟨e,_⟩:=x;exact⟨_,e⟩
 | tbl ps=>exact⟨_,x⟩
 | met f y=>exact⟨_,x⟩
 | ext φ=>exact x.2.1
def iG (h:Heap)(l:List Addr):Heap:=hideAll h l
theorem jh {h base:Heap}{L:List Addr}:∀ {l:List Env},h.FunFrames base l->(∀ b∈frs l,b∈L)->h.FunFrames (iG h L) l
 | [],_,_=>True.intro
 | env::outer,x,s=>by
  unfold Heap.FunFrames at x ⊢;obtain⟨k,⟨F,o,f,_,g,d⟩,r⟩:=x;have hF:F∈frs (env::outer):=by unfold frs;rw [agk,f];exact aeX
  exact⟨k,⟨F,o,f,afX _ (s F hF),g,d⟩,jh r fun b hb=>s b (by unfold frs at hb ⊢;rw [agk,f];exact aeW _ hb)⟩
theorem HOk.left {P:Program}{w:World}{H:Hp}{h h':Heap}{L:List Addr}(x:HOk P w H h)(n:∀ b∈L,H b=none)(k:(iG h L).StaysIn h'):HOk P w H h':=fun a o q=>by
 refine (x a o q).stay (fun b u hb g=>k b u (agJ _ g fun z=>?_)) (fun _ z=>z) fun _ _ z=>z;have hn:=n b z;rcases hb with e | e
 ·rw [e,q] at hn;cases hn
 ·rw [e] at hn;cases hn
theorem nY {h h':Heap}{base:Heap}{l:List Env}(x:h.FunFrames base l)(k:∀ b o,h.get? b=some o->(∀ vs,o.data≠.fields vs)->∃ sl,h'.get? b=some { o with slots:=sl }){b:Addr}{o:Obj}(hb:b∈frs l)(e:h.get? b=some o):∃ sl,h'.get? b=some { o with slots:=sl }:=by
 obtain⟨_,o',e',d⟩:=x.mem hb;rw [e] at e';cases e';exact k b o e d
section
variable {P:Program}{w:World}{K:PySem.W.Frag}{mg:Str->Option Value}{base:Heap}{N:List Str}{qual:Str}{scope:Scope}{f:Addr}{cd:Value}{A:Around}{outer:List Env}{s:Shared}{H:Hp}{E0:XK}
theorem t8 {pins:List (Addr×Obj)}{σ:St}{H2:Hp}{s2:Shared}{h':Heap}{e T:Addr}{cls a0:Value}(J:Inv (gL (CXr P w) P w K mg base N qual scope f cd A outer s H E0) pins σ H2 s2)
 (ne:H2 e=none)(nT:H2 T=none)(ge:s.heap.get? e=none)(gT:s.heap.get? T=none)
 (L:Heap.LeftW (iG s2.heap (e::T::frs (envOfC qual scope s.heap.objs.size f cd::outer))) (envOfC qual scope s.heap.objs.size f cd::outer) e cls a0 s2.heap h')(q:E0 cls none H2):CXr P w outer H s E0 (.ref e) { s2 with heap:=h' }:=by
 obtain⟨st,fn,⟨oe,vs,T',oT,ts,g1,g2,g3,g4,g5,g6,g7,g8,g9⟩,kp⟩:=L;have hst:=J.stack;have sf:∀ b∈frs (envOfC qual scope s.heap.objs.size f cd::outer),H2 b=none:=J.stkFree;have nl:∀ b∈e::T::frs (envOfC qual scope s.heap.objs.size f cd::outer),H2 b=none:=fun b hb=>by
  rcases aeY.mp hb with z | hb
  ·rw [z];exact ne
  ·rcases aeY.mp hb with z | hb
   ·rw [z];exact nT
   ·exact sf b hb
 have fsub:∀ b∈frs outer,b∈frs (envOfC qual scope s.heap.objs.size f cd::outer):=fun b hb=>by
  unfold frs at hb ⊢;rw [agk];split
  ·exact hb
  ·exact aeW _ hb
 have locs:∀ b∈frs (envOfC qual scope s.heap.objs.size f cd::outer),b=s.heap.objs.size\/b∈frs outer:=fun b hb=>aeY.mp (J.stkSub b hb);have notF:∀ b∈frs (envOfC qual scope s.heap.objs.size f cd::outer),b≠T':=fun b hb z=>by
  obtain⟨_,o',e',d⟩:=fn.mem hb;rw [z,g7] at e';cases e';exact d _ g8
 have inB:∀ b o,s2.heap.get? b=some o->b≠e->b≠T->b ∉ frs (envOfC qual scope s.heap.objs.size f cd::outer)->(iG s2.heap (e::T::frs (envOfC qual scope s.heap.objs.size f cd::outer))).get? b=some o:=fun b o g h1 h2 h3=>agJ _ g fun z=>by
  rcases aeY.mp z with z | z
  ·exact h1 z
  ·rcases aeY.mp z with z | z
   ·exact h2 z
   ·exact h3 z
 have hb:=J.base;have old:∀ b o,s.heap.get? b=some o->b≠e/\b≠T/\b≠s.heap.objs.size:=fun b o g=>⟨(fun z=>by rw [z,ge] at g;cases g),(fun z=>by rw [z,gT] at g;cases g),fun z=>agu _ (z▸afb g)⟩;have step:∀ b o,s2.heap.get? b=some o->b≠e->b≠T->∃ sl,h'.get? b=some { o with slots:=sl }:=fun b o g h1 h2=>by
  by_cases h3:b∈frs (envOfC qual scope s.heap.objs.size f cd::outer)
  ·exact nY hst kp h3 g
  ·exact⟨o.slots,st b o (inB b o g h1 h2 h3)⟩
 refine⟨e,T',cls,a0,H2,rfl,J.os,J.bare,⟨fun b o g n hf hx=>?_,fun b o g n hf hx=>?_,hb.free,fun b o g hx=>?_,hb.tups,hb.frzs,hb.tbls⟩,J.hok.left nl st,⟨oe,vs,oT,ts,g1,g2,g3,g4,g6,g7,g8,g9⟩,ge,?_,ne,?_,q⟩
 ·obtain⟨h1,h2,h3⟩:=old b o g;refine st b o (inB b o (hb.keep b o g n hf hx) h1 h2 fun z=>?_);rcases locs b z with z | z
  ·exact h3 z
  ·exact hf z
 ·obtain⟨h1,h2,h3⟩:=old b o g;obtain⟨sl,g'⟩:=hb.slot b o g n hf hx;obtain⟨sl',g''⟩:=step b _ g' h1 h2;exact⟨sl',g''⟩
 ·obtain⟨h1,h2,h3⟩:=old b o g;obtain⟨o',g'⟩:=hb.there b o g hx;obtain⟨sl',g''⟩:=step b _ g' h1 h2;exact⟨_,g''⟩
 ·cases g:s.heap.get? T' with
  | none=>rfl
  | some o =>
   obtain⟨h1,h2,h3⟩:=old T' o g;obtain⟨o',g'⟩:=hb.there T' o g (by show T' ∉ ([]:List Addr);simp);have:=inB T' o' g' h1 h2 fun z=>notF T' z rfl;rw [g5] at this;cases this
 ·cases g:H2 T' with
  | none=>rfl
  | some o =>
   obtain⟨ob,g'⟩:=(J.hok T' o g).obj;have:=inB T' ob g' g6 (fun z=>by rw [z,nT] at g;cases g) fun z=>notF T' z rfl;rw [g5] at this;cases this
theorem rL {E:XK}(hE:∀ c d H',E c d H'->E0 c d H'):iX (CXr P w) (gL (CXr P w) P w K mg base N qual scope f cd A outer s H E0) E:=by
 intro pins σ H1 s1 ev s2 I h;obtain⟨e,T,cls,a0,H2,rfl,os,bare,un,hok,ex,ge,gT,ne,nT,q⟩:=h;have J:Inv (gL (CXr P w) P w K mg base N qual scope f cd A outer s H E0) pins σ H2 s2:=I.call' os un hok bare (fun b z=>absurd z (by simp));have old:∀ b,s1.heap.get? b=none->s.heap.get? b=none:=fun b z=>by
  cases g:s.heap.get? b with
  | none=>rfl
  | some o =>
   obtain⟨o',g'⟩:=I.base.there b o g (by show b ∉ ([]:List Addr);simp);rw [z] at g';cases g'
 have st:=J.stack;obtain⟨oe,vs,oT,ts,g1,g2,g3,g4,g6,g7,g8,g9⟩:=ex;have eL:e ∉ frs (envOfC qual scope s.heap.objs.size f cd::outer)/\T ∉ frs (envOfC qual scope s.heap.objs.size f cd::outer):=⟨(fun z=>by
  obtain⟨_,o',e',d⟩:=st.mem z;rw [g1] at e';cases e';exact d _ g3),(fun z=>by
  obtain⟨_,o',e',d⟩:=st.mem z;rw [g7] at e';cases e';exact d _ g8)⟩
 show wpAny (model P w) (A.deeper (envOfC qual scope s.heap.objs.size f cd)) (leaving (envOfC qual scope s.heap.objs.size f cd) (.ref e)) _ _ s2;refine wpAny_leaving_nextW (base:=iG s2.heap (e::T::frs (envOfC qual scope s.heap.objs.size f cd::outer))) (L:=s.heap.objs.size) J.ok.frames (jh st fun b hb=>aeW _ (aeW _ hb)) rfl ⟨oe,vs,T,oT,ts,g1,g2,g3,g4,afX _ (aeW _ aeX),g6,g7,g8,g9⟩ (fun b o g=>agv _ g) (afX _ aeX) fun h' L=>?_;exact t8 J ne nT (old _ ge) (old _ gT) L (hE _ _ _ q)
end
structure pq (K:PySem.W.Frag)(C:Addr)(bm:List Value):Prop where
 facts:∃ (nm q:Str) (N:Addr) (bs bmB:List Value) (hdct:Bool) (sn:List Str) (sub:List Value) (ab:Bool) (col:Option Bool) (dd:Option Addr) (k0 k1 k2 k3 k5:Option Value) (B Bn newId nid initId inN:String) (bmN:List Value) (mN:Str->Option Value),
  ExcBaseFacts Bn newId inN bmN/\bmB.contains (.type Bn)=true/\ExcBaseFacts B nid initId bmB/\bm.contains (.type "BaseException")=true/\mN "__init__" = none/\∀ h:Heap,K.In h->h.get? C=some (excClassObj nm q C N bs bm hdct sn sub ab col dd k0 k1 k2 k3 k5 newId)/\h.Ns N mN/\OwnTail h bmB bm
def acI (C:Addr)(E:XK)(t:TA):TS:=fun _ σ H=>t σ H fun vs H1=>vs.length<=sizeLine/\E (.ref C) none H1
section
variable {P:Program}{w:World}{K:PySem.W.Frag}{mg:Str->Option Value}{base:Heap}{N:List Str}{qual:Str}{scope:Scope}{f:Addr}{cd:Value}{A:Around}{outer:List Env}{s:Shared}{H:Hp}{E0:XK}
theorem qw {x:Str}{C:Addr}{bm:List Value}{np cpos pos:Pos}{a:Expr}{t:TA}(c:pq K C bm)(hg:Gl (gL (CXr P w) P w K mg base N qual scope f cd A outer s H E0) x)(hm:mg x=some (.ref C))
 (ha:PA (gL (CXr P w) P w K mg base N qual scope f cd A outer s H E0) [a] t)(hs:starEach [a] (envOfC qual scope s.heap.objs.size f cd)=[(false,eval a (envOfC qual scope s.heap.objs.size f cd))]:=by rfl)(hdb:(x == ("__debug__" : Str))=false:=by decide) :
 PS (gL (CXr P w) P w K mg base N qual scope f cd A outer s H E0) (.Raise (some (.Call (.Name x np) [a] [] cpos)) none pos) (acI C E0 t):=by
 intro pins s1 σ H1 D I h;obtain⟨nm,q,N',bs,bmB,hdct,sn,sub,ab,col,dd,k0,k1,k2,k3,k5,B,Bn,newId,nid,initId,inN,bmN,mN,f1,f2,f3,f4,f5,g⟩:=c.facts;have hd:(gL (CXr P w) P w K mg base N qual scope f cd A outer s H E0).A.handled=none:=I.ok.hd rfl;refine wpAny_Raise_call_subU (bm:=bm) (N:=N') (nm:=nm) (q:=q) (bs:=bs) (hdct:=hdct) (sn:=sn) (sub:=sub) (ab:=ab) (col:=col) (dd:=dd) (k0:=k0) (k1:=k1) (k2:=k2) (k3:=k3) (k5:=k5) f1 f2 f3 (mN:=mN) f4 hd ?_ f5 (fF I hg hm ⟨rfl,?_⟩ hdb)
 ·show ((backTo cpos (starEach [a] (envOfC qual scope s.heap.objs.size f cd))).any fun x=>x.1)=false;rw [hs]
  rfl
 have e:backTo cpos (starEach [a] (envOfC qual scope s.heap.objs.size f cd))=(false,eval a (envOfC qual scope s.heap.objs.size f cd))::[]:=by rw [hs];rfl
 show wpAny _ _ (evalArgs (.ref C) true (backTo cpos (starEach [a] (envOfC qual scope s.heap.objs.size f cd))) []) _ _ s1;rw [e];refine ahS ?_;rw [← e];refine thn (ha cpos pins s1 σ H1 _ I h) fun us s2 ⟨vs,H2,I2,r,hl,q⟩=>?_;obtain⟨c1,c2,c3⟩:=g s2.heap I2.kIn;refine⟨rfl,by rw [← r.length];exact hl,c1,c2,c3,fun h' ea made=>?_⟩;obtain⟨tt,m1,m2,m3⟩:=made.there;have J:Inv (gL (CXr P w) P w K mg base N qual scope f cd A outer s H E0) pins σ H2 { s2 with heap:=h' }:=I2.kept (t':=s2.toks) made.keeps;have st:=J.stack;have none_of:∀ b,s2.heap.get? b=none->s.heap.get? b=none:=fun b z=>by
  cases g:s.heap.get? b with
  | none=>rfl
  | some o =>
   obtain⟨o',g'⟩:=I2.base.there b o g (by show b ∉ ([]:List Addr);simp);rw [z] at g';cases g'
 have untr:∀ b,s2.heap.get? b=none->H2 b=none:=fun b z=>by
  cases g:H2 b with
  | none=>rfl
  | some o =>
   obtain⟨ob,g'⟩:=(I2.hok b o g).obj;rw [z] at g';cases g'
 show wpAny (model P w) (A.deeper (envOfC qual scope s.heap.objs.size f cd)) (leaving (envOfC qual scope s.heap.objs.size f cd) (.ref ea)) _ _ _;refine wpAny_leaving_firstW (base:=iG h' (ea::ea::frs (envOfC qual scope s.heap.objs.size f cd::outer))) (L:=s.heap.objs.size) J.ok.frames (jh st fun b hb=>aeW _ (aeW _ hb)) rfl m1 (fun b o g=>agv _ g) (afX _ aeX) rfl rfl rfl fun h2 L=>?_;exact t8 J (untr _ made.new) (untr _ made.new) (none_of _ made.new) (none_of _ made.new) L q
end
theorem o7:isSubtype (.type "type") (.type "tuple")=pure false:=by first | rfl | kernel_rfl
theorem kJ {M:Model}{A:Around}{E:Value->Shared->Prop}{s:Shared}{C1:Addr}{b:Value}{nm1 q1:Str}{N1:Addr}{bs1 bm1:List Value}{hdct1:Bool}{sn1:List Str}{sub1:List Value}{ab1:Bool}{col1:Option Bool}{dd1:Option Addr}{l0 l1 l2 l3 l5:Option Value}{newId1:String}{Q:Bool->Shared->Prop}
 (hC1:s.heap.get? C1=some (excClassObj nm1 q1 C1 N1 bs1 bm1 hdct1 sn1 sub1 ab1 col1 dd1 l0 l1 l2 l3 l5 newId1))(h:Q ((Value.ref C1::bm1).contains b) s):wpAny M A (isSubtype (.ref C1) b) Q E s:=by
 unfold isSubtype mroOf classData;refine aeU (aeU (aeU (wpAny_load hC1 ?_)));refine ae3 (ae3 ?_);show wpAny M A (pure ((Value.ref C1::bm1).contains b)) Q E s;exact ae3 h
theorem abO {M:Model}{A:Around}{E:Value->Shared->Prop}{s:Shared}{e C C1:Addr}{oe:Obj}{nm q nm1 q1:Str}{N N1:Addr}{bs bm bs1 bm1:List Value}{hdct hdct1:Bool}{sn sn1:List Str}{sub sub1:List Value}{ab ab1:Bool}{col col1:Option Bool}{dd dd1:Option Addr}{k0 k1 k2 k3 k5 l0 l1 l2 l3 l5:Option Value}{newId newId1:String}{Q:Bool->Shared->Prop}
 (hC:s.heap.get? C=some (excClassObj nm q C N bs bm hdct sn sub ab col dd k0 k1 k2 k3 k5 newId))(hC1:s.heap.get? C1=some (excClassObj nm1 q1 C1 N1 bs1 bm1 hdct1 sn1 sub1 ab1 col1 dd1 l0 l1 l2 l3 l5 newId1))
 (he:s.heap.get? e=some oe)(hc:oe.cls=.ref C1)(hb:bm.contains (.type "BaseException")=true)(hm:(Value.ref C1::bm1).contains (.ref C)=true)(h:Q true s):wpAny M A (excMatches (.ref e) (.ref C)) Q E s:=by
 unfold excMatches isInstance;refine aeU (aeU (wpAny_typeOf (T := "type") ⟨_,hC,rfl⟩ ?_));rw [o7];refine ae3 ?_;show wpAny M A (forIn [Value.ref C] PUnit.unit _ >>= _) Q E s;rw [aiQ];refine aeU (aeU (aeU ?_));unfold isExcClass isType loadHead;refine aeU (aeU (aif hC ?_));refine ae3 ?_;show wpAny M A (isSubtype (Value.ref C) (Value.type "BaseException")) _ E s;refine kJ hC ?_;have e1:(Value.ref C::bm).contains (.type "BaseException")=true:=by rw [aho,hb,aiR]
 rw [e1];show wpAny M A (pure (ForInStep.yield PUnit.unit)) _ E s;refine ae3 ?_;show wpAny M A (pure PUnit.unit) _ E s;refine ae3 ?_;refine aeU (afQ he ?_);rw [hc];rw [aiQ];refine aeU (aeU (aeU (kJ hC1 ?_)));rw [hm];show wpAny M A (pure (ForInStep.done (some true,()))) _ E s;refine ae3 ?_;show wpAny M A (pure (some true,())) _ E s;refine ae3 ?_;exact ae3 h
def yF (a:Addr)(cls:Value):HO:=.ext fun h=>∃ o,h.get? a=some o/\o.cls=cls
abbrev Cx.tried (X:Cx)(pins:List (Addr×Obj))(xe:Value->Shared->Prop):Cx:={ X with pn:=X.pn++pins,xe:=xe }
abbrev Cx.marked (X:Cx)(a:Addr):Cx:={ X with A:=X.A.mark (some (.ref a)),calm:=false,xe:=fun _ _=>False }
section
variable {X:Cx}{pins pins':List (Addr×Obj)}{σ:St}{H:Hp}{s:Shared}{xe:Value->Shared->Prop}{a:Addr}
theorem Inv.tried (I:Inv X pins σ H s)(xe:Value->Shared->Prop):Inv (X.tried pins xe) [] σ H s :=
 ⟨⟨I.ok.mod,I.ok.kind,I.ok.glob,I.ok.blt,I.ok.above,I.ok.inj,I.ok.has,I.ok.cab,I.ok.hd,I.ok.frames,I.ok.stk,I.ok.exf,I.ok.bs,I.ok.bsz,I.ok.noex,I.ok.exfs,I.ok.funs,I.ok.frf⟩,I.os,I.bare,I.base,I.loc,I.cell,I.free,I.freeC,fun p hp=>I.pin p (by simpa using hp),I.hok,I.len⟩
theorem Inv.untried (I:Inv (X.tried pins xe) pins' σ H s):Inv X pins σ H s :=
 ⟨⟨I.ok.mod,I.ok.kind,I.ok.glob,I.ok.blt,I.ok.above,I.ok.inj,I.ok.has,I.ok.cab,I.ok.hd,I.ok.frames,I.ok.stk,I.ok.exf,I.ok.bs,I.ok.bsz,I.ok.noex,I.ok.exfs,I.ok.funs,I.ok.frf⟩,I.os,I.bare,I.base,I.loc,I.cell,I.free,I.freeC,fun p hp=>I.pin p (afA _ hp),I.hok,I.len⟩
theorem SP.untried {D:vt}{f:Flow}{s':Shared}(h:SP (X.tried pins xe) pins' D f s'):SP X pins D f s':=by
 cases f with
 | next=>obtain⟨σ',H',I,q⟩:=h;exact⟨σ',H',I.untried,q⟩
 | brk=>obtain⟨σ',H',I,q⟩:=h;exact⟨σ',H',I.untried,q⟩
 | cont=>obtain⟨σ',H',I,q⟩:=h;exact⟨σ',H',I.untried,q⟩
 | ret u=>obtain⟨v,σ',H',I,r,q⟩:=h;exact⟨v,σ',H',I.untried,r,q⟩
theorem Inv.marked (I:Inv X pins σ H s)(a:Addr):Inv (X.marked a) pins σ H s :=
 ⟨⟨I.ok.mod,I.ok.kind,I.ok.glob,I.ok.blt,I.ok.above,I.ok.inj,I.ok.has,I.ok.cab,(fun z=>by cases z),I.ok.frames,I.ok.stk,I.ok.exf,I.ok.bs,I.ok.bsz,I.ok.noex,I.ok.exfs,I.ok.funs,I.ok.frf⟩,I.os,I.bare,I.base,I.loc,I.cell,I.free,I.freeC,I.pin,I.hok,I.len⟩
theorem Inv.unmarked (I:Inv (X.marked a) pins σ H s)(hd:X.calm=true->X.A.handled=none):Inv X pins σ H s :=
 ⟨⟨I.ok.mod,I.ok.kind,I.ok.glob,I.ok.blt,I.ok.above,I.ok.inj,I.ok.has,I.ok.cab,hd,I.ok.frames,I.ok.stk,I.ok.exf,I.ok.bs,I.ok.bsz,I.ok.noex,I.ok.exfs,I.ok.funs,I.ok.frf⟩,I.os,I.bare,I.base,I.loc,I.cell,I.free,I.freeC,I.pin,I.hok,I.len⟩
theorem Inv.bend {h':Heap}{t':Nat}{e T:Addr}(I:Inv X pins σ H s)(ne:H e=none)(nT:H T=none)(old:∀ b o,X.s₀.heap.get? b=some o->b ∉ X.ex->b≠e/\b≠T)(pn:∀ p∈X.pn++pins,p.1≠e/\p.1≠T)
 (st:(iG s.heap (e::T::frs X.stack)).StaysIn h')(kp:∀ b o,s.heap.get? b=some o->(∀ vs,o.data≠.fields vs)->∃ sl,h'.get? b=some { o with slots:=sl }):Inv X pins σ H { s with heap:=h',toks:=t' }:=by
 have hst:=I.stack;have nl:∀ b∈e::T::frs X.stack,H b=none:=fun b hb=>by
  rcases aeY.mp hb with z | hb
  ·rw [z];exact ne
  ·rcases aeY.mp hb with z | hb
   ·rw [z];exact nT
   ·exact I.stkFree b hb
 have inB:∀ b o,s.heap.get? b=some o->b≠e->b≠T->b ∉ frs X.stack->h'.get? b=some o:=fun b o g h1 h2 h3=>st b o (agJ _ g fun z=>by
  rcases aeY.mp z with z | z
  ·exact h1 z
  ·rcases aeY.mp z with z | z
   ·exact h2 z
   ·exact h3 z)
 have neL:∀ b o,X.s₀.heap.get? b=some o->b≠X.env.locals:=fun b o e=>afq (ae9 (afb e) I.ok.above);have notF:∀ b,b≠X.env.locals->b ∉ X.fs->b ∉ frs X.stack:=fun b h1 h2 z=>by
  rcases aeY.mp (I.stkSub b z) with z | z
  ·exact h1 z
  ·exact h2 z
 have step:∀ b o,s.heap.get? b=some o->b≠e->b≠T->∃ sl,h'.get? b=some { o with slots:=sl }:=fun b o g h1 h2=>by
  by_cases h3:b∈frs X.stack
  ·exact nY hst kp h3 g
  ·exact⟨o.slots,inB b o g h1 h2 h3⟩
 have cellK:∀ c v,s.heap.IsCell c v->h'.IsCell c v:=fun c v ⟨o,ho,hd⟩=>by
  obtain⟨sl,g⟩:=kp c o ho fun vs z=>by rw [hd] at z;cases z
  exact⟨_,g,hd⟩
 refine⟨I.ok,I.os,I.bare,⟨fun b o g n hf hx=>?_,fun b o g n hf hx=>?_,I.base.free,fun b o g hx=>?_,I.base.tups,I.base.frzs,I.base.tbls⟩,?_,fun x c g=>?_,I.free,I.freeC,fun p hp=>?_,I.hok.left nl st,I.len⟩
 ·obtain⟨h1,h2⟩:=old b o g hx;exact inB b o (I.base.keep b o g n hf hx) h1 h2 (notF b (neL b o g) hf)
 ·obtain⟨h1,h2⟩:=old b o g hx;obtain⟨sl,g'⟩:=I.base.slot b o g n hf hx;obtain⟨sl',g''⟩:=step b _ g' h1 h2;exact⟨sl',g''⟩
 ·obtain⟨h1,h2⟩:=old b o g hx;obtain⟨o',g'⟩:=I.base.there b o g hx;obtain⟨sl',g''⟩:=step b _ g' h1 h2;exact⟨_,g''⟩
 ·obtain⟨m,hn,hl⟩:=I.loc;obtain⟨o,es,ep,ho,r⟩:=id hn;obtain⟨sl,g⟩:=kp X.env.locals o ho fun vs z=>by rw [r.1] at z;cases z
  refine⟨m,⟨_,es,ep,g,r⟩,fun i x v e1 e2 e3=>?_⟩;obtain⟨u,rv,l⟩:=hl i x v e1 e2 e3;refine⟨u,rv,?_⟩;rcases l with l | ⟨k,c,hc,hi⟩
  ·exact .inl l
  ·exact .inr ⟨k,c,hc,cellK c _ hi⟩
 ·obtain⟨v,hv⟩:=I.cell x c g;exact⟨v,cellK c v hv⟩
 ·obtain⟨p1,p2,p3,p4,p5⟩:=I.pin p hp;obtain⟨h1,h2⟩:=pn p hp;exact⟨inB p.1 p.2 p1 h1 h2 (notF p.1 p3 p4),p2,p3,p4,p5⟩
theorem Inv.track {e:Addr}{oe:Obj}(I:Inv X pins σ H s)(ne:H e=none)(ge:s.heap.get? e=some oe)(old:∀ b o,X.s₀.heap.get? b=some o->b ∉ X.ex->b≠e)(pn:∀ p∈X.pn++pins,p.1≠e)(nl:e≠X.env.locals)(nc:∀ x c,X.env.cells.lookup x=some c->c≠e):Inv X pins σ (upd H e (yF e oe.cls)) s:=by
 have up:∀ b u,H b=some u->(upd H e (yF e oe.cls)) b=some u:=fun b u g=>by rw [ax (ai g ne)];exact g
 refine⟨I.ok,I.os,I.bare,⟨I.base.keep,I.base.slot,fun b o g n hx=>?_,I.base.there,fun b xs g=>up _ _ (I.base.tups b xs g),fun b o u g=>up _ _ (I.base.frzs b o u g),fun b ps g=>?_⟩,I.loc,I.cell,?_,fun x c g=>?_,fun p hp=>?_,fun b u g=>?_,I.len⟩
 ·rw [ax (old b o g hx)];exact I.base.free b o g n hx
 ·obtain⟨more,q⟩:=I.base.tbls b ps g;exact⟨more,up _ _ q⟩
 ·rw [ax (ag1 nl)];exact I.free
 ·rw [ax (nc x c g)];exact I.freeC x c g
 ·obtain⟨p1,p2,p3,p4,p5⟩:=I.pin p hp;exact⟨p1,by rw [ax (pn p hp)];exact p2,p3,p4,p5⟩
 ·by_cases hb:b=e
  ·subst hb;rw [ag] at g;cases g;exact⟨⟨oe,ge,rfl⟩,⟨oe,ge⟩,fun h1 h2 ⟨o,g1,g2⟩ k=>⟨o,k o g1,g2⟩⟩
  ·rw [ax hb] at g;exact (I.hok b u g).stay (fun _ _ _ q=>q) (fun c q=>up _ _ q) fun c xs q=>up _ _ q
theorem Inv.goes {i:Nat}{n:Str}{h':Heap}{t':Nat}{v:Option Value}{m:Str->Option Value}(I:Inv X pins σ H s)(hN:X.N.Nodup)(hi:X.N[i]? = some n)(hk:X.env.kindOf n=some .local)(hm:∀ (j:Nat) (x:Str) (v:V),X.N[j]? = some x->σ[j]? = some (some v)->Vis X.env.scope x->∃ u,RelV v u/\aes X.env s.heap m x u)
 (ns:h'.Ns X.env.locals fun x=>if x=n then v else m x)(sb:Heap.SameBut X.env.locals s.heap h')(nsm:s.heap.Ns X.env.locals m):Inv X pins (σ.set i none) H { s with heap:=h',toks:=t' }:=by
 have neL:∀ b o,X.s₀.heap.get? b=some o->b≠X.env.locals:=fun b o e=>afq (ae9 (afb e) I.ok.above);obtain⟨oL,_,_,hoL,_⟩:=id nsm;have cellK:∀ x c v,X.env.cells.lookup x=some c->s.heap.IsCell c v->h'.IsCell c v:=fun x c v hx ⟨o,ho,hd⟩=>⟨o,(sb.2 c (I.cne x c hx)).trans ho,hd⟩;refine⟨I.ok,I.os,I.bare,⟨fun b o g nn hf hx=>(sb.2 b (neL b o g)).trans (I.base.keep b o g nn hf hx),fun b o g nn hf hx=>?_,I.base.free,fun b o g hx=>?_,I.base.tups,I.base.frzs,I.base.tbls⟩,⟨_,ns,fun j x v' e1 e2 e3=>?_⟩,fun x c g=>?_,I.free,I.freeC,fun p hp=>?_,fun b u g=>?_,by simpa using I.len⟩
 ·obtain⟨sl,g'⟩:=I.base.slot b o g nn hf hx;exact⟨sl,(sb.2 b (neL b o g)).trans g'⟩
 ·obtain⟨o',g'⟩:=I.base.there b o g hx;exact⟨o',(sb.2 b (neL b o g)).trans g'⟩
 ·have hj:j≠i:=fun z=>by
   subst z;have hjl:j < σ.length:=by rw [I.len];exact (aeZ.mp hi).1
   rw [agU hjl] at e2;cases e2
  rw [ahQ (ag1 hj)] at e2;obtain⟨u,r,l⟩:=hm j x v' e1 e2 e3;refine⟨u,r,?_⟩;rcases l with ⟨k,q⟩ | ⟨k,c,hc,hi'⟩
  ·refine .inl ⟨k,?_⟩;show (if x=n then v else m x)=some u;rw [if_neg fun z:x=n=>hj (qc hN e1 (by rw [z];exact hi))];exact q
  ·exact .inr ⟨k,c,hc,cellK x c _ hc hi'⟩
 ·obtain⟨v',hv⟩:=I.cell x c g;exact⟨v',cellK x c v' g hv⟩
 ·obtain⟨p1,p2,p3,p4,p5⟩:=I.pin p hp;exact⟨(sb.2 p.1 p3).trans p1,p2,p3,p4,p5⟩
 ·refine (I.hok b u g).stay (fun c w' hc q=>(sb.2 c fun z=>?_).trans q) (fun _ q=>q) fun _ _ q=>q;have:=I.free;rcases hc with e | e
  ·rw [← z,e,g] at this;cases this
  ·rw [← z,e] at this;cases this
end
theorem kH {h:Heap}{a b:Addr}{f:Obj->Obj}{o:Obj}(ne:b≠a)(g:h.get? b=some o):(h.update a f).get? b=some o:=agV f (ag1 ne) g
section
variable {prog:Program}{w:World}{A:Around}{E:Value->Shared->Prop}{h:Heap}{g:Array GenState}{d:Drawn}{t:Nat}{os:OsState}{nm q:Str}{C N:Addr}{bs bm bmB bmN:List Value}{hdct:Bool}{sn:List Str}{sub:List Value}{ab:Bool}{col:Option Bool}{dd:Option Addr}{k0 k1 k2 k3 k5:Option Value}{B Bn newId nid initId inN:String}{mN:Str->Option Value}{rest:List Value}{fI:Addr}{oI:Obj}
theorem o3 {Q:PySem.Fin->Shared->Prop}(Fn:ExcBaseFacts Bn newId inN bmN)(hBn:bmB.contains (.type Bn)=true)(F:ExcBaseFacts B nid initId bmB)(T:OwnTail h bmB bm)
 (hC:h.get? C=some (excClassObj nm q C N bs bm hdct sn sub ab col dd k0 k1 k2 k3 k5 newId))(hn:h.Ns N mN)(hi:mN "__init__" = some (.ref fI))(hfI:h.get? fI=some oI)(hfc:oI.cls=.type "function")
 (hq:∀ (h':Heap) (e:Addr),h.MadeExcOf h' e (.ref C) rest->wpAny (model prog w) A (call (.ref fI) (.ref e::rest)) (fun r s'=>r=.none/\Q (.done (.ret (.ref e))) s') E { heap:=h',gens:=g,drawn:=d,toks:=t,os:=os })
 (hrest:rest.length<=sizeLine):wpAny (model prog w) A (Builtin.«type.__call__» { pos:=.ref C::rest }) Q E { heap:=h,gens:=g,drawn:=d,toks:=t,os:=os }:=by
 unfold Builtin.«type.__call__»;dsimp only;refine afR rfl ?_;refine aeU ?_;unfold mroOf classData;refine aeU (aeU (wpAny_load' hC ?_));refine ae3 (ae3 ?_);refine afR rfl ?_;refine aeU (wpAny_madeBy_exc hC ?_);refine aeU (ae3 ?_);refine aeU (afJ (ahe (ag8 (Code.quiet_builtin _ Fn.quiet) (wpAny_check_new_subU Fn hBn T hC (codeAny_exc_new_subU Fn hBn F T hC ?_ hrest)))));have hC₁:=ae0 { cls:=Value.ref C,data:=Data.fields #[Value.ref h.objs.size,Value.none,Value.none,Value.none,Value.bool false,Value.none] } (ae0 { cls:=Value.type "tuple",data:=Data.seq rest.toArray } hC);have hfI₁:=ae0 { cls:=Value.ref C,data:=Data.fields #[Value.ref h.objs.size,Value.none,Value.none,Value.none,Value.bool false,Value.none] } (ae0 { cls:=Value.type "tuple",data:=Data.seq rest.toArray } hfI);have keep:∀ b o,h.get? b=some o->((h.push { cls:=Value.type "tuple",data:=Data.seq rest.toArray }).push { cls:=Value.ref C,data:=Data.fields #[Value.ref h.objs.size,Value.none,Value.none,Value.none,Value.bool false,Value.none] }).get? b=some o:=fun b o e=>ae0 _ (ae0 _ e);have hn₁:Heap.Ns _ N mN:=let ⟨o,es,ep,e,r⟩:=hn;⟨o,es,ep,keep _ _ e,r⟩;have T₁:=T.keeps keep;have hget:=Heap.get?_push_at (h:=h.push { cls:=Value.type "tuple",data:=Data.seq rest.toArray }) (o:={ cls:=Value.ref C,data:=Data.fields #[Value.ref h.objs.size,Value.none,Value.none,Value.none,Value.bool false,Value.none] }) (a:=h.objs.size+1) (by rw [ahD]) rfl;have htup:((h.push { cls:=Value.type "tuple",data:=Data.seq rest.toArray }).push { cls:=Value.ref C,data:=Data.fields #[Value.ref h.objs.size,Value.none,Value.none,Value.none,Value.bool false,Value.none] }).get? h.objs.size=some { cls:=Value.type "tuple",data:=Data.seq rest.toArray }:=ae0 _ (afo h rfl);have hcC:(Value.ref C::bm).contains (.ref C)=true:=by simp
 generalize hh:(h.push { cls:=Value.type "tuple",data:=Data.seq rest.toArray }).push { cls:=Value.ref C,data:=Data.fields #[Value.ref h.objs.size,Value.none,Value.none,Value.none,Value.bool false,Value.none] }=h1 at *;show wpAny _ _ _ _ _ _;unfold isInstance typeOf;refine aeU (aeU ?_);refine aeU (ahA hget ?_);refine ae3 (wpAny_isSubtype_exc hC₁ ?_);rw [hcC];refine afR rfl ?_;refine aeU (afJ ?_);unfold callSpecial? specialOf typeOf;refine aeU ?_;refine aeU ?_;refine aeU (ahA hget ?_);refine ae3 ?_;refine wpAny_typeLookup_tail hC₁ hn₁ T₁ F.mroIs F.init.lookup ?_;rw [hi];dsimp only;refine afJ ?_;unfold bindSpecial;refine aeU (aeU (wpAny_typeOf (T := "function") ⟨_,hfI₁,hfc⟩ ?_));refine aih rfl (ae3 ?_);show wpAny _ _ (call (Value.ref fI) (Value.ref (h.objs.size+1)::rest) >>= _) _ _ _;refine aeU (af6 (hq h1 (h.objs.size+1) ⟨keep,ahP (agK _),h.objs.size,hget,ahP (ae4 _),htup⟩) (fun r s' hr=>?_) fun _ _ z=>z);obtain⟨rfl,hr⟩:=hr;refine ae3 ?_;refine afR rfl ?_;exact ae3 hr
theorem wR {Q:Value->Shared->Prop}(Fn:ExcBaseFacts Bn newId inN bmN)(hBn:bmB.contains (.type Bn)=true)(F:ExcBaseFacts B nid initId bmB)(T:OwnTail h bmB bm)
 (hC:h.get? C=some (excClassObj nm q C N bs bm hdct sn sub ab col dd k0 k1 k2 k3 k5 newId))(hn:h.Ns N mN)(hi:mN "__init__" = some (.ref fI))(hfI:h.get? fI=some oI)(hfc:oI.cls=.type "function")
 (hq:∀ (h':Heap) (e:Addr),h.MadeExcOf h' e (.ref C) rest->wpAny (model prog w) (A.under (.builtin "type.__call__" { pos:=.ref C::rest })) (call (.ref fI) (.ref e::rest)) (fun r s'=>r=.none/\Q (.ref e) s') E { heap:=h',gens:=g,drawn:=d,toks:=t,os:=os })
 (hrest:rest.length<=sizeLine):wpAny (model prog w) A (call (.ref C) rest) Q E { heap:=h,gens:=g,drawn:=d,toks:=t,os:=os }:=by
 have hT:Shared.TypeIs { heap:=h,gens:=g,drawn:=d,toks:=t,os:=os } (.ref C) "type" := ⟨_,hC,rfl⟩;refine ahe (codeAny_of_tree ?_);refine aeU (wpAny_load' hC ?_);refine aeU (aiP hT tc_lookup ?_);refine aeU (wpAny_of_eq (tc_bind (.ref C)) ?_);refine aeU (ae3 ?_);refine aih rfl ?_;refine ae3 ⟨rfl,codeAny_call_builtin_at (Code.quiet_builtin _ (by decide +kernel)) entry_typeCall (wpAny_check_type_call_sub hC ?_)⟩;exact o3 Fn hBn F T hC hn hi hfI hfc (fun h' e hm=>hq h' e hm) hrest
end
theorem ye {M:Model}{A:Around}{E:Value->Shared->Prop}{s:Shared}{a:Value}{b c:Value}{Q:Unit->Shared->Prop}(lk:Looks M s.heap (isInstance a (.type "object")) true)(q:Q () s):wpAny M A (checkBuiltinCall "object.__setattr__" { pos:=[a,b,c] }) Q E s :=
 PySem.W.check_slot (i := "object.__setattr__") (owner := "object") (n := "__setattr__") (self:=a) (rest:=[b,c]) (kw:=[]) ag7.kind ag7.split lk (ag7.args a b c) q
theorem yW {c:Value}{d:Option Addr}{vs:Array Value}{sl:Array (Option Value)}:Obj.isFreed ⟨c,d,.fields vs,sl⟩=false:=rfl
theorem xk {h:Heap}{e:Addr}{oe:Obj}(he:h.get? e=some oe)(hf:∃ vs,oe.data=.fields vs):∃ h2,h2=(h.push { cls:=Value.type "dict",data:=Data.dict #[] }).update e (fun o=>{ cls:=o.cls,dict:=some h.objs.size,data:=o.data,slots:=o.slots })/\(∀ b o,b≠e->h.get? b=some o->h2.get? b=some o)/\h2.get? e=some { cls:=oe.cls,dict:=some h.objs.size,data:=oe.data,slots:=oe.slots }/\h2.Ns1 h.objs.size (fun _=>none):=by
 have lt:=afb he;have he1:(h.push { cls:=Value.type "dict",data:=Data.dict #[] }).get? e=some oe:=ae0 _ he;have hd1:(h.push { cls:=Value.type "dict",data:=Data.dict #[] }).get? h.objs.size=some { cls:=Value.type "dict",data:=Data.dict #[] }:=afo h rfl;obtain⟨vs,hf⟩:=hf;refine⟨_,rfl,fun b o ne g=>agV _ (ag1 ne) (ae0 _ g),ag2 _ he1 ?_,Heap.Ns1.of_empty ⟨_,#[],_,agV _ (afq lt) hd1,rfl,(fun e he=>absurd he (by simp)),fun _=>rfl⟩⟩;obtain⟨c,d,da,sl⟩:=oe;cases hf;exact yW
section
variable {prog:Program}{w:World}{A:Around}{E:Value->Shared->Prop}{s:Shared}{K:PySem.W.Frag}{e C:Addr}{oe:Obj}{nm q:Str}{N:Addr}{bs bm:List Value}{sn:List Str}{sub:List Value}{ab:Bool}{col:Option Bool}{dd:Option Addr}{k0 k1 k2 k3 k5:Option Value}{newId:String}{name:Str}{v:Value}
theorem tZ {Q:Unit->Shared->Prop}(X:K.In s.heap)(hC:s.heap.get? C=some (excClassObj nm q C N bs bm true sn sub ab col dd k0 k1 k2 k3 k5 newId))(he:s.heap.get? e=some oe)(hc:oe.cls=.ref C)(hd:oe.dict=none)(hf:∃ vs,oe.data=.fields vs)
 (hs:findIn K (.ref C) "__setattr__" = some (some (.builtin "object.__setattr__")))(hn:findIn K (.ref C) name=some none)(ho:bm.contains (.type "object")=true)
 (hov:∀ (A:Around) (E:Value->Shared->Prop) (s':Shared) (Q:Unit->Shared->Prop),s'.heap=s.heap->Q () s'->wpAny (model prog w) A (Builtin.ObjectAttr.refuseIfOverridden (.ref e) "__setattr__") Q E s')
 (hq:∀ h' dx,s.heap.objs.size<=dx->(∀ b o,b≠e->s.heap.get? b=some o->h'.get? b=some o)->h'.get? e=some { cls:=oe.cls,dict:=some dx,data:=oe.data,slots:=oe.slots }->h'.Ns1 dx (fun y=>if y=name then some v else none)->Q () { s with heap:=h',toks:=s.toks+2 }) :
 wpAny (model prog w) A (setAttr (.ref e) name v) Q E s:=by
 have SF:=ag7;have I:InstAt s.heap e oe C none:=⟨he,hc,by obtain⟨vs,hf⟩:=hf;unfold PySem.W.notCls;rw [hf],by rw [hd];trivial⟩;refine set_plain X I hs ?_;refine codeAny_call_builtin SF.slot.plain SF.entry ?_;have lk:Looks (model prog w) s.heap (isInstance (.ref e) (.type "object")) true:=by
  intro A Q E s' k q;unfold isInstance;refine aeU (afQ (k _ _ he) ?_);rw [hc];refine kJ (k _ _ hC) ?_;rw [aho,ho,aiR];exact q
 refine ye (s:={ s with toks:=s.toks+1 }) lk ?_;unfold Builtin.«object.__setattr__»;refine afR rfl ?_;dsimp only;refine aeU (hov _ _ _ _ rfl ?_);unfold Builtin.ObjectAttr.attrName;refine aeU (ae3 (aeU (afQ he ?_)));rw [hc];refine aeU (PySem.W.Looks.here (PySem.W.looks_findIn (M:=model prog w) X hn) ?_);refine aeU (ae3 ?_);unfold Builtin.ObjectAttr.storeInOwnDict ownStreamTells;refine aeU (ae3 ?_);refine afR rfl ?_;unfold Builtin.ObjectAttr.ownDictForStores instanceDict;refine aeU (aeU (aif he ?_));rw [hc];dsimp only;unfold classData;refine aeU (aeU (wpAny_load hC (ae3 ?_)));refine afR rfl ?_;rw [hd];dsimp only;refine afR rfl ?_;obtain⟨h2,e2,kp,g2,n2⟩:=xk he hf;obtain⟨vs,hf⟩:=hf;rw [hf];dsimp only;refine aeU (wpAny_alloc ?_);have he1:(s.heap.push { cls:=Value.type "dict",data:=Data.dict #[] }).get? e=some oe:=ae0 _ he;refine aeU (wpAny_update he1 ?_);dsimp only;rw [← e2];clear e2 he1;unfold dictMade;refine ae3 ?_;dsimp only;unfold Builtin.ObjectAttr.storeInDict Builtin.ObjectAttr.newKeyGuard;refine aeU (ae3 (aeU ?_));refine wpAny_nsSet1 (s:={ s with heap:=h2,toks:=s.toks+1 }) n2 fun h' hn2 hs2=>?_;obtain⟨oD,esD,epD,hoD,hdD,hcD⟩:=hn2.count (PySem.Within.cons name v (ns:=[]) (fun y hy=>absurd rfl hy));refine aeU (wpAny_lookBehind hoD (by rw [hdD];exact pastItsLine_dict (afC hcD (by show 1<=sizeLine+1;decide))) ?_);refine ae3 (hq h' s.heap.objs.size (ae4 _) (fun b o ne g=>?_) ?_ hn2)
 ·rw [hs2.2 b (afq (afb g))];exact kp b o ne g
 ·rw [hs2.2 e (afq (afb he))];exact g2
end
def ur (env:Env):List (Str×NameKind)->List (Str×Addr)->List (Str×Addr)
 | [],cs=>cs
 | (n,k)::r,cs=>ur env r (if k=.free then (n,(env.cells.lookup n).getD 0)::cs else cs)
theorem zr {env:Env}:∀ (ns:List (Str×NameKind)) (cs:List (Str×Addr)),(∀ x∈ns,x.2=.free->∃ c,env.cells.lookup x.1=some c) →
 (forIn (m:=Sem) ns cs fun (x:Str×NameKind) (r:List (Str×Addr))=>(if (x.2 == .free)=true then (do let a ← cellOf env x.1;pure (ForInStep.yield ((x.1,a)::r))) else pure (ForInStep.yield r)))=pure (ur env ns cs)
 | [],cs,_=>by simp [ur]
 | (n,k)::r,cs,h=>by
  have ih:=fun cs=>zr r cs fun x hx=>h x (aeW _ hx);rw [aiQ];by_cases hk:k=.free
  ·subst hk;obtain⟨c,hc⟩:=h (n,.free) aeX rfl;have e1:cellOf env n=pure c:=by unfold cellOf;rw [hc]
   have hb:(NameKind.free == NameKind.free)=true:=rfl;simp only [hb,aiO,e1,pure_bind,ur,hc,Option.getD_some];exact ih _
  ·have hb:(k == NameKind.free)=false:=by simpa using hk
   simp only [hb,af8,ahU,pure_bind,ur,if_neg hk];exact ih _
theorem vA {env:Env}:∀ (ns:List (Str×NameKind)) (cs:List (Str×Addr)) (x:Str) (c:Addr),(∀ x∈ns,x.2=.free->∃ c,env.cells.lookup x.1=some c)->(ur env ns cs).lookup x=some c->cs.lookup x=some c\/env.cells.lookup x=some c
 | [],cs,x,c,_,e=>.inl e
 | (n,k)::r,cs,x,c,h,e=>by
  have ih:=vA r (if k=.free then (n,(env.cells.lookup n).getD 0)::cs else cs) x c (fun x hx=>h x (aeW _ hx)) e;rcases ih with ih | ih
  ·by_cases hk:k=.free
   ·subst hk;rw [if_pos rfl] at ih;obtain⟨d,hd⟩:=h (n,.free) aeX rfl;have hd':env.cells.lookup n=some d:=hd;rw [hd'] at ih;rw [ahM] at ih;cases hx:x == n with
    | true =>
     rw [hx] at ih;have:x=n:=by simpa using hx
     subst this;right;rw [hd'];exact ih
    | false =>
     rw [hx] at ih;exact .inl ih
   ·rw [if_neg hk] at ih;exact .inl ih
  ·exact .inr ih
theorem se {env:Env}:∀ (ns:List (Str×NameKind)) (cs:List (Str×Addr)) (x:Str),(∃ c,cs.lookup x=some c)->∃ c,(ur env ns cs).lookup x=some c
 | [],_,_,h=>h
 | (n,k)::r,cs,x,h=>by
  refine se r _ x ?_;split
  ·rw [ahM];split
   ·exact⟨_,rfl⟩
   ·exact h
  ·exact h
theorem qE {env:Env}:∀ (ns:List (Str×NameKind)) (cs:List (Str×Addr)) (x:Str),(x,NameKind.free)∈ns->∃ c,(ur env ns cs).lookup x=some c
 | [],_,_,h=>nomatch h
 | (n,k)::r,cs,x,h=>by
  rcases aeY.mp h with e | h
  ·cases e;refine se r _ _ ⟨(env.cells.lookup n).getD 0,?_⟩;rw [if_pos rfl,ahM,aiB]
  ·exact qE r _ x h
theorem pN {scope:Scope}{env:Env}(h:∀ x∈scope.names,x.2=.free->∃ c,env.cells.lookup x.1=some c):closureFor scope env=pure (ur env scope.names []):=by
 have e:=zr scope.names [] h;unfold closureFor;simp only [] at e ⊢;rw [e]
 rfl
theorem oo {scope:Scope}{env:Env}{x:Str}{k:NameKind}:(relabel scope env).names.lookup x=some k->∃ k',(x,k')∈scope.names/\(k=k'\/(k'=.free/\k=.cell)):=by
 intro h;have all:∀ (ns:List (Str×NameKind)),(ns.map fun (n,k)=>if (k == NameKind.free && env.scope.kind == .function && env.kindOf n == some .cell) then (n,NameKind.cell) else (n,k)).lookup x=some k->∃ k',(x,k')∈ns/\(k=k'\/(k'=.free/\k=.cell)):=by
  intro ns
  induction ns with
  | nil=>intro h;simp at h
  | cons y r ih =>
   obtain⟨n,k'⟩:=y;intro h;rw [afl,ahM] at h;by_cases hc:(k' == NameKind.free && env.scope.kind == .function && env.kindOf n == some .cell)=true
   ·simp only [hc,aiO] at h;cases hx:x == n with
    | true =>
     rw [hx] at h;have e:x=n:=by simpa using hx
     subst e;have hk:k'=.free:=by
      simp only [afx] at hc;simpa using hc.1.1
     exact⟨k',aeX,.inr ⟨hk,(afP h).symm⟩⟩
    | false =>
     rw [hx] at h;obtain⟨k2,h1,h2⟩:=ih h;exact⟨k2,aeW _ h1,h2⟩
   ·simp only [hc,af8,ahU] at h;cases hx:x == n with
    | true =>
     rw [hx] at h;have e:x=n:=by simpa using hx
     subst e;exact⟨k',aeX,.inl (afP h).symm⟩
    | false =>
     rw [hx] at h;obtain⟨k2,h1,h2⟩:=ih h;exact⟨k2,aeW _ h1,h2⟩
 exact all scope.names h
def Cx.comp (X:Cx)(scope:Scope)(N':List Str)(C:Addr)(fp:List Addr)(s₀:Shared)(H₀:Hp):Cx :=
 { X with N:=N',s₀:=s₀,H₀:=H₀,env:=compEnvC scope (ur X.env scope.names []) C X.env,outer:=X.stack,stack:=X.stack,ex:=fp,fn:=fun _=>false,pn:=[],xe:=fun _ _=>False }
structure CompScope (X:Cx)(scope:Scope):Prop where
 kind:scope.kind=.function
 nocell:∀ x∈scope.names,x.2≠.cell
 loc:∀ x∈scope.names,x.2=.local->scope.names.lookup x.1=some .local
 free:∀ x∈scope.names,x.2=.free->X.env.kindOf x.1=some .cell
section
variable {X:Cx}{pins:List (Addr×Obj)}{σ:St}{H:Hp}{s:Shared}{scope:Scope}{N':List Str}{fp:List Addr}
theorem CompScope.cells (S:CompScope X scope)(ok:X.Ok):∀ x∈scope.names,x.2=.free->∃ c,X.env.cells.lookup x.1=some c:=fun x hx hk=>ok.has x.1 (.inl (S.free x hx hk))
theorem CompScope.sub (S:CompScope X scope)(ok:X.Ok){x:Str}{c:Addr}(e:(ur X.env scope.names []).lookup x=some c):X.env.cells.lookup x=some c:=by
 rcases vA scope.names [] x c (S.cells ok) e with h | h
 ·cases h
 ·exact h
theorem CompScope.ok (S:CompScope X scope)(I:Inv X pins σ H s)(hf:∀ b∈fp,sg X pins H b)(ho:∀ b∈fp,b < s.heap.objs.size):(X.comp scope N' s.heap.objs.size fp s H).Ok where
 mod:=I.ok.mod
 kind:=S.kind
 glob:=I.ok.glob
 blt:=I.ok.blt
 above:=ae4 _
 inj:=fun x y c e1 e2=>I.ok.inj x y c (S.sub I.ok e1) (S.sub I.ok e2)
 has:=fun x hx=>by
  have hx':(relabel scope X.env).names.lookup x=some .cell\/(relabel scope X.env).names.lookup x=some .free:=hx;have fr:(x,NameKind.free)∈scope.names:=by
   rcases hx' with h | h
   ·obtain⟨k',h1,h2⟩:=oo h;rcases h2 with h2 | ⟨h2,_⟩
    ·subst h2;exact absurd rfl (S.nocell _ h1)
    ·subst h2;exact h1
   ·obtain⟨k',h1,h2⟩:=oo h;rcases h2 with h2 | ⟨h2,h3⟩
    ·subst h2;exact h1
    ·cases h3
  exact qE scope.names [] x fr
 cab:=fun x c h _=>by cases h
 hd:=I.ok.hd
 frames:=I.ok.frames
 stk:=.inl rfl
 exf:=fun b hb=>⟨afq (ho b hb),fun x c e=>(hf b hb).2.2.2.2.1 x c (S.sub I.ok e)⟩
 bs:=I.bs
 bsz:=afC I.ok.bsz I.sz
 noex:=fun b o e hb=>by
  rcases (hf b hb).2.2.2.1 with h | h
  ·exact I.ok.noex b o e h
  ·exact absurd (ae9 (afb e) (afC I.ok.bsz h)) (agu _)
 exfs:=fun b hb hs=>by
  rcases aeY.mp (I.stkSub b hs) with h | h
  ·exact (hf b hb).2.1 h
  ·exact (hf b hb).2.2.1 h
 funs:=I.stack
 frf:=I.stkFree
def ko (nl:Nat)(ix:List Nat)(σ:St):St:=List.replicate nl none++ix.map fun j=>(σ[j]?).join
structure adM (X:Cx)(scope:Scope)(N':List Str)(nl:Nat)(ix:List Nat):Prop where
 len:N'.length=nl+ix.length
 at':∀ (k j:Nat),ix[k]? = some j->∃ x,X.N[j]? = some x/\N'[nl+k]? = some x/\X.env.kindOf x=some .cell/\(relabel scope X.env).names.lookup x=some .cell/\(x,NameKind.free)∈scope.names
theorem vC {nl:Nat}{ix:List Nat}{h1:Heap}{tk:Nat}(S:CompScope X scope)(Cp:adM X scope N' nl ix)(I:Inv X pins σ H s)(hf:∀ b∈fp,sg X pins H b)(ho:∀ b∈fp,b < s.heap.objs.size)
 (hn:h1.Ns s.heap.objs.size (fun _=>none))(hk:∀ b o,s.heap.get? b=some o->h1.get? b=some o):Inv (X.comp scope N' s.heap.objs.size fp s H) [] (ko nl ix σ) H { s with heap:=h1,toks:=tk }:=by
 have ok:=S.ok (N':=N') I hf ho;refine⟨ok,rfl,I.bare,Un.kept hk,⟨_,hn,fun i x v e1 e2 e3=>?_⟩,fun x c e=>?_,I.hok.fresh (ae4 _),fun x c e=>I.freeC x c (S.sub I.ok e),fun p hp=>by simp [Cx.comp] at hp,I.hok.kept hk,?_⟩
 ·unfold ko at e2;rw [List.getElem?_append] at e2;split at e2
  ·rw [ahm] at e2;split at e2<;>simp at e2
  ·rename_i hi;rw [aft] at hi e2;rw [afg] at e2;cases ej:ix[i - nl]? with
   | none=>rw [ej] at e2;simp at e2
   | some j =>
    rw [ej] at e2;have e2':(σ[j]?).join=some v:=by simpa using e2
    have e2'':σ[j]? = some (some v):=by
     cases q:σ[j]? with
     | none=>rw [q] at e2';simp at e2'
     | some z=>rw [q] at e2';simp at e2';rw [e2']
    obtain⟨x',a1,a2,a3,a4,a5⟩:=Cp.at' _ _ ej;have hi2:nl+(i - nl)=i:=by lia
    rw [hi2] at a2;have e1':N'[i]? = some x:=e1;rw [a2] at e1';cases e1';obtain⟨m,hm,hl⟩:=I.loc;obtain⟨u,r,l⟩:=hl j x v a1 e2'' (.inr (.inl a3));refine⟨u,r,?_⟩;rcases l with ⟨k,_⟩ | ⟨_,c,ec,z⟩
    ·rw [k] at a3;cases a3
    ·obtain⟨c',hc'⟩:=qE (env:=X.env) scope.names [] x a5;have ec':=S.sub I.ok hc';rw [ec] at ec';cases ec';obtain⟨o,ho',hd⟩:=z;exact .inr ⟨.inl a4,c,hc',o,hk _ _ ho',hd⟩
 ·obtain⟨v,o,ho',hd⟩:=I.cell x c (S.sub I.ok e);exact⟨v,o,hk _ _ ho',hd⟩
 ·show (ko nl ix σ).length=N'.length;unfold ko;rw [aeV,aft,aeT,Cp.len]
theorem rV {H':Hp}{σ':St}{pins':List (Addr×Obj)}{s':Shared}{h':Heap}(I:Inv X pins σ H s)(hf:∀ b∈fp,sg X pins H b)
 (I':Inv (X.comp scope N' s.heap.objs.size fp s H) pins' σ' H' s')(hs:Heap.SameBut s.heap.objs.size s'.heap h'):Inv X pins σ H' { s' with heap:=h' }:=by
 have lo:∀ b o,s.heap.get? b=some o->b≠s.heap.objs.size:=fun b o e=>afq (afb e);have B:=I'.base;refine I.call' (ch:=fp) (show s'.os=s.os from I'.os) ⟨fun b o e n hb hx=>?_,fun b o e n hb hx=>?_,fun b o e n hx=>B.free b o e n hx,fun b o e hx=>?_,B.tups,B.frzs,B.tbls⟩ (fun b u e=>?_) I'.bare fun b hb=>⟨(hf b hb).2.2.2.1,(hf b hb).2.1,(hf b hb).2.2.2.2.1,(hf b hb).2.2.2.2.2⟩
 ·exact (hs.2 b (lo b o e)).trans (B.keep b o e n hb hx)
 ·obtain⟨sl,q⟩:=B.slot b o e n hb hx;exact⟨sl,(hs.2 b (lo b o e)).trans q⟩
 ·obtain⟨o',q⟩:=B.there b o e hx;exact⟨o',(hs.2 b (lo b o e)).trans q⟩
 ·have nl:H' s.heap.objs.size=none:=I'.free;refine (I'.hok b u e).stay (fun c v hc q=>(hs.2 c ?_).trans q) (fun _ q=>q) fun _ _ q=>q;rintro rfl;rcases hc with z | z
  ·rw [← z,nl] at e;cases e
  ·rw [nl] at z;cases z
end
def PIf (X:Cx)(ifs:List Expr)(t:TT):Prop :=
 ∀ (pins:List (Addr×Obj)) (s:Shared) (σ:St) (H:Hp) (Q:Bool->Hp->Prop),Inv X pins σ H s->t σ H Q →
  wpAny (model X.prog X.w) X.A (forIn ifs true fun c r=>if r=true then do let ok ← isTrue c X.env (eval c X.env);pure (ForInStep.yield ok) else pure (ForInStep.yield r)) (TP X pins σ Q) X.xe s
def acE:TT:=fun _ H Q=>Q true H
theorem dA {X:Cx}:PIf X [] acE:=fun _ _ _ H _ I h=>wpAny_tests_nil ⟨H,I,h⟩
theorem yT {X:Cx}{c:Expr}{t:TT}(h:PT X c t):PIf X [c] t:=fun pins s σ H Q I hw=>wpAny_tests_one (h pins s σ H Q I hw)
section
variable {prog:Program}{w:World}{A:Around}{R:Result->Shared->Prop}{s:Shared}
theorem pI {elt target iter:Expr}{ifs:List Expr}{scope:Scope}{pos:Pos}{it acc:Value}{env:Env}(I:Nat->Shared->Prop)
 (turn:∀ n s,I n s->wpAny (model prog w) A (pyNext it) (fun r s₁=>match r with
  | none=>R (.ok .next) s₁
  | some v=>wpAny (model prog w) A (letOwnedTupleGo target it v) (fun _ s₁'=>wpAny (model prog w) A (assign target env v) (fun _ s₂ =>
   wpAny (model prog w) A (forIn ifs true fun c r=>if r=true then do let ok ← isTrue c env (eval c env);pure (ForInStep.yield ok) else pure (ForInStep.yield r)) (fun ok s₃ =>
    if ok=true then wpAny (model prog w) A (eval elt env) (fun x s₄ =>
     wpAny (model prog w) A (call (.builtin "list.append") [acc,x]) (fun _ s₅=>∃ m,m < n/\I m s₅) (fun _ _=>False) s₄) (fun _ _=>False) s₃
    else ∃ m,m < n/\I m s₃) (fun _ _=>False) s₂) (fun _ _=>False) s₁') (fun _ _=>False) s₁) (fun _ _=>False) s)
 (n:Nat)(h:I n s) :
 codeAny (model prog w) A (.compLoop (.ListComp elt [⟨target,iter,ifs,0⟩] scope pos) 0 it acc env) R s:=by
 have no:∀ {E:Value->Shared->Prop} (x:Value) (s:Shared),False->E x s:=fun _ _ z=>z.elim;refine codeAny_loop rfl I (fun n s hI=>?_) n h;show wpAny _ A ((compTurn (.ListComp elt [⟨target,iter,ifs,0⟩] scope pos) 0 it acc env).onRaise (fun x=>do noteFrame x env;theTreesLotGoes x)) _ _ s;refine wpAny_noted ?_;rw [compTurn_list];refine aeU (ahj (aeU (af6 (turn n s hI) (fun r s₁ h₁=>?_) no)));cases r with
 | none=>exact ae3 h₁
 | some v =>
  refine aeU (af6 h₁ (fun _ s₁' h₁'=>aeU (af6 h₁' (fun _ s₂ h₂=>aeU (af6 h₂ (fun ok s₃ h₃=>?_) no)) no)) no);cases ok with
  | false=>exact ae3 ⟨rfl,h₃⟩
  | true =>
   exact aeU (aeU (af6 h₃ (fun x s₄ h₄=>aeU (af6 h₄ (fun _ s₅ h₅=>ae3 (ae3 ⟨rfl,h₅⟩)) no)) no))
end
def rh (nl:Nat)(ix:List Nat)(wi:TI)(g:TG)(tf:TT)(te:TE):TE:=fun σ H Q=>wi σ H fun J H1=>∀ D,H1 D=none->∃ W:Nat->Nat->List V->Hp->Prop,(∃ m,W 0 m [] (upd H1 D (.lst []))) ∧
 ∀ i m ys H2,W i m ys H2->H2 D=some (.lst ys)/\((J.stop i H2/\Q (.ref D) H2)\/(J.go i H2/\∀ x H3,J.yld i H2 x H3->g x (ko nl ix σ) H3 fun σ4 H4=>(σ4.length=(ko nl ix σ).length/\σ4.drop nl=ix.map fun j=>(σ[j]?).join)/\tf σ4 H4 fun b H5 =>
  if b=true then te σ4 H5 fun y H6=>H6 D=some (.lst ys)/\ys.length < sizeLine/\∃ m',m' < m/\W (i+1) m' (ys++[y]) (upd H6 D (.lst (ys++[y]))) else ∃ m',m' < m/\W (i+1) m' ys H5))
theorem sx {X:Cx}{pins:List (Addr×Obj)}{σ σ4:St}{H:Hp}{s:Shared}{nl:Nat}{ix:List Nat}(I:Inv X pins σ4 H s)(hl:σ4.length=(ko nl ix σ).length)(hd:σ4.drop nl=ix.map fun j=>(σ[j]?).join):Inv X pins (ko nl ix σ) H s:=by
 refine I.weak hl.symm fun i v e=>?_;unfold ko at e;rw [List.getElem?_append] at e;split at e
 ·rw [ahm] at e;split at e<;>simp at e
 ·rename_i hi;rw [aft] at hi e;rw [← hd,aia] at e;have hi2:nl+(i - nl)=i:=by lia
  rw [hi2] at e;exact e
section
variable {X:Cx}
theorem mx {elt tg iter:Expr}{ifs:List Expr}{scope:Scope}{pos:Pos}{N':List Str}{nl:Nat}{ix:List Nat}{wi:TI}{g:TG}{tf:TT}{te:TE}(hc:X.calm=true)(S:CompScope X scope)(Cp:adM X scope N' nl ix)(hi:PI X tg iter wi)
 (hg:∀ C fp s₀ H₀,PG (X.comp scope N' C fp s₀ H₀) tg g)(hf:∀ C fp s₀ H₀,PIf (X.comp scope N' C fp s₀ H₀) ifs tf)(he:∀ C fp s₀ H₀,PE (X.comp scope N' C fp s₀ H₀) elt te)
 (hs:∀ x,foldedSetIterable iter X.env x=pure x:=by intro _;rfl):PE X (.ListComp elt [⟨tg,iter,ifs,0⟩] scope pos) (rh nl ix wi g tf te):=by
 intro pins s σ H Q I h;rw [eval_ListComp];refine wpAny_comprehension_free (use:=none) (cl:=ur X.env scope.names []) rfl hs (pN (S.cells I.ok)) S.kind S.loc ?_;refine thn (hi pins s σ H _ I h) fun v s1 h1=>thn h1 fun itv s2 h2=>?_;obtain⟨it,fp,tn,J,H2,rfl,I2,T,st2,f2,h2⟩:=h2;obtain⟨W,⟨m0,w0⟩,turn⟩:=h2 s2.heap.objs.size I2.fresh;refine wpAny_newObj_type (wpAny_newFunctionEnv S.nocell (by intro y hy;simp at hy) (fun h₁ hns₁ hsb₁=>?_) S.kind);dsimp only at hns₁ hsb₁ ⊢;have fpo:∀ b∈fp,b < s2.heap.objs.size:=fun b hb=>by
  obtain⟨o,e,_⟩:=T.obj 0 _ st2 b hb;exact afb e
 have I3:Inv X pins σ (upd H2 s2.heap.objs.size (.lst [])) { s2 with heap:=s2.heap.push { cls:=.type "list",data:=.seq ([]:List Value).toArray },toks:=s2.toks }:=I2.lnew .nil (afh _);have hD:(upd H2 s2.heap.objs.size (.lst [])) s2.heap.objs.size=some (.lst []):=ag;have f3:∀ b∈fp,sg X pins (upd H2 s2.heap.objs.size (.lst [])) b:=fun b hb=>by
  refine⟨?_,(f2 b hb).2⟩;rw [ax (afq (fpo b hb))];exact (f2 b hb).1
 generalize hS3:s2.heap.push { cls:=.type "list",dict:=none,data:=.seq ([]:List Value).toArray }=g3 at hns₁ hsb₁ I3 ⊢;have sz3:g3.objs.size=s2.heap.objs.size+1:=by rw [← hS3,ahD]
 have fpo3:∀ b∈fp,b < ({ s2 with heap:=g3,toks:=s2.toks }:Shared).heap.objs.size:=fun b hb=>by
  show b < g3.objs.size;rw [sz3];exact Nat.lt_succ_of_lt (fpo b hb)
 have old:∀ b o,g3.get? b=some o->h₁.get? b=some o:=fun b o e=>hsb₁.extBut b o (afq (afb e)) (ae0 _ e);have I4:=vC (tk:=s2.toks+([]:List (Str×Value)).length) S Cp I3 f3 fpo3 hns₁ old;generalize hX:X.comp scope N' g3.objs.size fp { s2 with heap:=g3,toks:=s2.toks } (upd H2 s2.heap.objs.size (.lst []))=X' at *;have hPr:X'.prog=X.prog:=by rw [← hX];rfl
 have hWr:X'.w=X.w:=by rw [← hX];rfl
 have hKr:X'.K=X.K:=by rw [← hX];rfl
 have hAr:X'.A=X.A:=by rw [← hX];rfl
 have hCa:X'.calm=true:=by rw [← hX];exact hc
 have hXe:X'.xe=fun _ _=>False:=by rw [← hX];rfl
 have hEx:X'.ex=fp:=by rw [← hX];rfl
 have hPn:X'.pn=[]:=by rw [← hX];rfl
 have hLo:X'.env.locals=g3.objs.size:=by rw [← hX];rfl
 have hEn:X'.env=compEnvC scope (ur X.env scope.names []) g3.objs.size X.env:=by rw [← hX];rfl
 have hg':=hg g3.objs.size fp { s2 with heap:=g3,toks:=s2.toks } (upd H2 s2.heap.objs.size (.lst []));have hf':=hf g3.objs.size fp { s2 with heap:=g3,toks:=s2.toks } (upd H2 s2.heap.objs.size (.lst []));have he':=he g3.objs.size fp { s2 with heap:=g3,toks:=s2.toks } (upd H2 s2.heap.objs.size (.lst []));rw [hX] at hg' hf' he';have I4':Inv X' [] (ko nl ix σ) (upd H2 s2.heap.objs.size (.lst [])) { s2 with heap:=h₁,toks:=s2.toks+([]:List (Str×Value)).length }:=I4;have back:∀ {H':Hp} {σ':St} {pins':List (Addr×Obj)} {s':Shared} {h':Heap},Inv X' pins' σ' H' s'->Heap.SameBut g3.objs.size s'.heap h'->Inv X pins σ H' { s' with heap:=h' }:=fun I' sb=>by
  subst hX;exact rV I3 f3 I' sb
 have stat:∀ {H':Hp},(∀ b∈fp,H' b=none)->∀ b∈fp,sg X' [] H' b:=fun hn b hb=>by
  refine⟨hn b hb,?_,?_,.inl (by rw [hEx];exact hb),?_,fun p hp=>by rw [hPn] at hp;cases hp⟩
  ·rw [hLo];exact afq (fpo3 b hb)
  ·exact I4'.ok.exfs b (by rw [hEx];exact hb)
  ·exact (I4'.ok.exf b (by rw [hEx];exact hb)).2
 have loop:codeAny (model X.prog X.w) X.A (.compLoop (.ListComp elt [⟨tg,iter,ifs,0⟩] scope pos) 0 (.ref it) (.ref s2.heap.objs.size) X'.env)
  (compPost (model X.prog X.w) X.A X.xe none (EP X pins σ Q) (.ref s2.heap.objs.size) g3.objs.size) { s2 with heap:=h₁,toks:=s2.toks+([]:List (Str×Value)).length }:=by
  rw [← hPr,← hWr,← hAr];refine pI (fun n s'=>∃ i ys H',Inv X' [] (ko nl ix σ) H' s'/\tn i s'.heap/\(∀ b∈fp,H' b=none)/\W i n ys H') ?_ m0
   ⟨0,[],_,I4',T.keep _ _ _ st2 (fun b hb o e=>old b o (by rw [← hS3];exact ae0 _ e)),fun b hb=>(f3 b hb).1,w0⟩
  rintro n s5 ⟨i,ys,H5,I5,st5,fr5,w5⟩;obtain⟨hD5,alt⟩:=turn i n ys H5 w5;rcases alt with ⟨stop,qn⟩ | ⟨go,step⟩
  ·rw [hPr,hWr];refine thn (T.done X' hPr hWr hKr hCa i [] s5 _ H5 _ I5 (stat fr5) st5 stop) fun r s6 ⟨hr,I6⟩=>?_;subst hr;obtain⟨m,hn,_⟩:=I6.loc;rw [hLo] at hn;exact⟨m,hn,fun h' sb=>⟨.ref s2.heap.objs.size,H5,back I6 sb,rfl,qn⟩⟩
  ·have it5:=T.item X' hPr hWr hKr hCa i [] s5 _ H5 (fun _ _=>False) I5 (stat fr5) st5 go;rw [← hPr,← hWr] at it5;refine thn it5 fun r s6 ⟨u,hr,h6⟩=>?_;subst hr;refine thn h6 fun _ s7 ⟨x,H7,I7,r7,y7,st7,fr7⟩=>?_;have I7':=I7.pinned (stat fr7) (T.obj _ _ st7);have g7:=hg' _ s7 _ H7 x u _ I7' r7 (step x H7 y7);rw [hXe] at g7;refine thn g7 fun _ s8 ⟨σ8,H8,I8,⟨hl8,hd8⟩,q8⟩=>?_;have f8:=hf' _ s8 σ8 H8 _ I8 q8;rw [hXe] at f8;refine thn f8 fun ok s9 ⟨H9,I9,q9⟩=>?_;have again:∀ {H10:Hp} {s10:Shared} {ys':List V},Inv X' ([]++pD fp s7.heap) σ8 H10 s10->(∃ m',m' < n/\W (i+1) m' ys' H10)->∃ m,m < n/\∃ i ys H',Inv X' [] (ko nl ix σ) H' s10/\tn i s10.heap/\(∀ b∈fp,H' b=none)/\W i m ys H':=fun {H10 s10 ys'} I10 ⟨m',hm,w'⟩=>by
    refine⟨m',hm,i+1,ys',H10,sx I10.unpinned hl8 hd8,T.keep _ _ _ st7 fun b hb o e=>(I10.pin (b,o) (ae8 _ (ae8 _ (fo hb e)))).1,fun b hb=>?_,w'⟩;obtain⟨o,e,d⟩:=T.obj _ _ st7 b hb;exact (I10.pin (b,o) (ae8 _ (ae8 _ (fo hb e)))).2.1
   cases ok with
   | false =>
    rw [if_neg ae2] at q9 ⊢;exact again I9 q9
   | true =>
    rw [if_pos rfl] at q9 ⊢;have e9:=he' _ s9 σ8 H9 _ I9 q9;rw [hXe] at e9;refine thn e9 fun xv s10 ⟨y,H10,I10,r10,hD10,hz,mw⟩=>?_;have a10:=dw (X:=X') _ s10 σ8 H10 (.ref s2.heap.objs.size) [y] _ [xv] (fun _ H'=>H'=upd H10 s2.heap.objs.size (.lst (ys++[y]))) I10 rfl (.cons r10 .nil) ⟨_,ys,y,rfl,rfl,hD10,hz,rfl⟩;rw [hXe] at a10;refine thn a10 fun _ s11 ⟨_,H11,I11,_,e11⟩=>?_;subst e11;exact again I11 mw
 rw [hEn] at loop;exact codeAny_compStart_list loop (T.self _ 0 _ _ _ (T.keep _ _ _ st2 (fun b hb o e=>old b o (by rw [← hS3];exact ae0 _ e))) loop)
theorem ft:∀ {ss:List Str} {us:List Value},Vals (ss.map V.str) us->StrsAre us ss
 | [],_,.nil=>.nil
 | _::_,_,.cons r t=>by
  obtain⟨k,rfl⟩:=r;exact .cons _ k (ft t)
theorem lx:∀ {ss:List Str} {us:List Value},StrsAre us ss->Vals (ss.map V.str) us
 | _,_,.nil=>.nil
 | _,_,.cons y t h=>.cons ⟨t,rfl⟩ (lx h)
theorem vx:∀ bs:List Bool,(List.range bs.length).all (fun i=>bs.getD i false)=bs.all id
 | []=>rfl
 | b::r=>by
  rw [afn,List.range_succ_eq_map,ag5,aj6,ag5,← vx r]
  rfl
theorem jz (hc:X.calm=true):iw X (.builtin "all") (fun xs H Q=>∃ (p:Addr) (bs:List Bool),xs=[.ref p]/\SqL X.K H p (bs.map V.bl)/\Q (.bl (bs.all id)) H):=by
 intro pins s σ H xs us Q I r h;obtain⟨p,bs,rfl,hq,q⟩:=h;obtain⟨u,rfl,rx⟩:=kZ r;cases rx;obtain⟨its,rv,pl,hz⟩:=I.list hq;have hh:X.A.in1.handled=none:=I.ok.hd hc;have hlt:p < s.heap.objs.size:=by obtain⟨o,e,_⟩:=pl.isList;exact afb e
 have hlen:=rv.length;rw [aeT] at hlen;refine call_all_walk (aij pl.isList ?_);refine⟨s.heap.objs.size,_,_,_,_,_,fun i=>bs.getD i false,rfl,Walks.list hh s.heap.objs.size p (afq hlt) its.toArray,⟨⟨_,afo _ rfl,rfl,rfl⟩,pl.isList.push _⟩,fun i v s' Q' E' hv hq'=>?_,fun h' tk hk=>?_⟩
 ·have hv':its[i]? = some v:=by simpa using hv
  have hi:i < its.length:=(aeZ.mp hv').1;have hb:bs[i]? = some (bs.getD i false):=by
   rw [List.getD_eq_getElem?_getD];rw [aeS (by lia)]
   rfl
  obtain⟨u,hu,ru⟩:=rv.get (i:=i) (x:=.bl (bs.getD i false)) (by rw [afg,hb];rfl);rw [hv'] at hu;cases hu;cases ru;exact afT hq'
 ·have e:(List.range its.toArray.size).all (fun i=>bs.getD i false)=bs.all id:=by
   rw [ae7,← hlen,vx]
  rw [e];refine⟨.bl _,H,?_,rfl,q⟩;refine (I.kept (t':=s.toks) (h':=s.heap.push { cls:=.type "list_iterator",data:=.fields #[.ref p,.int 0 0] }) fun b o e=>ae0 _ e).turned (it:=s.heap.objs.size) (t':=tk) (h':=h') (fun b o hb e=>hk b o (by simpa using hb) e) I.fresh (aj3 I.lt) (.inr I.sz) (fun x c e z=>?_) fun p' hp z=>?_
  ·obtain⟨v,q⟩:=I.cell x c e;exact absurd (z▸q.lt) (agu _)
  ·exact absurd (z▸afb (I.pin p' hp).1) (agu _)
theorem hG:iw X (.builtin "sorted") (fun xs H Q=>∃ (p:Addr) (ss:List Str),xs=[.ref p]/\SqL X.K H p (ss.map V.str)/\ss.length < 64/\∀ (l:Addr) (ss':List Str),H l=none->ss'.Perm ss->sortedS ss'=true->Q (.ref l) (upd H l (.lst (ss'.map V.str)))):=by
 intro pins s σ H xs us Q I r h;obtain⟨p,ss,rfl,hq,hl,q⟩:=h;obtain⟨u,rfl,rx⟩:=kZ r;cases rx;obtain⟨its,rv,pl,hz⟩:=I.list hq;have hlen:=rv.length;rw [aeT] at hlen;refine sorted_strs pl.isList (ft rv) (by lia) fun out ss' a1 a2 a3=>?_;obtain⟨e,he⟩:=sortedAll_at s.heap its out;have hlen':ss'.length=ss.length:=a2.length_eq;refine⟨.ref (s.heap.objs.size+1),_,I.laid (t':=s.toks) (o:=.lst (ss'.map V.str)) (fun b o e=>sortedAll_old e) (agK _) ⟨?_,out.toList,e,lx a1,?_⟩,rfl,q _ ss' (I.hok.fresh (agK _)) a2 a3⟩
 ·rw [aeT];exact ag0 (ae9 (by lia:ss'.length < 64) (by decide))
 ·simpa using he
def adv:V->List V->Hp->VK->Prop:=fun x vs H Q=>∃ (l:Addr) (ss:List Str) (k:Str),x=.ref l/\vs=[.str k]/\H l=some (.lst (ss.map V.str))/\Q (.int (ss.count k)) H
theorem uq (k:Str):∀ ss:List Str,countIn (.str k) (ss.map PyData.str)=((ss.count k:Nat):Int):=by
 intro ss
 induction ss with
 | nil=>rfl
 | cons y r ih =>
  rw [afl,countIn,ih,List.count_cons];by_cases e:y=k
  ·subst e;have e1:same (.str y) (.str y)=true:=same_refl _;rw [if_pos e1,aiB,if_pos rfl];lia
  ·have e1:¬ same (.str y) (.str k)=true:=by simpa [same] using e
   have e2:(y == k)=false:=by simpa using e
   rw [if_neg e1,e2];simp
theorem vh:MtM X "list.count" adv:=by
 intro pins s σ H x vs v us Q I rx rv h;obtain⟨l,ss,k,rfl,rfl,hH,q⟩:=h;cases rx;obtain⟨u,rfl,t,rfl⟩:=rv.one;obtain⟨its,r,pl,hz⟩:=I.list (aAA hH);refine count_list_strs pl.isList (ft r) ⟨.int (ss.count k),H,I.tok _,⟨s.toks,?_⟩,q⟩;rw [uq]
def adg:V->List V->Hp->VK->Prop:=fun x vs H Q=>∃ (z:Str) (l:Addr) (ss:List Str),x=.str z/\vs=[.ref l]/\SqL X.K H l (ss.map V.str)/\(ss.map (·.length)).sum+ss.length * z.length<=16777216/\Q (.str (Txt.join z ss)) H
theorem fz:MtM X "str.join" (adg (X:=X)):=by
 intro pins s σ H x vs v us Q I rx rv h;obtain⟨z,l,ss,rfl,rfl,hq,hz,q⟩:=h;obtain⟨t,rfl⟩:=rx;obtain⟨u,rfl,ru⟩:=rv.one;cases ru;obtain⟨its,r,pl,_⟩:=I.list hq;exact join_list pl.isList (by simpa using ft r) hz fun t' k=>⟨.str _,H,I.tok _,⟨t',rfl⟩,q⟩
end
mutual
inductive Sees (H:Hp):V->PyData->Prop
 | non:Sees H .non .none
 | bl (b:Bool):Sees H (.bl b) (.bool b)
 | int (i:Int):Sees H (.int i) (.int i)
 | str (x:Str):Sees H (.str x) (.str x)
 | lst {a:Addr} {vs:List V} {ds:List PyData}:H a=some (.lst vs)->SeesAll H vs ds->Sees H (.ref a) (.list ds)
 | tup {a:Addr} {vs:List V} {ds:List PyData}:H a=some (.tup vs)->SeesAll H vs ds->Sees H (.ref a) (.tuple ds)
inductive SeesAll (H:Hp):List V->List PyData->Prop
 | nil:SeesAll H [] []
 | cons {v:V} {vs:List V} {d:PyData} {ds:List PyData}:Sees H v d->SeesAll H vs ds->SeesAll H (v::vs) (d::ds)
end
mutual
theorem Sees.reads {P:Program}{w:World}{H:Hp}{h:Heap}(ok:HOk P w H h):∀ {d:PyData} {v:V} {u:Value},Sees H v d->RelV v u->∃ as,Reads h u d as
 | _,_,_,.non,r=>by cases r;exact⟨_,.none⟩
 | _,_,_,.bl b,r=>by cases r;exact⟨_,.bool b⟩
 | _,_,_,.int i,r=>by obtain⟨t,rfl⟩:=r;exact⟨_,.int i t⟩
 | _,_,_,.str x,r=>by obtain⟨t,rfl⟩:=r;exact⟨_,.str x t⟩
 | _,_,_,.lst e q,r=>by
  cases r;obtain⟨_,its,n,rv,g⟩:=ok _ _ e;obtain⟨as,ra⟩:=SeesAll.reads ok q rv;exact⟨_,.list g rfl rfl (by simpa using ra)⟩
 | _,_,_,.tup e q,r=>by
  cases r;obtain⟨_,its,rv,o,g,hc,n,hd⟩:=ok _ _ e;obtain⟨as,ra⟩:=SeesAll.reads ok q rv;exact⟨_,.tuple g hc hd (by simpa using ra)⟩
theorem SeesAll.reads {P:Program}{w:World}{H:Hp}{h:Heap}(ok:HOk P w H h):∀ {ds:List PyData} {vs:List V} {us:List Value},SeesAll H vs ds->Vals vs us->∃ as,ReadsAll h us ds as
 | _,_,_,.nil,r=>by cases r;exact⟨_,.nil⟩
 | _,_,_,.cons a b,r=>by
  cases r with
  | cons r1 r2 =>
   obtain⟨_,x⟩:=Sees.reads ok a r1;obtain⟨_,y⟩:=SeesAll.reads ok b r2;exact⟨_,.cons x y⟩
end
theorem SeesAll.strs {H:Hp}:∀ ss:List Str,SeesAll H (ss.map V.str) (ss.map PyData.str)
 | []=>.nil
 | s::r=>.cons (.str s) (SeesAll.strs r)
section
variable {X:Cx}
def z5 (A:Around)(neg:Bool):R2:=fun x y H Q=>∃ da db,Sees H x da/\Sees H y db/\da.canLay0=true/\db.canLay0=true/\A.units+min da.depth db.depth < cLine/\Q (.bl (if neg then !PyData.eqv da db else PyData.eqv da db)) H
theorem kQ:OpR X (compareOp .Eq) (z5 X.A false):=by
 intro pins s σ H x y v u Q I rx ry h;obtain⟨da,db,sa,sb,la,lb,hu,q⟩:=h;obtain⟨_,ra⟩:=sa.reads I.hok rx;obtain⟨_,rb⟩:=sb.reads I.hok ry;exact SeqAt.rcAt_reads ra rb la lb hu _ _ _ _ ⟨.bl _,H,I,rfl,q⟩
theorem vj:OpR X (compareOp .NotEq) (z5 X.A true):=by
 intro pins s σ H x y v u Q I rx ry h;obtain⟨da,db,sa,sb,la,lb,hu,q⟩:=h;obtain⟨_,ra⟩:=sa.reads I.hok rx;obtain⟨_,rb⟩:=sb.reads I.hok ry;exact SeqAt.compareNe_reads ra rb la lb hu ⟨.bl _,H,I,rfl,q⟩
def Itn (n:Nat)(val:Nat->V->Prop):It:=⟨fun i _=>i < n,fun i H x H'=>H'=H/\val i x,fun i _=>i=n⟩
theorem pP {P:Program}{w:World}{K:PySem.W.Frag}{x:Str}{p:Pos}{I:Addr}{n:Nat}{Pv:Nat->Value->Prop}{St:Nat->Heap->Prop}{val:Nat->V->Prop}
 (W:∀ A':Around,A'.handled=none->Walks P w A' I [I] [I] n Pv St)(ho:∀ i h,St i h->∃ o,h.get? I=some o/\∀ v,o.data≠.cell v)(hv:∀ i u,Pv i u->∃ v,RelV v u/\val i v)
 (hself:∀ (A:Around) (i:Nat) (s:Shared) (Q:Value->Shared->Prop) (E:Value->Shared->Prop),St i s.heap->Q (.ref I) s->wpAny (model P w) A (pyIter (.ref I)) Q E s) :
 ady P w K (.Name x p) (Itn n val) [I] I St where
 mem:=by simp
 obj:=fun i h st b hb=>by
  have e:b=I:=by simpa using hb
  subst e;exact ho i h st
 keep:=fun i h h' st k=>(W { handled:=none,depth:=0,frames:=none,guards:=none,units:=0 } rfl).frame i h h' st k
 item:=by
  intro X hP hw hK hc i pins s σ H E J hf st hg;subst hP hw hK;obtain⟨f0,f1,f2,f3,f4,f5⟩:=hf I (by simp);refine (W X.A (J.ok.hd hc)).item i s _ _ hg st fun v h' tk hPv st' kk=>?_;obtain⟨y,ry,vy⟩:=hv i v hPv;have J1:Inv X pins σ H { s with heap:=h',toks:=tk }:=J.turned (fun b o hb e=>kk b o (by simpa using hb) e) f0 f1 f3 f4 f5;exact⟨v,rfl,ae3 ⟨y,H,J1,ry,⟨rfl,vy⟩,st',fun b hb=>(hf b hb).1⟩⟩
 done:=by
  intro X hP hw hK hc i pins s σ H E J hf st hg;subst hP hw hK;obtain⟨f0,f1,f2,f3,f4,f5⟩:=hf I (by simp);have e:i=n:=hg;subst e;exact (W X.A (J.ok.hd hc)).done s _ _ st fun h' tk kk=>⟨rfl,J.turned (fun b o hb e=>kk b o (by simpa using hb) e) f0 f1 f3 f4 f5⟩
 self:=hself
theorem nN {h:Heap}{I:Addr}{n:String}{x:Str}{t:Tok}{i:Nat}(st:h.IsStrIter I n x t i):∃ o,h.get? I=some o/\∀ v,o.data≠.cell v:=by
 obtain⟨o,e,_,d⟩:=st;exact⟨o,e,fun v z=>by rw [d] at z;cases z⟩
def ItS (z:Str):It:=Itn z.cps.size fun i v=>∃ c,z.cps[i]? = some c/\v=.str ⟨#[c]⟩
def aey (tl:TE):TI:=fun σ H R=>tl σ H fun x H1=>∃ z,x=.str z/\R (ItS z) H1
theorem vB {z:Str}(i:Nat)(u:Value)(h:SignAt z i u):∃ v,RelV v u/\∃ c,z.cps[i]? = some c/\v=.str ⟨#[c]⟩:=by
 obtain⟨c,t,e,rfl⟩:=h;exact⟨.str ⟨#[c]⟩,⟨t,rfl⟩,c,e,rfl⟩
theorem aaZ {l:Expr}{tl:TE}{x:Str}{p:Pos}(hl:PE X l tl):PI X (.Name x p) l (aey tl):=by
 intro pins s σ H R I h;refine thn (hl pins s σ H _ I h) fun v s1 ⟨y,H1,I1,r1,q1⟩=>?_;obtain⟨z,rfl,q⟩:=q1;obtain⟨t,rfl⟩:=r1;have fin:∀ (o:Obj),Inv X pins σ H1 { s1 with heap:=s1.heap.push o }:=fun o=>I1.kept (t':=s1.toks) fun b o e=>ae0 _ e;have ff:∀ b∈[s1.heap.objs.size],sg X pins H1 b:=fun b hb=>by
  have e:b=s1.heap.objs.size:=by simpa using hb
  subst e;exact I1.fpOk (ae4 _) I1.fresh
 cases ha:z.cps.all (· < 128)
 ·refine wpAny_pyIter_wide ha ⟨s1.heap.objs.size,[s1.heap.objs.size],_,ItS z,H1,rfl,fin _,pP (fun A' hA=>Walks.strWide hA _ z t) (fun i h st=>nN st) vB (fun A i s Q E st h=>wpAny_pyIter_striter_wide st h),⟨_,afo _ rfl,rfl,rfl⟩,ff,q⟩
 ·refine wpAny_pyIter_ascii ha ⟨s1.heap.objs.size,[s1.heap.objs.size],_,ItS z,H1,rfl,fin _,pP (fun A' hA=>Walks.strAscii hA _ z t) (fun i h st=>nN st) vB (fun A i s Q E st h=>wpAny_pyIter_striter_ascii st h),⟨_,afo _ rfl,rfl,rfl⟩,ff,q⟩
def aeA:V->Option Int->Option Int->Hp->VK->Prop:=fun x lo hi H Q=>∃ z:Str,x=.str z/\z.length<=sizeLine/\Q (.str (Txt.slice z lo hi)) H
theorem acH:SlR X aeA:=by
 intro pins s σ H x v vl vu lo hi sl Q I rx hs pl pu h;obtain⟨z,rfl,hz,q⟩:=h;obtain⟨t,rfl⟩:=rx;refine⟨"str",_,PySem.F.slot_str_getitem.lookup,ahg _ _ _,?_⟩;obtain⟨o,ho,hc,hd⟩:=hs;have fin:∀ t' k,EP X pins σ Q (.str (Txt.slice z lo hi) t') { s with toks:=k }:=fun t' k=>⟨.str _,H,I.tok _,⟨t',rfl⟩,q⟩;cases pl with
 | none =>
  cases pu with
  | none=>exact agO (l:=none) (u:=none) (st:=none) ⟨o,ho,hc,hd⟩ rfl (ahp ⟨afC (aiS z _ _) hz,fun t' k=>fin t' k⟩)
  | int j tj=>exact agO (l:=none) (u:=some (j,tj)) (st:=none) ⟨o,ho,hc,hd⟩ rfl (ahp ⟨afC (aiS z _ _) hz,fun t' k=>fin t' k⟩)
 | int i ti =>
  cases pu with
  | none=>exact agO (l:=some (i,ti)) (u:=none) (st:=none) ⟨o,ho,hc,hd⟩ rfl (ahp ⟨afC (aiS z _ _) hz,fun t' k=>fin t' k⟩)
  | int j tj=>exact agO (l:=some (i,ti)) (u:=some (j,tj)) (st:=none) ⟨o,ho,hc,hd⟩ rfl (ahp ⟨afC (aiS z _ _) hz,fun t' k=>fin t' k⟩)
end
def uD (scope outer:Scope):List (Str×NameKind) :=
 scope.names.map fun (n,k)=>if (k == .free && outer.kind == .function && outer.names.lookup n == some .cell) then (n,.cell) else (n,k)
def nF (outer scope:Scope)(N N':List Str)(nl:Nat)(ix:List Nat):Bool :=
 (scope.kind == .function && scope.names.all fun x=>x.2 != .cell && (x.2 != .local || scope.names.lookup x.1 == some .local) && (x.2 != .free || outer.names.lookup x.1 == some .cell)) &&
 (N'.length == nl+ix.length && (List.range ix.length).all fun k=>match ix[k]? with
  | none=>false
  | some j=>match N[j]? with
   | none=>false
   | some x=>N'[nl+k]? == some x && outer.names.lookup x == some .cell && (uD scope outer).lookup x == some .cell && decide ((x,NameKind.free)∈scope.names))
theorem mE {X:Cx}{outer scope:Scope}{N N':List Str}{nl:Nat}{ix:List Nat}(h1:X.env.scope=outer)(h2:X.N=N)(h:nF outer scope N N' nl ix=true):CompScope X scope/\adM X scope N' nl ix:=by
 unfold nF at h;simp only [afx,agf,afj,bne_iff_ne,Bool.or_eq_true,ne_eq,ahC] at h;obtain⟨⟨hk,ha⟩,hl,hb⟩:=h;have kd:∀ x,X.env.kindOf x=outer.names.lookup x:=fun x=>by rw [← h1];rfl
 refine⟨⟨hk,fun x hx=>(ha x hx).1.1,fun x hx e=>?_,fun x hx e=>?_⟩,⟨hl,fun k j e=>?_⟩⟩
 ·rcases (ha x hx).1.2 with z | z
  ·exact absurd e z
  ·exact z
 ·rcases (ha x hx).2 with z | z
  ·exact absurd e z
  ·rw [kd];exact z
 ·have hk':k < ix.length:=(aeZ.mp e).1;have q:=hb k hk';rw [e] at q;simp only at q;cases ex:N[j]? with
  | none=>rw [ex] at q;simp at q
  | some x =>
   rw [ex] at q;simp only [afx,afj,decide_eq_true_eq] at q;obtain⟨⟨⟨q1,q2⟩,q3⟩,q4⟩:=q;refine⟨x,by rw [h2];exact ex,q1,by rw [kd];exact q2,?_,q4⟩;have er:(relabel scope X.env).names=uD scope outer:=by rw [← h1];rfl
   rw [er];exact q3
def Nx (n i:Nat)(p:Prop):Prop:=∃ m',m' < n - i/\m'=n - (i+1)/\i+1<=n/\p
theorem nx {n i:Nat}{p:Prop}(h:i < n)(q:p):Nx n i p:=⟨n - (i+1),by lia,rfl,h,q⟩
def d6 (nl:Nat)(ix:List Nat)(g:TG)(tf:TT)(te:TE)(σ:St)(D:Addr)(ys:List V)(H:Hp)(x:V)(nxt:List V->Hp->Prop):Prop :=
 g x (ko nl ix σ) H fun σ4 H4=>(σ4.length=(ko nl ix σ).length/\σ4.drop nl=ix.map fun j=>(σ[j]?).join)/\tf σ4 H4 fun b H5 =>
  if b=true then te σ4 H5 fun y H6=>H6 D=some (.lst ys)/\ys.length < sizeLine/\nxt (ys++[y]) (upd H6 D (.lst (ys++[y]))) else nxt ys H5
def qV (nl:Nat)(ix:List Nat)(g:TG)(tf:TT)(te:TE)(σ:St)(J:It)(H1:Hp)(D:Addr)(Q:VK):Prop :=
 ∃ W:Nat->Nat->List V->Hp->Prop,(∃ m,W 0 m [] (upd H1 D (.lst []))) ∧
 ∀ i m ys H2,W i m ys H2->H2 D=some (.lst ys)/\((J.stop i H2/\Q (.ref D) H2)\/(J.go i H2/\∀ x H3,J.yld i H2 x H3->d6 nl ix g tf te σ D ys H3 x fun ys' H'=>∃ m',m' < m/\W (i+1) m' ys' H'))
theorem bM (nl:Nat)(ix:List Nat)(wi:TI)(g:TG)(tf:TT)(te:TE)(σ:St)(H:Hp)(Q:VK)(h:wi σ H fun J H1=>∀ D,H1 D=none->qV nl ix g tf te σ J H1 D Q):rh nl ix wi g tf te σ H Q:=h
section
variable {nl:Nat}{ix:List Nat}{g:TG}{tf:TT}{te:TE}{σ:St}{H1:Hp}{D:Addr}{Q:VK}(Pv:Nat->List V->Hp->Prop)
theorem xM {J:It}{n:Nat}(h0:Pv 0 [] (upd H1 D (.lst [])))(hD:∀ i ys H,Pv i ys H->H D=some (.lst ys))(go:∀ i ys H,i < n->Pv i ys H->J.go i H)(stop:∀ ys H,Pv n ys H->J.stop n H)
 (hs:∀ i ys H x H',i < n->Pv i ys H->J.yld i H x H'->d6 nl ix g tf te σ D ys H' x fun ys' H'=>Nx n i (Pv (i+1) ys' H'))
 (hd:∀ ys H,Pv n ys H->Q (.ref D) H):qV nl ix g tf te σ J H1 D Q:=by
 refine⟨fun i m ys H=>m=n - i/\i<=n/\Pv i ys H,⟨n,by simp,afh _,h0⟩,?_⟩;rintro i m ys H ⟨rfl,hi,p⟩;refine⟨hD i ys H p,?_⟩;by_cases hlt:i < n
 ·exact .inr ⟨go i ys H hlt p,fun x H' y=>hs i ys H x H' hlt p y⟩
 ·have e:i=n:=by lia
  subst e;exact .inl ⟨stop ys H p,hd ys H p⟩
theorem lq {lo:Int}{n:Nat}(h0:Pv 0 [] (upd H1 D (.lst [])))(hD:∀ i ys H,Pv i ys H->H D=some (.lst ys))
 (hs:∀ i ys H,i < n->Pv i ys H->d6 nl ix g tf te σ D ys H (.int (lo+i)) fun ys' H'=>Nx n i (Pv (i+1) ys' H'))(hd:∀ ys H,Pv n ys H->Q (.ref D) H):qV nl ix g tf te σ (Itr lo n) H1 D Q:=by
 refine xM (n:=n) Pv h0 hD (fun _ _ _ hi _=>hi) (fun _ _ _=>ae4 _) (fun i ys H x H' hi p y=>?_) hd;obtain⟨e,y⟩:=y;subst e y;exact hs i ys H' hi p
theorem gc {K:PySem.W.Frag}{a:Addr}{xs:List V}(h0:Pv 0 [] (upd H1 D (.lst [])))(hD:∀ i ys H,Pv i ys H->H D=some (.lst ys))(hl:∀ i ys H,Pv i ys H->SqL K H a xs)
 (hs:∀ i ys H x,xs[i]? = some x->Pv i ys H->d6 nl ix g tf te σ D ys H x fun ys' H'=>Nx xs.length i (Pv (i+1) ys' H'))(hd:∀ ys H,Pv xs.length ys H->Q (.ref D) H):qV nl ix g tf te σ (Itl K a) H1 D Q:=by
 refine xM (n:=xs.length) Pv h0 hD (fun i ys H hi p=>⟨xs,xs[i],hl i ys H p,by simp [hi]⟩) (fun ys H p=>⟨xs,hl _ ys H p,ae4 _⟩) (fun i ys H x H' hi p y=>?_) hd;obtain⟨e,y⟩:=y;subst e;exact hs i ys H' x (y xs (hl i ys H' p)) p
theorem uz {z:Str}(h0:Pv 0 [] (upd H1 D (.lst [])))(hD:∀ i ys H,Pv i ys H->H D=some (.lst ys))
 (hs:∀ i ys H c,z.cps[i]? = some c->Pv i ys H->d6 nl ix g tf te σ D ys H (.str ⟨#[c]⟩) fun ys' H'=>Nx z.cps.size i (Pv (i+1) ys' H'))(hd:∀ ys H,Pv z.cps.size ys H->Q (.ref D) H):qV nl ix g tf te σ (ItS z) H1 D Q:=by
 refine xM (n:=z.cps.size) Pv h0 hD (fun _ _ _ hi _=>hi) (fun _ _ _=>rfl) (fun i ys H x H' hi p y=>?_) hd;obtain⟨e,c,ec,ex⟩:=y;subst e ex;exact hs i ys H' c ec p
end
section
variable {X:Cx}{K:PySem.W.Frag}
theorem yC (hK:X.K=K):iw X (.builtin "len") (fun xs H Q=>∃ p ys,xs=[.ref p]/\(SqL K H p ys\/SqT K H p ys)/\Q (.int ys.length) H):=by subst hK;exact aH
end
theorem cJ {nl:Nat}{ix:List Nat}{te:TE}{σ:St}{D:Addr}{ys:List V}{H:Hp}{x:V}{nxt:List V->Hp->Prop}{i:Nat}(h1:((ko nl ix σ).set i (some x)).drop nl=ix.map fun j=>(σ[j]?).join)
 (h:te ((ko nl ix σ).set i (some x)) H fun y H6=>H6 D=some (.lst ys)/\ys.length < sizeLine/\nxt (ys++[y]) (upd H6 D (.lst (ys++[y])))):d6 nl ix (gh i) acE te σ D ys H x nxt:=by
 unfold d6 gh acE;dsimp only;rw [if_pos rfl];exact⟨⟨by simp,h1⟩,h⟩
section
variable {X:Cx}
theorem bH:iw X (.builtin "isinstance") (fun xs H Q=>∃ (x:V) (T:String) (t:Value) (b:Bool),xs=[x,.ty T]/\v8 X.K H x t/\kitOne X.K t (.type T)=some b/\Q (.bl b) H):=by
 intro pins s σ H xs us Q I r h;obtain⟨x,T,t,b,rfl,ty,e,q⟩:=h;obtain⟨u,v,rfl,rx,ry⟩:=vT r;cases ry;exact yq I rx ty e fun tk=>⟨.bl b,H,I.tok _,rfl,q⟩
theorem eG (K:PySem.W.Frag)(n:String):kitOne K (.type n) (.type n)=some true:=by
 unfold kitOne;rw [if_pos (by simp)]
theorem abJ:entryFor table "BaseException.__getattribute__" = some Builtin.«object.__getattribute__»:=entryFor_alias (id' := "object.__getattribute__") (by kernel_rfl) (by decide +kernel) (by decide +kernel) (by kernel_rfl)
theorem abl:entryFor table "getset_descriptor.__get__" = some Builtin.«getset_descriptor.__get__»:=entryFor_of_tree (by kernel_rfl)
theorem adj:typeOf (.builtin "BaseException.__getattribute__")=pure (.type "wrapper_descriptor"):=by first | rfl | kernel_rfl
theorem xO:plainId "BaseException.__getattribute__" = true:=by decide +kernel
theorem zj:plainId "getset_descriptor.__get__" = true:=by decide +kernel
theorem acZ:Builtin.Getset_descriptor.descrNameAndClass (.builtin "object.__class__")=pure (("__class__" : Str),Value.type "object"):=by first | rfl | kernel_rfl
theorem z0:plainId "object.__class__" = true:=by decide +kernel
structure k7 (K:PySem.W.Frag)(C:Addr)(bm:List Value):Prop where
 ga:W.findIn K (.ref C) "__getattribute__" = some (some (.builtin "BaseException.__getattribute__"))
 gt:W.findIn K (.ref C) "__getattr__" = some none
 cl:W.findIn K (.ref C) "__class__" = some (some (.builtin "object.__class__"))
 sp:W.specialIn K (.builtin "object.__class__") "__get__" = some (some (.builtin "getset_descriptor.__get__"))
 tk:W.takesIn K (.builtin "object.__class__")=some true
 ob:bm.contains (.type "object")=true
 facts:∃ (nm q:Str) (N:Addr) (bs bmB:List Value) (hdct:Bool) (sn:List Str) (sub:List Value) (ab:Bool) (col:Option Bool) (dd:Option Addr) (k0 k1 k2 k3 k5:Option Value) (B newId:String),ExcAttrBase B bmB/\∀ h:Heap,K.In h->h.get? C=some (excClassObj nm q C N bs bm hdct sn sub ab col dd k0 k1 k2 k3 k5 newId)/\OwnTailQ h bmB bm
theorem adx {K:PySem.W.Frag}{prog:Program}{w:World}{A:Around}{E:Value->Shared->Prop}{s:Shared}{e C1:Addr}{bm1:List Value}{oe:Obj}{Q:Option Value->Shared->Prop}(kin:K.In s.heap)(x:k7 K C1 bm1)(he:s.heap.get? e=some oe)(hc:oe.cls=.ref C1)
 (hck:∀ (A:Around) (E:Value->Shared->Prop) (t:Nat) (nameV:Value) (Q:Unit->Shared->Prop),Q () { s with toks:=t }->wpAny (model prog w) A (checkBuiltinCall "BaseException.__getattribute__" { pos:=[.ref e,nameV] }) Q E { s with toks:=t })
 (hob:∀ (A:Around) (E:Value->Shared->Prop) (t:Nat) (Q:Bool->Shared->Prop),Q true { s with toks:=t }->wpAny (model prog w) A (isSubtype (.ref C1) (.type "object")) Q E { s with toks:=t })
 (h:Q (some (.ref C1)) { s with toks:=s.toks+1 }):wpAny (model prog w) A (getAttr? (.ref e) "__class__") Q E s:=by
 unfold getAttr?;refine aeU (wpAny_mkText ?_);unfold getAttrBy?;refine aeU (wpAny_attempt ?_);unfold getAttrBy;refine afJ (aeU (afQ he ?_));rw [hc];refine aeU ((W.looks_findIn kin x.ga).at ?_);show wpAny _ _ (getAttrByItsOwn (.ref e) _ (.ref C1) (.builtin "BaseException.__getattribute__") false false) _ _ _;unfold getAttrByItsOwn hookBefore;refine aeU ?_;show wpAny _ _ (typeLookup (.ref C1) "__getattr__") _ _ _;refine (W.looks_findIn kin x.gt).at ?_;refine aeU (wpAny_attempt (afJ ?_));show wpAny _ _ (boundAndCalled (.builtin "BaseException.__getattribute__") (.ref e) _) _ _ _;unfold boundAndCalled bindSpecial;refine aeU ?_;rw [adj];refine aeU (ae3 (ae3 ?_));refine ahe (ag8 (plainId_quiet xO _) (hck _ _ _ _ _ (aiT abJ ?_)));unfold Builtin.«object.__getattribute__» slotArgs;refine aeU ?_;show wpAny _ _ (pure (Value.ref e,[Value.str (Str.ofString "__class__") s.toks])) _ _ _;refine ae3 ?_;show wpAny _ _ (Builtin.ObjectAttr.attrName (Value.str (Str.ofString "__class__") s.toks) >>= _) _ _ _;unfold Builtin.ObjectAttr.attrName;refine aeU (ae3 (aeU (afQ he ?_)));rw [hc];unfold Builtin.ObjectAttr.find;refine aeU (aeU ((W.looks_findIn kin x.cl).at ?_));unfold Builtin.ObjectAttr.getOf;refine aeU ((W.looks_specialIn kin x.sp).at ?_);unfold Builtin.ObjectAttr.dataDescriptor?;refine aeU (aeU ((W.looks_takesIn kin x.tk).at ?_));show wpAny _ _ (pure (some (Value.builtin "getset_descriptor.__get__",Value.builtin "object.__class__"))) _ _ _;refine ae3 ?_;refine aeU (ahV ?_);refine ae3 ?_;unfold Builtin.ObjectAttr.bindTo;show wpAny _ _ (holding [Value.builtin "object.__class__"] (call (Value.builtin "getset_descriptor.__get__") [Value.builtin "object.__class__",Value.ref e,Value.ref C1]) >>= _) _ _ _;refine aeU (afJ ?_);refine ahe (ag8 (plainId_quiet zj _) ?_);have ck:checkBuiltinCall "getset_descriptor.__get__" { pos:=[Value.builtin "object.__class__",Value.ref e,Value.ref C1] }=pure ():=by first | rfl | kernel_rfl
 rw [ck];refine ae3 (aiT abl ?_);unfold Builtin.«getset_descriptor.__get__» Builtin.Getset_descriptor.descrGet;refine aeU ?_;show wpAny _ _ (pure (Value.builtin "object.__class__",some (Value.ref e),some (Value.ref C1))) _ _ _;refine ae3 ?_;show wpAny _ _ (Builtin.Getset_descriptor.descrCheckInstance (Value.builtin "object.__class__") (Value.ref e) >>= _) _ _ _;unfold Builtin.Getset_descriptor.descrCheckInstance;rw [acZ];refine aeU (aeU (ae3 ?_));unfold isInstance;refine aeU (aeU (afQ he ?_));rw [hc];refine hob _ _ _ _ ?_;show wpAny _ _ (pure ()) _ _ _;refine ae3 ?_;show wpAny _ _ (again (Code.builtin "object.__class__" { pos:=[Value.ref e] })) _ _ _;refine ae3 ⟨plainId_quiet z0 _,aiT F.entry_object_class ?_⟩;unfold Builtin.«object.__class__» shownTypeOf;show wpAny _ _ ((typeOf (Value.ref e) >>= _) >>= _) _ _ _;refine aeU (aeU (afQ he ?_));rw [hc];show wpAny _ _ (pure (Value.ref C1)) _ _ _;refine ae3 ?_;refine ae3 ?_;refine ae3 ?_;show wpAny _ _ (pure (Value.ref C1)) _ _ _;refine ae3 ?_;exact ae3 h
theorem uY {K:PySem.W.Frag}{C1:Addr}{bm1:List Value}(x:k7 K C1 bm1)(e:Addr):W.KitX K (.ref e) (.ref C1) (fun h=>∃ o,h.get? e=some o/\o.cls=.ref C1):=by
 obtain⟨nm,q,N,bs,bmB,hdct,sn,sub,ab,col,dd,k0,k1,k2,k3,k5,B,newId,ba,g⟩:=x.facts;refine⟨fun M h kin ⟨o,ho,hc⟩ A Q E s k q=>afQ (k _ _ ho) (by rw [hc];exact q),fun M h kin _ A Q E s k q=>?_,fun h tp dd its n sl kin gt=>?_,fun {prog w A E Q s} kin hx q=>?_⟩
 ·unfold isType loadHead;exact aeU (aif (k _ _ (g h kin).1) (ae3 q))
 ·cases e:(Value.ref C1 == Value.ref tp) with
  | false=>rfl
  | true =>
   have:C1=tp:=by simpa using e
   have h1:=(g h kin).1;rw [this,gt] at h1;have h2:=afH (fun z:Option Obj=>z.map Obj.cls) h1;exact absurd h2 (by simp [excClassObj])
 ·obtain⟨o,ho,hc⟩:=hx;obtain⟨c1,c2⟩:=g s.heap kin;obtain⟨hp,gs,d,t,os⟩:=s;exact adx kin x ho hc (fun A E t nameV Q q=>wpAny_check_ga_own ba c1 c2 ho hc q) (fun A E t Q q=>kJ (s:={ heap:=hp,gens:=gs,drawn:=d,toks:=t,os:=os }) c1 (by rw [aho,x.ob,aiR];exact q)) q
theorem c8:iw X (.builtin "isinstance") (fun xs H Q=>∃ (a C1:Addr) (bm1:List Value) (c:V) (cv:Value) (b:Bool),xs=[.ref a,c]/\(∀ u,RelV c u->u=cv)/\H a=some (yF a (.ref C1))/\k7 X.K C1 bm1/\kitOne X.K (.ref C1) cv=some b/\Q (.bl b) H):=by
 intro pins s σ H xs us Q I r h;obtain⟨a,C1,bm1,c,cv,b,rfl,one,ha,x,e,q⟩:=h;obtain⟨u,v,rfl,ru,rv⟩:=vT r;cases ru;have:=one v rv;subst this;obtain⟨⟨o,ho,hc⟩,_⟩:=I.hok a _ ha;exact af1 (uY x a) I.kIn ⟨o,ho,hc⟩ e (fun z=>nomatch z) fun tk=>⟨.bl b,H,I.tok _,rfl,q⟩
end
section
variable {P:Program}{w:World}{K:PySem.W.Frag}{mg:Str->Option Value}{base:Heap}
theorem Fun.okR {x qual:Str}{st:Stmt}{f:Addr}{fd:FuncData}{N ps:List Str}{k:Nat}{sp:Sp}(F:Fun K x qual st f fd)(S:az N ps (ak st))(len:∀ vs H Q E,sp vs H Q E->vs.length=ps.length)
 (hbody:∀ (cdv:Value) (A:Around) (outer:List Env) (s:Shared) (H:Hp) (vs:List V) (Q:VK) (E:XK),Room k (A.deeper (envOfC qual (ak st) s.heap.objs.size f cdv))->sp vs H Q E →
  ∃ t,PSs (gL (CXr P w) P w K mg base N qual (ak st) f cdv A outer s H E) (b9 st) t/\t { nx:=fun _ H'=>Q .non H',rt:=Q } (start N vs) H):FnOk P w K mg base (CXr P w) (k+1) f fd ps sp:=by
 obtain⟨oc,od,kV,doc,pm,an,cdv,ct,osl,rfl,lk,hcd⟩:=F.ex;exact acA lk hcd S len fun A outer s H vs Q E hr hsp=>hbody cdv A outer s H vs Q E hr hsp
end
theorem pG {x:V}:∀ {xs:List V} {us:List Value},Vals xs us->xs.all i7=true->us.countP (eqU x)=xs.countP fun y=>eqV y x
 | _,_,.nil,_=>rfl
 | y::xs,u::us,.cons r t,f=>by
  rw [ag5,afx] at f;rw [List.countP_cons,List.countP_cons,uF r f.1,pG t f.2]
theorem uk {x:V}:∀ {xs:List V} {us:List Value},Vals xs us->xs.all i7=true->∀ (i:Nat) (hi:i < us.length) (hi':i < xs.length),eqU x us[i]=eqV xs[i] x
 | _,_,.nil,_,i,hi,_=>by simp at hi
 | y::xs,u::us,.cons r t,f,0,_,_=>by
  rw [ag5,afx] at f;exact uF r f.1
 | y::xs,u::us,.cons r t,f,i+1,hi,hi'=>by
  rw [ag5,afx] at f;exact uk t f.2 i (by simpa using hi) (by simpa using hi')
section
variable {X:Cx}
def acz:V->List V->Hp->VK->Prop:=fun x vs H Q=>∃ (l:Addr) (xs:List V) (v:V),x=.ref l/\vs=[v]/\H l=some (.lst xs)/\i7 v=true/\xs.all i7=true/\Q (.int ((xs.countP fun y=>eqV y v:Nat):Int)) H
theorem zm:MtM X "list.count" acz:=by
 intro pins s σ H x vs v us Q I rx rv h;obtain⟨l,xs,v,rfl,rfl,hH,fv,fx,q⟩:=h;cases rx;obtain⟨u,rfl,ru⟩:=rv.one;obtain⟨z,its,n,r,e⟩:=I.hok l _ hH;refine agt agP ⟨_,e,rfl⟩ PySem.F.entry_list_count (PySem.F.args_list_count_2 _ _) (SeqAt.list_countAt l its.toArray n none #[] u (eqU v)) ⟨e,fun y hy=>hV ru fv r fx y (by simpa using hy),?_⟩;refine⟨.int _,H,I.tok _,⟨s.toks,?_⟩,q⟩;rw [← pG r fx]
def abQ:V->List V->Hp->VK->Prop:=fun x vs H Q=>∃ (l:Addr) (xs:List V) (v:V) (j:Nat) (hj:j < xs.length),x=.ref l/\vs=[v]/\H l=some (.lst xs)/\i7 v=true/\xs.all i7=true/\eqV xs[j] v=true/\(∀ m (hm:m < xs.length),m < j->eqV xs[m] v=false)/\Q (.int (j:Int)) H
theorem y9:MtM X "list.index" abQ:=by
 intro pins s σ H x vs v us Q I rx rv h;obtain⟨l,xs,v,j,hj,rfl,rfl,hH,fv,fx,ej,em,q⟩:=h;cases rx;obtain⟨u,rfl,ru⟩:=rv.one;obtain⟨z,its,n,r,e⟩:=I.hok l _ hH;have hl:=r.length;have lim:sizeLine < 2 ^ 62:=by decide
 refine agt aiy ⟨_,e,rfl⟩ PySem.F.entry_list_index (PySem.F.args_list_index_2 _ _) (SeqAt.list_indexAt l its.toArray n none #[] u (eqU v) j (by rw [ae7];lia) (by lia) ?_ ?_) ⟨e,fun y hy=>hV ru fv r fx y (by simpa using hy),?_⟩
 ·rw [List.getElem_toArray,uk r fx j (by lia) hj];exact ej
 ·intro m hm hmj;rw [ae7] at hm;rw [List.getElem_toArray,uk r fx m hm (by lia)];exact em m (by lia) hmj
 ·exact⟨.int _,H,I.tok _,⟨s.toks,rfl⟩,q⟩
end
abbrev pF (t:Addr):Array Value:=#[.ref t,.none,.none,.none,.bool false,.none]
def wm (e C:Addr)(dct:Bool):HO:=.ext fun h=>∃ t dx sl,h.get? e=some ⟨.ref C,dx,.fields (pF t),sl⟩/\(dct=false->dx=none)
theorem tL {P:Program}{w:World}{H:Hp}{h:Heap}{e C t:Addr}{dct:Bool}{dx:Option Addr}{sl:Array (Option Value)}(g:h.get? e=some ⟨.ref C,dx,.fields (pF t),sl⟩)(n:dct=false->dx=none):ObjOk P w H h e (wm e C dct) :=
 ⟨⟨t,dx,sl,g,n⟩,⟨_,g⟩,fun h1 h2 ⟨t,dx,sl,g,n⟩ k=>⟨t,dx,sl,k _ g,n⟩⟩
structure yR (K:PySem.W.Frag)(B:Addr):Prop where
 ga:specialIn K (.ref B) "__getattribute__" = some (some (.builtin "type.__getattribute__"))
 rd:readsIn K B (.type "type")=true
 fc:findCls K (.ref B) (.type "type") "__init__" = some (.val (.builtin "ValueError.__init__"))
structure kT (K:PySem.W.Frag)(C f:Addr)(bm:List Value):Prop where
 kp:keepIn K (.ref C)=true
 sa:findIn K (.ref C) "__setattr__" = some (some (.builtin "object.__setattr__"))
 ob:bm.contains (.type "object")=true
 be:bm.contains (.type "BaseException")=true
 ov:∀ (prog:Program) (w:World) (A:Around) (E:Value->Shared->Prop) (s:Shared) (Q:Unit->Shared->Prop) (e:Addr) (oe:Obj),K.In s.heap->s.heap.get? e=some oe->oe.cls=.ref C->Q () s->wpAny (model prog w) A (Builtin.ObjectAttr.refuseIfOverridden (.ref e) "__setattr__") Q E s
 facts:∃ (nm q:Str) (N:Addr) (bs bmB:List Value) (sn:List Str) (sub:List Value) (ab:Bool) (col:Option Bool) (dd:Option Addr) (k0 k1 k2 k3 k5:Option Value) (B Bn newId nid inN:String) (bmN:List Value) (mN:Str->Option Value) (oI:Obj),
  ExcBaseFacts Bn newId inN bmN/\bmB.contains (.type Bn)=true/\ExcBaseFacts B nid "ValueError.__init__" bmB/\mN "__init__" = some (.ref f)/\oI.cls=.type "function" ∧
  ∀ h:Heap,K.In h->h.get? C=some (excClassObj nm q C N bs bm true sn sub ab col dd k0 k1 k2 k3 k5 newId)/\h.Ns N mN/\OwnTail h bmB bm/\h.get? f=some oI
section
variable {X:Cx}{C f:Addr}{bm:List Value}
theorem rZ (o:kT X.K C f bm):iw X (.builtin "ValueError.__init__") (fun xs H Q=>∃ (e:Addr) (x:V),xs=[.ref e,x]/\H e=some (wm e C false)/\Q .non H):=by
 intro pins s σ H xs us Q I r h;obtain⟨e,x,rfl,he,q⟩:=h;obtain⟨u,v,rfl,ru,rv⟩:=vT r;cases ru;obtain⟨nm,qn,N,bs,bmB,sn,sub,ab,col,dd,k0,k1,k2,k3,k5,B,Bn,newId,nid,inN,bmN,mN,oI,f1,f2,F,f4,f5,g⟩:=o.facts;obtain⟨c1,c2,c3,c4⟩:=g s.heap I.kIn;obtain⟨⟨t,dx,sl,ge,nd⟩,_⟩:=I.hok e _ he;have:=nd rfl;subst this;obtain⟨hp,gs,dr,tk,os⟩:=s;refine ahe (codeAny_call_builtin F.init.plain F.initEntry (wpAny_check_init_subU F c3 c1 ge rfl ?_));unfold Builtin.«BaseException.__init__»;dsimp only;refine afR rfl ?_;have ge':hp.get? e=some ⟨.ref C,none,.fields (pF t),sl⟩:=ge;have lt:=afb ge';refine aeU (wpAny_newTuple ?_ (by show 1<=sizeLine;decide));have ge1:(hp.push { cls:=.type "tuple",data:=.seq ([v]:List Value).toArray }).get? e=some ⟨.ref C,none,.fields (pF t),sl⟩:=ae0 _ ge';have kp1:∀ b o,hp.get? b=some o->(hp.push { cls:=.type "tuple",data:=.seq ([v]:List Value).toArray }).get? b=some o:=fun b o g=>ae0 _ g;dsimp only;generalize hp.push { cls:=.type "tuple",data:=.seq ([v]:List Value).toArray }=h1 at *;unfold Builtin.BaseException.bexcPut;refine aeU (aeU (wpAny_field ge1 rfl (x:=.ref t) rfl ?_));refine aeU (wpAny_setField ge1 rfl (by show 0 < 6;decide) ?_);refine wpAny_letGo ?_;refine ae3 ?_;show EP X pins σ Q .none _;have eH:upd H e (wm e C false)=H:=by
  funext b;by_cases hb:b=e
  ·rw [hb,ag,he]
  ·rw [ax hb]
 have J:Inv X pins σ (upd H e (wm e C false)) { heap:=h1.update e (Obj.mapFields fun x=>x.setIfInBounds 0 (.ref hp.objs.size)),gens:=gs,drawn:=dr,toks:=tk,os:=os }:=I.write (t':=tk) (by rw [he];exact True.intro) (.inl rfl) (fun b o nb g=>agV _ (ag1 nb) (kp1 b o g)) ⟨_,ag2 _ ge1 rfl⟩ (tL (t:=hp.objs.size) (dx:=none) (sl:=sl) (ag2 _ ge1 rfl) fun _=>rfl);rw [eH] at J;exact⟨.non,H,J,rfl,q⟩
theorem we {B:Addr}{x:Str}{np apos pos:Pos}{e:Expr}{es:List Expr}{t:TA}{pl:Sem Bool}(tp:yR X.K B)(o:kT X.K C f bm)(hg:Gl X x)(hm:X.mg x=some (.ref B))(ha:PA X (e::es) t)(hdb:(x == ("__debug__" : Str))=false:=by decide)
 (he:starEach (e::es) X.env=(false,eval e X.env)::starEach es X.env:=by rfl)(hpl:(backTo pos (starEach es X.env)).any (·.1)=false:=by rfl)
 (ht:eval (.Call (.Attribute (.Name x np) "__init__" apos) (e::es) [] pos) X.env=(do
  let ov ← eval (.Name x np) X.env
  standAt apos.atName
  let (f,first) ← holding [ov] (getMethod ov "__init__" pl)
  callWith pos f first (backTo pos (starEach (e::es) X.env)) (backToKw pos (keywordEach [] X.env))):=by rfl) :
 PE X (.Call (.Attribute (.Name x np) "__init__" apos) (e::es) [] pos) (tCB (fun xs H Q=>∃ (e:Addr) (x:V),xs=[.ref e,x]/\H e=some (wm e C false)/\Q .non H) t):=by
 intro pins s σ H Q I h;refine agw (pl:=pl) (fF I hg hm ?_ hdb) ht;refine PySem.W.method_cls I.kIn tp.ga (PySem.W.cls_value I.kIn tp.rd tp.fc rfl ?_);have I1:=I.tok (s.toks+1);exact ahH (thn (ha pos pins _ σ H _ I1 h) fun us s1 ⟨vs,H1,I1,r1,q1⟩=>rZ o pins s1 σ H1 vs us Q I1 r1 q1) he hpl
def ack (C:Addr)(ta tv:TE):TS:=fun D σ H=>tv σ H fun y H1=>ta σ H1 fun x H2=>∃ e,x=.ref e/\H2 e=some (wm e C false)/\D.nx σ (upd H2 e (wm e C true))
theorem xy {o value:Expr}{nm:Str}{pos pos':Pos}{ta tv:TE}(ow:kT X.K C f bm)(hn:findIn X.K (.ref C) nm=some none)(ha:PE X o ta)(hv:PE X value tv)(hs:swapsWith value (some (.Attribute o nm pos')) pos.line X.env=pure false):PS X (.Assign [.Attribute o nm pos'] value pos) (ack C ta tv):=by
 intro pins s σ H D I h;refine ahz (thn (hv pins s σ H _ I h) fun u s1 ⟨y,H1,I1,ry,q⟩=>thn (ha pins s1 σ H1 _ I1 q) fun ov s2 ⟨x,H2,I2,rx,e,ex,he,q2⟩=>?_) hs;subst ex;obtain rfl:ov=Value.ref e:=rx;obtain⟨nmC,qn,N,bs,bmB,sn,sub,ab,col,dd,k0,k1,k2,k3,k5,B,Bn,newId,nid,inN,bmN,mN,oI,f1,f2,F,f4,f5,g⟩:=ow.facts;obtain⟨c1,c2,c3,c4⟩:=g s2.heap I2.kIn;obtain⟨⟨t,dx,sl,ge,nd⟩,_⟩:=I2.hok e _ he;have:=nd rfl;subst this;refine tZ I2.kIn c1 ge rfl rfl ⟨_,rfl⟩ ow.sa hn ow.ob (fun A E s' Q hh q=>ow.ov _ _ A E s' Q e _ (by rw [hh];exact I2.kIn) (by rw [hh];exact ge) rfl q) fun h' dx hdx kp ge' ns=>?_;refine⟨σ,_,I2.write (t':=s2.toks+2) (by rw [he];exact True.intro) (.inl rfl) kp ⟨_,ge'⟩ (tL ge' fun z=>?_),q2⟩;cases z
end
theorem vV {M:Model}{A:Around}{E:Value->Shared->Prop}{env:Env}{nm q:Str}{C N:Addr}{bs bm:List Value}{hdct:Bool}{sn:List Str}{sub:List Value}{ab:Bool}{col:Option Bool}{dd:Option Addr}{k0 k1 k2 k3 k5:Option Value}{newId:String}{s:Shared}{x:Sem Value}{Q:Flow->Shared->Prop}(hbase:bm.contains (.type "BaseException")=true)(hh:A.handled=none)
 (h:wpAny M A x (fun v s₁=>∃ e t dx sl,v=.ref e/\s₁.heap.get? C=some (excClassObj nm q C N bs bm hdct sn sub ab col dd k0 k1 k2 k3 k5 newId)/\s₁.heap.get? e=some ⟨.ref C,dx,.fields (pF t),sl⟩/\E (.ref e) s₁) E s):wpAny M A (raiseStmt env (some x) none) Q E s:=by
 have hcB:(Value.ref C::bm).contains (.type "BaseException")=true:=by rw [aho,hbase,aiR]
 unfold raiseStmt;refine aeU (af6 h (fun v s₁ h₁=>?_) fun _ _ z=>z);obtain⟨e,t,dx,sl,rfl,hC,he,hE⟩:=h₁;obtain⟨hp,g,d,tk,os⟩:=s₁;have he':hp.get? e=some ⟨.ref C,dx,.fields (pF t),sl⟩:=he;have hC':hp.get? C=some (excClassObj nm q C N bs bm hdct sn sub ab col dd k0 k1 k2 k3 k5 newId):=hC;refine aeU (ae3 ?_);refine aeU (afJ ?_);unfold excFromValue isExcClass isType loadHead;refine aeU (aeU (aeU (ahA he' (ae3 ?_))));refine afR rfl (ae3 ?_);refine afR rfl ?_;unfold isInstance;refine aeU (aeU (afQ he' ?_));refine wpAny_isSubtype_exc hC' ?_;rw [hcB];refine aih rfl (ae3 ?_);refine aeU (aeU (ahA he' (ae3 ?_)));refine afR rfl ?_;unfold raisedInstance;refine aeU (aeU (afQ he' ?_));refine aeU (afQ hC' ?_);refine aih rfl (ae3 ?_);unfold setFlight;refine aeU (aeU (wpAny_field he' rfl (x:=.none) rfl ?_));refine afR rfl (ae3 ?_);exact wpAny_raiseNew_none hh hE
def rem (H:Hp)(e:Addr):Hp:=fun b=>if b=e then none else H b
theorem mz {H:Hp}{e:Addr}:rem H e e=none:=by unfold rem;rw [if_pos rfl]
theorem uG {H:Hp}{e b:Addr}(h:b≠e):rem H e b=H b:=by unfold rem;rw [if_neg h]
section
variable {X:Cx}{pins:List (Addr×Obj)}{σ:St}{H:Hp}{s:Shared}
theorem Inv.trackN {e:Addr}{o:HO}(I:Inv X pins σ H s)(ne:H e=none)(new:ObjOk X.prog X.w (upd H e o) s.heap e o)(old:∀ b o,X.s₀.heap.get? b=some o->b ∉ X.ex->b≠e)(pn:∀ p∈X.pn++pins,p.1≠e)(nl:e≠X.env.locals)(nc:∀ x c,X.env.cells.lookup x=some c->c≠e):Inv X pins σ (upd H e o) s:=by
 have up:∀ b u,H b=some u->(upd H e o) b=some u:=fun b u g=>by rw [ax (ai g ne)];exact g
 refine⟨I.ok,I.os,I.bare,⟨I.base.keep,I.base.slot,fun b o g n hx=>?_,I.base.there,fun b xs g=>up _ _ (I.base.tups b xs g),fun b o u g=>up _ _ (I.base.frzs b o u g),fun b ps g=>?_⟩,I.loc,I.cell,?_,fun x c g=>?_,fun p hp=>?_,fun b u g=>?_,I.len⟩
 ·rw [ax (old b o g hx)];exact I.base.free b o g n hx
 ·obtain⟨more,q⟩:=I.base.tbls b ps g;exact⟨more,up _ _ q⟩
 ·rw [ax (ag1 nl)];exact I.free
 ·rw [ax (nc x c g)];exact I.freeC x c g
 ·obtain⟨p1,p2,p3,p4,p5⟩:=I.pin p hp;exact⟨p1,by rw [ax (pn p hp)];exact p2,p3,p4,p5⟩
 ·by_cases hb:b=e
  ·subst hb;rw [ag] at g;cases g;exact new
  ·rw [ax hb] at g;exact (I.hok b u g).stay (fun _ _ _ q=>q) (fun c q=>up _ _ q) fun c xs q=>up _ _ q
theorem Inv.drop {e C:Addr}{b:Bool}(I:Inv X pins σ H s)(he:H e=some (wm e C b)):Inv X pins σ (rem H e) s:=by
 have ke:∀ b u,H b=some u->b≠e->rem H e b=some u:=fun b u g n=>by rw [uG n];exact g
 have nn:∀ b,H b=none->rem H e b=none:=fun b g=>by
  by_cases hb:b=e
  ·rw [hb];exact mz
  ·rw [uG hb];exact g
 refine⟨I.ok,I.os,I.bare,⟨I.base.keep,I.base.slot,fun b o g n hx=>nn _ (I.base.free b o g n hx),I.base.there,fun b xs g=>ke _ _ (I.base.tups b xs g) (fun z=>by have:=I.base.tups b xs g;rw [z,he] at this;cases this),fun b o u g=>ke _ _ (I.base.frzs b o u g) (fun z=>by have:=I.base.frzs b o u g;rw [z,he] at this;cases this),fun b ps g=>?_⟩,I.loc,I.cell,nn _ I.free,fun x c g=>nn _ (I.freeC x c g),fun p hp=>?_,fun b u g=>?_,I.len⟩
 ·obtain⟨more,q⟩:=I.base.tbls b ps g;exact⟨more,ke _ _ q fun z=>by rw [z,he] at q;cases q⟩
 ·obtain⟨p1,p2,p3,p4,p5⟩:=I.pin p hp;exact⟨p1,nn _ p2,p3,p4,p5⟩
 ·have hb:b≠e:=fun z=>by rw [z,mz] at g;cases g
  rw [uG hb] at g;refine (I.hok b u g).stay (fun _ _ _ q=>q) (fun c q=>ke _ _ q fun z=>?_) fun c xs q=>ke _ _ q fun z=>?_
  ·rw [z,he] at q;cases q
  ·rw [z,he] at q;cases q
end
def acv (C:Addr)(sp:Sp)(E:XK)(t:TA):TS:=fun _ σ H=>t σ H fun vs H1=>vs.length<=1000/\∀ e,H1 e=none->sp (.ref e::vs) (upd H1 e (wm e C false)) (fun v H2=>v=.non/\H2 e=some (wm e C true)/\E (.ref C) none (rem H2 e)) E0
section
variable {P:Program}{w:World}{K:PySem.W.Frag}{mg:Str->Option Value}{base:Heap}{N:List Str}{qual:Str}{scope:Scope}{f:Addr}{cd:Value}{A:Around}{outer:List Env}{s:Shared}{H:Hp}{E1:XK}
theorem kP {x:Str}{C fI:Addr}{bm:List Value}{np cpos pos:Pos}{a:Expr}{t:TA}{k:Nat}{fd:FuncData}{ps:List Str}{sp:Sp}(o:kT K C fI bm)(F:FnOk P w K mg base CX0 k fI fd ps sp)(hr:Room (k+1) (A.deeper (envOfC qual scope s.heap.objs.size f cd)))(hb:Binds K fd ps [])(hg:Gl (gL (CXr P w) P w K mg base N qual scope f cd A outer s H E1) x)(hm:mg x=some (.ref C))
 (ha:PA (gL (CXr P w) P w K mg base N qual scope f cd A outer s H E1) [a] t)(hs:starEach [a] (envOfC qual scope s.heap.objs.size f cd)=[(false,eval a (envOfC qual scope s.heap.objs.size f cd))]:=by rfl)(hdb:(x == ("__debug__" : Str))=false:=by decide) :
 PS (gL (CXr P w) P w K mg base N qual scope f cd A outer s H E1) (.Raise (some (.Call (.Name x np) [a] [] cpos)) none pos) (acv C sp E1 t):=by
 intro pins s1 σ H1 D I h;obtain⟨nm,q,N',bs,bmB,sn,sub,ab,col,dd,k0,k1,k2,k3,k5,B,Bn,newId,nid,inN,bmN,mN,oI,f1,f2,f3,f4,f5,g⟩:=o.facts;have hd:(gL (CXr P w) P w K mg base N qual scope f cd A outer s H E1).A.handled=none:=I.ok.hd rfl;rw [arm_exec_Raise];refine aeU (ahj ?_);refine vV (bm:=bm) (N:=N') (nm:=nm) (q:=q) (bs:=bs) (hdct:=true) (sn:=sn) (sub:=sub) (ab:=ab) (col:=col) (dd:=dd) (k0:=k0) (k1:=k1) (k2:=k2) (k3:=k3) (k5:=k5) (newId:=newId) (C:=C) o.be hd ?_;refine aeU ?_;refine agc (fF I hg hm ?_ hdb);refine agx (h₀:=base) I.ok.mod.kin o.kp (thn (ha cpos pins s1 σ H1 _ I h) fun us s2 ⟨vs,H2,I2,r,hl,q2⟩=>⟨I2.kIn,?_⟩) hs rfl;obtain⟨c1,c2,c3,c4⟩:=g s2.heap I2.kIn;have none_of:∀ b,s2.heap.get? b=none->s.heap.get? b=none:=fun b z=>by
  cases g:s.heap.get? b with
  | none=>rfl
  | some o =>
   obtain⟨o',g'⟩:=I2.base.there b o g (by show b ∉ ([]:List Addr);simp);rw [z] at g';cases g'
 have untr:∀ b,s2.heap.get? b=none->H2 b=none:=fun b z=>by
  cases g:H2 b with
  | none=>rfl
  | some o =>
   obtain⟨ob,g'⟩:=(I2.hok b o g).obj;rw [z] at g';cases g'
 obtain⟨hp,gs,dr,tk,os⟩:=s2;refine wR f1 f2 f3 c3 c1 c2 f4 c4 f5 (fun h' e made=>?_) (by show us.length<=sizeLine;rw [← r.length];exact afC hl (by decide));obtain⟨tt,m1,m2,m3⟩:=made.there;have ne:H2 e=none:=untr e made.new;have J0:Inv (gL (CXr P w) P w K mg base N qual scope f cd A outer s H E1) pins σ H2 { heap:=h',gens:=gs,drawn:=dr,toks:=tk,os:=os }:=I2.kept (t':=tk) made.keeps;have J1:Inv (gL (CXr P w) P w K mg base N qual scope f cd A outer s H E1) pins σ (upd H2 e (wm e C false)) { heap:=h',gens:=gs,drawn:=dr,toks:=tk,os:=os }:=by
  refine J0.trackN ne (tL m1 fun _=>rfl) (fun b ob gb hx z=>?_) (fun p hpp z=>?_) (fun z=>?_) fun y c hc z=>?_
  ·have:=none_of e made.new;rw [← z] at this;have gb':s.heap.get? b=some ob:=gb;rw [this] at gb';cases gb'
  ·have:=(I2.pin p hpp).1;rw [z] at this;have n:=made.new;rw [show hp.get? e=_ from this] at n;cases n
  ·obtain⟨m,⟨ol,es,ep,hl',_⟩,_⟩:=I2.loc;have n:=made.new;rw [z] at n;rw [show hp.get? _=_ from hl'] at n;cases n
  ·obtain⟨v,ol,hl',_⟩:=I2.cell y c hc;have n:=made.new;rw [← z] at n;rw [show hp.get? _=_ from hl'] at n;cases n
 have hq:=q2 e ne;have r2:Vals (V.ref e::vs) (Value.ref e::us):=.cons rfl r;have hl2:(Value.ref e::us++[]).length=ps.length:=by
  rw [afD,← r2.length];exact F.len _ _ _ _ hq
 have hbb:=hb { heap:=h',gens:=gs,drawn:=dr,toks:=tk,os:=os } (Value.ref e::us) J1.kIn hl2;rw [afD] at hbb;refine ahe (ahf (F.run _ (gL (CXr P w) P w K mg base N qual scope f cd A outer s H E1).stack _ _ ⟨Value.ref e::us,[]⟩ (Value.ref e::us) _ _ E0 (hr.make C us []) (J1.env0.make C us []) hbb r2 hq) fun rr s3 hq'=>?_);cases rr with
 | error e'=>exact False.elim hq'
 | ok fl =>
  cases fl with
  | next=>exact False.elim hq'
  | brk=>exact False.elim hq'
  | cont=>exact False.elim hq'
  | ret u =>
   obtain⟨v,H3,J3,rv,ev,he3,q3⟩:=J1.after hq';subst ev;refine⟨rv,?_⟩;refine aeU (ahj (ae3 ?_));obtain⟨⟨t3,dx3,sl3,g3,_⟩,_⟩:=J3.hok e _ he3;obtain⟨d1,_⟩:=g s3.heap J3.kIn;refine⟨e,t3,dx3,sl3,rfl,d1,g3,?_⟩;have J4:=J3.drop he3;have st:=J4.stack;show wpAny (model P w) (A.deeper (envOfC qual scope s.heap.objs.size f cd)) (leaving (envOfC qual scope s.heap.objs.size f cd) (.ref e)) _ _ _;refine wpAny_leaving_firstW (base:=iG s3.heap (e::e::frs (envOfC qual scope s.heap.objs.size f cd::outer))) (L:=s.heap.objs.size) J4.ok.frames (jh st fun b hb=>aeW _ (aeW _ hb)) rfl g3 (fun b o g=>agv _ g) (afX _ aeX) rfl rfl rfl fun h2 L=>?_;exact t8 J4 mz mz (none_of _ made.new) (none_of _ made.new) L q3
end
theorem FnOk.up {P:Program}{w:World}{K:PySem.W.Frag}{mg:Str->Option Value}{base:Heap}{CX:CXT}{k:Nat}{f:Addr}{fd:FuncData}{ps:List Str}{sp:Sp}(F:FnOk P w K mg base CX0 k f fd ps sp):FnOk P w K mg base CX k f fd ps sp:=by
 refine⟨F.len,fun A outer s H args us vs Q E hr e hb r h=>ahf (F.run A outer s H args us vs Q E hr e hb r h) fun rr s' hq=>?_⟩;cases rr with
 | error e=>exact False.elim hq
 | ok fl=>cases fl<;>exact hq
structure rP (P:Program)(w:World)(K:PySem.W.Frag)(d:Addr)(kvs:List (Key×V)):Prop where
 lo:(d == sysModules)=false
 dict:∃ vs,KV kvs vs/\∀ h:Heap,K.In h->h.DictOf (gD P w) d vs
section
variable {X:Cx}{d:Addr}{kvs:List (Key×V)}
def aex (kvs:List (Key×V))(ty:TE):TE:=fun σ H Q=>ty σ H fun y H1=>∃ k,y=kV k/\Q (.bl (kU kvs k).isSome) H1
def ab3 (kvs:List (Key×V))(ty:TE):TE:=fun σ H Q=>ty σ H fun y H1=>∃ k,y=kV k/\Q (.bl (!(kU kvs k).isSome)) H1
def aef (kvs:List (Key×V))(ty:TE):TE:=fun σ H Q=>ty σ H fun y H1=>∃ k v,y=kV k/\kU kvs k=some v/\Q v H1
theorem adC {i:Expr}{x:Str}{np:Pos}{ty:TE}(kd:rP X.prog X.w X.K d kvs)(hi:PE X i ty)(hg:Gl X x)(hm:X.mg x=some (.ref d))(hdb:(x == ("__debug__" : Str))=false:=by decide):PC X .In i (.Name x np) (aex kvs ty):=by
 intro pins s σ H Q I h;refine thn (hi pins s σ H _ I h) fun iv s1 ⟨y,H1,I1,ry,k,ey,q⟩=>fF I1 hg hm ?_ hdb;subst ey;obtain⟨vs,rel,dd⟩:=kd.dict;refine wpAny_in_of (abi ry) kd.lo (dd _ I1.kIn).mapOf ?_;rw [← (rel.val k).isSome_eq];exact⟨.bl _,H1,I1.tok _,rfl,q⟩
theorem xt {i:Expr}{x:Str}{np:Pos}{ty:TE}(kd:rP X.prog X.w X.K d kvs)(hi:PE X i ty)(hg:Gl X x)(hm:X.mg x=some (.ref d))(hdb:(x == ("__debug__" : Str))=false:=by decide):PC X .NotIn i (.Name x np) (ab3 kvs ty):=by
 intro pins s σ H Q I h;refine thn (hi pins s σ H _ I h) fun iv s1 ⟨y,H1,I1,ry,k,ey,q⟩=>fF I1 hg hm ?_ hdb;subst ey;obtain⟨vs,rel,dd⟩:=kd.dict;refine wpAny_notIn_of (abi ry) kd.lo (dd _ I1.kIn).mapOf ?_;rw [← (rel.val k).isSome_eq];exact⟨.bl _,H1,I1.tok _,rfl,q⟩
theorem yD {i:Expr}{x:Str}{np pos:Pos}{ty:TE}(kd:rP X.prog X.w X.K d kvs)(hg:Gl X x)(hm:X.mg x=some (.ref d))(hi:PE X i ty)(hs:aeo i)(hdb:(x == ("__debug__" : Str))=false:=by decide):PE X (.Subscript (.Name x np) i pos) (aef kvs ty):=by
 intro pins s σ H Q I h;refine ab4 PySem.F.slot_dict_getitem.lookup hs (fF I hg hm ?_ hdb);refine thn (hi pins s σ H _ I h) fun iv s2 ⟨y,H2,I2,ry,k,v,ey,l,q⟩=>?_;subst ey;obtain⟨vs,rel,dd⟩:=kd.dict;obtain⟨w',hw,rw'⟩:=RelO.some_of (v:=v) (o:=valueAt vs k) (by rw [← l];exact rel.val k);exact⟨(dd _ I2.kIn).typeIs,wpAny_getItem_of (abi ry) (dd _ I2.kIn).mapOf hw ⟨v,H2,I2.tok _,rw',q⟩⟩
def xU (X:Cx)(CX:CXT)(f:Addr)(sp:Sp):Prop:=∃ (k:Nat) (fd:FuncData) (ps:List Str),FnOk X.prog X.w X.K X.mg X.base CX k f fd ps sp/\Room k X.A/\keepIn X.K (.ref f)=true/\Binds X.K fd ps []
def adA (X:Cx)(CX:CXT)(E:XK)(te:TE)(t:TA):TE:=fun σ H Q=>te σ H fun v H1=>∃ f sp,v=.ref f/\xU X CX f sp/\t σ H1 fun vs H2=>sp vs H2 Q E
theorem uQ {x:Str}{p pos:Pos}{e:Expr}{es:List Expr}{te:TE}{t:TA}{CX:CXT}{E:XK}(hp:PE X (.Name x p) te)(hx:iX CX X E)(ha:PA X (e::es) t)(he:starEach (e::es) X.env=(false,eval e X.env)::starEach es X.env:=by rfl)(hpl:(backTo pos (starEach es X.env)).any (·.1)=false:=by rfl) :
 PE X (.Call (.Name x p) (e::es) [] pos) (adA X CX E te t):=by
 intro pins s σ H Q I h;refine agc (thn (hp pins s σ H _ I h) fun u s1 ⟨v,H1,I1,rv,f,sp,ev,⟨k,fd,ps,F,hr,hk,hb⟩,q⟩=>?_);subst ev;obtain rfl:u=Value.ref f:=rv;refine agx (h₀:=X.base) I.ok.mod.kin hk (thn (ha pos pins s1 σ H1 _ I1 q) fun us s2 ⟨vs,H2,I2,r,q2⟩=>⟨I2.kIn,?_⟩) he hpl;exact qS (dvs:=[]) F hr hb .nil hx I2 r (by rw [afD];exact q2)
def adp (C:Addr)(m:Str)(sp:Sp)(E:St->XK)(ta:TE)(t:TA):TE:=fun σ H Q=>ta σ H fun x H1=>∃ a dx fs,x=.ref a/\H1 a=some (.ins C dx fs)/\fs.lookup m=none/\t σ H1 fun vs H2=>sp (x::vs) H2 Q (E σ)
theorem zX {C f:Addr}{m:Str}{o e:Expr}{es:List Expr}{apos pos:Pos}{ta:TE}{t:TA}{CX:CXT}{k:Nat}{fd:FuncData}{ps:List Str}{sp:Sp}{E:St->XK}{pl:Sem Bool}(he:PE X o ta)(c:Cls X.K C)(hm:wK X.K C m f)(F:FnOk X.prog X.w X.K X.mg X.base CX k f fd ps sp)(hr:Room k X.A)(hb:Binds X.K fd ps [])
 (hx:∀ pins σ H s ev s',Inv X pins σ H s->CX X.stack H s (E σ) ev s'->X.xe ev s')(ha:PA X (e::es) t)
 (hst:starEach (e::es) X.env=(false,eval e X.env)::starEach es X.env:=by rfl)(hpl:(backTo pos (starEach es X.env)).any (·.1)=false:=by rfl)
 (ht:eval (.Call (.Attribute o m apos) (e::es) [] pos) X.env=(do
  let ov ← eval o X.env
  standAt apos.atName
  let (f,first) ← holding [ov] (getMethod ov m pl)
  callWith pos f first (backTo pos (starEach (e::es) X.env)) (backToKw pos (keywordEach [] X.env))):=by rfl) :
 PE X (.Call (.Attribute o m apos) (e::es) [] pos) (adp C m sp E ta t):=by
 intro pins s σ H Q I h;refine agw (pl:=pl) (thn (he pins s σ H _ I h) fun u s1 ⟨x,H1,I1,rx,a,dx,fs,ex,ea,l,q⟩=>?_) ht;subst ex;obtain rfl:u=Value.ref a:=rx;refine jF I1 ea c hm l ?_;refine agx (first:=[.ref a]) (h₀:=X.base) I.ok.mod.kin hm.kp (thn (ha pos pins s1 σ H1 _ I1 q) fun us s2 ⟨vs,H2,I2,r,q2⟩=>⟨I2.kIn,?_⟩) hst hpl;have r2:Vals (V.ref a::vs) (Value.ref a::us):=.cons rfl r;have hl:(Value.ref a::us++[]).length=ps.length:=by rw [afD,← r2.length];exact F.len _ _ _ _ q2
 have hbb:=hb s2 (Value.ref a::us) I2.kIn hl;rw [afD] at hbb;refine ahe (ahf (F.run X.A X.stack s2 H2 ⟨Value.ref a::us,[]⟩ (Value.ref a::us) (V.ref a::vs) Q (E σ) hr I2.env0 hbb r2 q2) fun r s' hq=>?_);cases r with
 | error e=>exact hx pins σ H2 s2 e s' I2 hq
 | ok fl =>
  cases fl with
  | ret u=>exact I2.after hq
  | next=>exact False.elim hq
  | brk=>exact False.elim hq
  | cont=>exact False.elim hq
end
def leS (a b:Str):Prop:=ltCps b.cps.toList a.cps.toList=false
theorem leS_iff {a b:Str}:leS a b↔a.cps.toList<=b.cps.toList:=by
 unfold leS;rw [ltCps_eq];constructor
 ·intro h;exact List.not_lt.mp (ahq h)
 ·intro h;exact afv (List.not_lt.mpr h)
theorem qX {a b:Str}(h1:leS a b)(h2:leS b a):a=b:=by
 have e:=List.le_antisymm (leS_iff.mp h1) (leS_iff.mp h2);cases a;cases b;simp only at e;rw [Str.mk.injEq];exact Array.toList_inj.mp e
theorem rG {a b c:Str}(h1:leS a b)(h2:leS b c):leS a c:=leS_iff.mpr (List.le_trans (leS_iff.mp h1) (leS_iff.mp h2))
theorem oC:∀ {l:List Str} {p:Str},risingS p l=true->(∀ x∈l,leS p x)/\l.Pairwise leS
 | [],p,_=>⟨(fun x hx=>nomatch hx),List.Pairwise.nil⟩
 | y::r,p,h=>by
  have h':(!ltCps y.cps.toList p.cps.toList && risingS y r)=true:=h;rw [afx,Bool.not_eq_true'] at h';obtain⟨i1,i2⟩:=oC h'.2;have py:leS p y:=h'.1;refine⟨fun x hx=>?_,List.Pairwise.cons i1 i2⟩;rcases aeY.mp hx with rfl | hx
  ·exact py
  ·exact rG py (i1 x hx)
theorem b4:∀ {l:List Str},sortedS l=true->l.Pairwise leS
 | [],_=>List.Pairwise.nil
 | _::_,h=>let ⟨a,b⟩:=oC h;List.Pairwise.cons a b
theorem gR:∀ {l1 l2:List Str},l1.Pairwise leS->l2.Pairwise leS->l1.Perm l2->l1=l2
 | [],l2,_,_,p=>(List.nil_perm.mp p).symm▸rfl
 | a::r,[],_,_,p=>absurd p.length_eq (by simp)
 | a::r,b::t,h1,h2,p=>by
  have ab:leS a b:=by
   rcases aeY.mp (p.mem_iff.mpr aeX:b∈a::r) with e | hb
   ·subst e;exact leS_iff.mpr (List.le_refl _)
   ·exact (agd.mp h1).1 b hb
  have ba:leS b a:=by
   rcases aeY.mp (p.mem_iff.mp aeX:a∈b::t) with e | ha
   ·subst e;exact leS_iff.mpr (List.le_refl _)
   ·exact (agd.mp h2).1 a ha
  have e:=qX ab ba;subst e;rw [gR (agd.mp h1).2 (agd.mp h2).2 p.cons_inv]
section
variable {M:Model}{A:Around}{E:Value->Shared->Prop}{s:Shared}
end
section
variable {prog:Program}{w:World}{h h':Heap}{a:Addr}{es:Array (Int×Value)}{ep:Nat}{t:SetTable}{ss:List Str}
section
variable {A:Around}{E:Value->Shared->Prop}{s:Shared}
end
end
section
variable {prog:Program}{w:World}{A:Around}{E:Value->Shared->Prop}{s:Shared}{a I:Addr}{es:Array (Int×Value)}{ep:Nat}{t:SetTable}
end
section
variable {prog:Program}{w:World}{A:Around}{E:Value->Shared->Prop}{s:Shared}{a I T:Addr}{es:Array (Int×Value)}{ep:Nat}{t:SetTable}{ps:List Nat}
end
section
variable {prog:Program}{w:World}{A:Around}{E:Value->Shared->Prop}{s:Shared}{a I T:Addr}{es:Array (Int×Value)}{ep:Nat}{t:SetTable}{ps:List Nat}{i:Nat}
end
end L2
namespace L2
open PySem PySem.Spec PyProof.Rows PySem.W
section
variable {prog:Program}{w:World}{A:Around}{E:Value->Shared->Prop}{s:Shared}{a I T:Addr}{es:Array (Int×Value)}{ep:Nat}{t:SetTable}{ps:List Nat}{i:Nat}
end
end L2
namespace L2
open PySem PySem.Spec PyProof.Rows
section
variable {prog:Program}{w:World}{A:Around}{R:Result->Shared->Prop}{I:Addr}{fp wr:List Addr}{G:Array GenState->Array GenState->Prop}{n:Nat}{P:Nat->Value->Prop}{St:Nat->Shared->Prop}
end
section
variable {prog:Program}{w:World}{A:Around}{E:Value->Shared->Prop}{s:Shared}
end
section
variable {X:Cx}
end
section
variable {prog:Program}{w:World}{A:Around}{R:Result->Shared->Prop}{s:Shared}
end
section
variable {X:Cx}
end
end L2
namespace L2
open PySem PySem.Spec PyProof.Rows PySem.W
section
variable {X:Cx}{pins:List (Addr×Obj)}{σ:St}{H:Hp}{s:Shared}{a:Addr}{o:Obj}{kvs:List (Key×V)}
end
section
variable {X:Cx}{tg:Expr}
end
section
variable {X:Cx}
end
end L2
namespace L2
open PySem PySem.Spec PyProof.Rows
section
variable {nl:Nat}{ix:List Nat}{g:TG}{tf:TT}{tk tv:TE}{σ:St}{H1:Hp}{D:Addr}{Q:VK}(Pv:Nat->List (Key×V)->Hp->Prop)
end
theorem wV {nl:Nat}{ix:List Nat}{te:TE}{tf:TT}{σ:St}{D:Addr}{ys:List V}{H:Hp}{x:V}{nxt:List V->Hp->Prop}{i:Nat}(h1:((ko nl ix σ).set i (some x)).drop nl=ix.map fun j=>(σ[j]?).join)
 (h:tf ((ko nl ix σ).set i (some x)) H fun b H5=>if b=true then te ((ko nl ix σ).set i (some x)) H5 fun y H6=>H6 D=some (.lst ys)/\ys.length < sizeLine/\nxt (ys++[y]) (upd H6 D (.lst (ys++[y]))) else nxt ys H5):d6 nl ix (gh i) tf te σ D ys H x nxt:=by
 unfold d6 gh;dsimp only;exact⟨⟨by simp,h1⟩,h⟩
def ad8 (t:TS):TS:=fun D σ H=>∃ N:St->Hp->Prop,(∀ σ' H',N σ' H'->D.nx σ' H')/\t { D with nx:=N } σ H
theorem cn {X:Cx}{st:Stmt}{t:TS}(h:PS X st t):PS X st (ad8 t):=by
 intro pins s σ H D I hw;obtain⟨N,hN,q⟩:=hw;refine thn (h pins s σ H _ I q) fun f s1 q1=>?_;cases f with
 | next=>obtain⟨σ',H',I',n⟩:=q1;exact⟨σ',H',I',hN _ _ n⟩
 | brk=>exact q1
 | cont=>exact q1
 | ret u=>exact q1
theorem aV (a b:Str):(a++b).cps.toList=a.cps.toList++b.cps.toList:=by
 show (a.cps++b.cps).toList=_;simp
theorem oH {a b:Str}(h:a.cps.toList=b.cps.toList):a=b:=by
 cases a;cases b;simp only at h;rw [Str.mk.injEq];exact Array.toList_inj.mp h
section
variable {X:Cx}{outer scope:Scope}{N N':List Str}{nl:Nat}{ix:List Nat}{tg iter:Expr}{ifs:List Expr}{pos:Pos}{wi:TI}{g:TG}{tf:TT}
theorem mj {elt:Expr}{te:TE}(h1:X.env.scope=outer)(h2:X.N=N)(hc:X.calm=true)(hi:PI X tg iter wi)
 (hg:∀ C fp s₀ H₀,PG (X.comp scope N' C fp s₀ H₀) tg g)(hf:∀ C fp s₀ H₀,PIf (X.comp scope N' C fp s₀ H₀) ifs tf)(he:∀ C fp s₀ H₀,PE (X.comp scope N' C fp s₀ H₀) elt te)
 (hck:nF outer scope N N' nl ix=true:=by decide +kernel)(hs:∀ x,foldedSetIterable iter X.env x=pure x:=by intro _;rfl):PE X (.ListComp elt [⟨tg,iter,ifs,0⟩] scope pos) (rh nl ix wi g tf te) :=
 let ⟨S,Cp⟩:=mE h1 h2 hck
 mx hc S Cp hi hg hf he hs
end
section
variable {X:Cx}{pins:List (Addr×Obj)}{σ:St}{H:Hp}{s:Shared}{h':Heap}
theorem Inv.turnedL {t':Nat}{fp:List Addr}(I:Inv X pins σ H s)(k:∀ b o,b ∉ fp->s.heap.get? b=some o->h'.get? b=some o)(hf:∀ b∈fp,sg X pins H b):Inv X pins σ H { s with heap:=h',toks:=t' }:=by
 have nit:∀ b u,H b=some u->b ∉ fp:=fun b u e z=>by have:=(hf b z).1;rw [e] at this;cases this
 refine I.step (g':=s.gens) (d':=s.drawn) (ch:=fp) (fun b hb=>?_) (fun b o _ _ hc e _=>k b o hc e) (fun b o _ _ hc e _=>⟨o.slots,k b o hc e⟩) (fun _ _ _ _ n=>n)
  (fun b o hc e=>⟨o,k b o hc e⟩) (fun _ _ e=>e) (fun _ _ _ e=>e) (fun b ps e=>⟨#[],by rw [e];simp⟩) (fun m hm=>?_) (fun b u e=>?_) I.bare
 ·obtain⟨f0,f1,f2,f3,f4,f5⟩:=hf b hb;exact⟨f3,f1,f4,f5⟩
 ·obtain⟨o,es,ep,ho,r⟩:=hm;exact⟨o,es,ep,k _ o (fun z=>(hf _ z).2.1 rfl) ho,r⟩
 ·refine (I.hok b u e).stay (fun c v hc q=>k c v ?_ q) (fun _ q=>q) fun _ _ q=>q;rcases hc with z | z
  ·rw [z];exact nit b u e
  ·exact nit c _ z
theorem Inv.turnedNew {t':Nat}{fp:List Addr}{a:Addr}{o:HO}(I:Inv X pins σ H s)(k:∀ b o,b ∉ fp->s.heap.get? b=some o->h'.get? b=some o)(hf:∀ b∈fp,sg X pins H b)(hp:s.heap.objs.size<=a)(new:ObjOk X.prog X.w (upd H a o) h' a o) :
 Inv X pins σ (upd H a o) { s with heap:=h',toks:=t' }:=by
 have ha:H a=none:=I.hok.fresh hp;have nit:∀ b u,H b=some u->b ∉ fp:=fun b u e z=>by have:=(hf b z).1;rw [e] at this;cases this
 have up:∀ {b u},H b=some u->upd H a o b=some u:=fun {b u} e=>by rw [ax (ai e ha)];exact e
 refine I.step (g':=s.gens) (d':=s.drawn) (ch:=fp) (fun b hb=>?_) (fun b o _ _ hc e _=>k b o hc e) (fun b o _ _ hc e _=>⟨o.slots,k b o hc e⟩) (fun b ob _ e n=>?_)
  (fun b o hc e=>⟨o,k b o hc e⟩) (fun _ _ e=>up e) (fun _ _ _ e=>up e) (fun b ps e=>⟨#[],by rw [up e];simp⟩) (fun m hm=>?_) (fun b u e=>?_) I.bare
 ·obtain⟨f0,f1,f2,f3,f4,f5⟩:=hf b hb;exact⟨f3,f1,f4,f5⟩
 ·rw [ax (afq (ae9 (afb e) hp))];exact n
 ·obtain⟨o,es,ep,ho,r⟩:=hm;exact⟨o,es,ep,k _ o (fun z=>(hf _ z).2.1 rfl) ho,r⟩
 ·by_cases hb:b=a
  ·subst hb;rw [ag] at e;cases e;exact new
  ·rw [ax hb] at e;refine (I.hok b u e).stay (fun c v hc q=>k c v ?_ q) (fun _ q=>up q) fun _ _ q=>up q;rcases hc with z | z
   ·rw [z];exact nit b u e
   ·exact nit c _ z
end
def ItE (K:PySem.W.Frag)(a:Addr):It :=
 ⟨fun i H=>∃ xs x,SqL K H a xs/\xs[i]? = some x,fun i H x H'=>∃ T v,x=.ref T/\H T=none/\H'=upd H T (.tup [.int (i:Int),v])/\∀ xs,SqL K H a xs->xs[i]? = some v,fun i H=>∃ xs,SqL K H a xs/\xs.length<=i⟩
theorem zf {P:Program}{w:World}{K:PySem.W.Frag}{es:List Expr}{kk:Nat}{tp:Pos}(a e it:Addr)(hei:e≠it):ady P w K (.Tuple es kk tp) (ItE K a) [e,it] e (fun i h=>(∃ old,IsEnum h e it (i:Int) old)/\h.IsListIter it a i) where
 mem:=by simp
 obj:=fun i h st b hb=>by
  obtain⟨⟨old,he⟩,hi⟩:=st;rcases aeY.mp hb with z | hb
  ·rw [z];exact⟨_,he,fun v z=>by cases z⟩
  ·rw [ae1.mp hb];obtain⟨o,e,c,d⟩:=hi;exact⟨o,e,fun v z=>by rw [d] at z;cases z⟩
 keep:=fun i h h' st k=>⟨let ⟨old,he⟩:=st.1;⟨old,k e (by simp) _ he⟩,st.2.at fun o e=>k it (by simp) o e⟩
 item:=by
  intro X hP hw hK hc i pins s σ H E I hf st hg;subst hP hw hK;obtain⟨xs,x,hq,hx⟩:=hg;obtain⟨its,rv,p,hz⟩:=I.list hq;obtain⟨u,hu,ru⟩:=rv.get hx;obtain⟨⟨old,he⟩,hit⟩:=st;refine wpAny_pyNext_enum_item he hit p.isList (x:=u) (by simpa using hu) hei fun h' ho hit' hT hsz k=>?_;have hh:∀ b o,b ∉ [e,it]->s.heap.get? b=some o->h'.get? b=some o:=fun b o hb q=>k b o (fun z=>hb (by simp [z])) (fun z=>hb (by simp [z])) q;refine⟨_,rfl,wpAny_letOwnedTupleGo_enum ho fun h2 he2 hs2=>?_⟩;have eT:s.heap.objs.size≠e:=aj3 (afb he);have hT2:h2.get? s.heap.objs.size=some { cls:=.type "tuple",data:=.seq #[.int i s.toks,u] }:=(hs2.2 _ eT).trans hT;have hh2:∀ b o,b ∉ [e,it]->s.heap.get? b=some o->h2.get? b=some o:=fun b o hb q=>(hs2.2 b (fun z=>hb (by simp [z]))).trans (hh b o hb q);have I2:=I.turnedNew (t':=s.toks+1) (h':=h2) (o:=.tup [.int (i:Int),x]) hh2 hf (ae4 _) ⟨by show 2<=sizeLine;decide,[.int i s.toks,u],.cons ⟨_,rfl⟩ (.cons ru .nil),_,hT2,rfl,_,rfl⟩;have fr:H s.heap.objs.size=none:=I.fresh;refine⟨.ref s.heap.objs.size,_,I2,rfl,⟨_,x,rfl,fr,rfl,fun ys hy=>by rw [I.list_inj hy hq];exact hx⟩,⟨⟨_,by simpa using he2⟩,hit'.at fun o q=>(hs2.2 it (ag1 hei)).trans q⟩,fun b hb=>?_⟩;have hlt:b < s.heap.objs.size:=by
   rcases aeY.mp hb with z | hb
   ·rw [z];exact afb he
   ·rw [ae1.mp hb];obtain⟨o,q,_⟩:=hit;exact afb q
  rw [ax (afq hlt)];exact (hf b hb).1
 done:=by
  intro X hP hw hK hc i pins s σ H E I hf st hg;subst hP hw hK;obtain⟨xs,hq,hx⟩:=hg;obtain⟨its,rv,p,hz⟩:=I.list hq;obtain⟨⟨old,he⟩,hit⟩:=st;have hl:=rv.length;exact wpAny_pyNext_enum_end (I.ok.hd hc) he hit p.isList (by simp;lia) fun h' eb=>⟨rfl,I.turnedL (t':=s.toks) (fun b o hb q=>eb b o (fun z=>hb (by simp [z])) q) hf⟩
 self:=fun _ _ _ _ _ st h=>let ⟨⟨_,he⟩,_⟩:=st;wpAny_pyIter_enum he h
def aeb (K:PySem.W.Frag)(ta:TA):TI:=fun σ H R=>ta σ H fun vs H1=>∃ a,vs=[.ref a]/\(∃ xs,SqL K H1 a xs)/\R (ItE K a) H1
section
variable {X:Cx}
theorem o6:bootBuiltins "enumerate" = some (.type "enumerate"):=by decide +kernel
theorem yX {a:Expr}{ta:TA}{p pos:Pos}{es:List Expr}{kk:Nat}{tp:Pos}(hg:Gl X "enumerate")(hm:X.mg "enumerate" = none)(ha:PA X [a] ta)(hs:starEach [a] X.env=[(false,eval a X.env)]:=by rfl):PI X (.Tuple es kk tp) (.Call (.Name "enumerate" p) [a] [] pos) (aeb X.K ta):=by
 intro pins s σ H R I h;refine Call_ (pj I hg hm o6 (agl (thn (ha pos pins s σ H _ I h) fun us s1 ⟨vs,H1,I1,r1,q1⟩=>?_) hs rfl));obtain⟨a,e,⟨xs,hq⟩,q⟩:=q1;subst e;obtain⟨u,rfl,ru⟩:=kZ r1;cases ru;obtain⟨its,rv,p,hz⟩:=I1.list hq;refine call_enumerate_list p.isList fun h' he hi hsz k=>?_;have I2:Inv X pins σ H1 { s1 with heap:=h' }:=I1.kept (t':=s1.toks) k;refine wpAny_pyIter_enum he ⟨s1.heap.objs.size+1,[s1.heap.objs.size+1,s1.heap.objs.size],_,ItE X.K a,H1,rfl,I2,zf a _ _ (Nat.succ_ne_self _),⟨⟨_,he⟩,hi⟩,fun b hb=>?_,q⟩;rcases aeY.mp hb with z | hb
 ·rw [z];exact I1.fpOk (agK _) (I1.hok.fresh (agK _))
 ·rw [ae1.mp hb];exact I1.fpOk (ae4 _) I1.fresh
end
theorem vq {K:PySem.W.Frag}{a:Addr}{xs:List V}{g:TG}{tb:TS}{D:vt}{σ:St}{H:Hp}(Pv:Nat->St->Hp->Prop)(h0:Pv 0 σ H)(hl:∀ i σ H,i<=xs.length->Pv i σ H->SqL K H a xs)
 (hs:∀ i x σ H T,xs[i]? = some x->Pv i σ H->H T=none->g (.ref T) σ (upd H T (.tup [.int (i:Int),x])) fun σ2 H2=>tb { D with nx:=Pv (i+1),ct:=Pv (i+1),bk:=D.nx } σ2 H2)(hd:∀ σ H,Pv xs.length σ H->D.nx σ H) :
 ∃ W:Nat->Nat->St->Hp->Prop,(∃ m,W 0 m σ H)/\∀ i m σ H,W i m σ H →
  ((ItE K a).stop i H/\D.nx σ H)\/((ItE K a).go i H/\∃ N:St->Hp->Prop,(∀ σ' H',N σ' H'->∃ m',m' < m/\W (i+1) m' σ' H')/\∀ x H',(ItE K a).yld i H x H'->g x σ H' fun σ2 H2=>tb { D with nx:=N,ct:=N,bk:=D.nx } σ2 H2):=by
 refine⟨fun i m σ H=>m=xs.length - i/\i<=xs.length/\Pv i σ H,⟨xs.length,by simp,afh _,h0⟩,?_⟩;rintro i m σ H ⟨rfl,hi,p⟩;have q:=hl i σ H hi p;by_cases hlt:i < xs.length
 ·refine .inr ⟨⟨xs,xs[i],q,by simp [hlt]⟩,Pv (i+1),fun σ' H' p'=>⟨xs.length - (i+1),by lia,rfl,hlt,p'⟩,fun x H' y=>?_⟩;obtain⟨T,v,ex,hT,eH,hv⟩:=y;subst ex eH;exact hs i v σ H T (hv xs q) p hT
 ·have e:i=xs.length:=by lia
  subst e;exact .inl ⟨⟨xs,q,ae4 _⟩,hd σ H p⟩
section
variable {prog:Program}{w:World}{A:Around}{E:Value->Shared->Prop}{s:Shared}
end
section
variable {X:Cx}
variable {o e:Expr}{es:List Expr}{to:TE}{t:TA}{name:Str}{apos cpos:Pos}{T id:String}{r:V->List V->Hp->VK->Prop}{ty:V->Hp->Prop}
end
section
variable {X:Cx}{K:PySem.W.Frag}{P:Program}{w:World}
end
section
variable {X:Cx}
theorem aax {i:Nat}{x:Str}{pos' spos:Pos}{elt tg iter:Expr}{ifs:List Expr}{scope:Scope}{pos:Pos}{N':List Str}{nl:Nat}{ix:List Nat}{wi:TI}{g:TG}{tf:TT}{te:TE}(hN:X.N.Nodup)(hi':X.N[i]? = some x)(hx:Loc X.env.scope x)
 (hc:X.calm=true)(S:CompScope X scope)(Cp:adM X scope N' nl ix)(hi:PI X tg iter wi)
 (hg:∀ C fp s₀ H₀,PG (X.comp scope N' C fp s₀ H₀) tg g)(hf:∀ C fp s₀ H₀,PIf (X.comp scope N' C fp s₀ H₀) ifs tf)(he:∀ C fp s₀ H₀,PE (X.comp scope N' C fp s₀ H₀) elt te)
 (hsw:swapsWith (.ListComp elt [⟨tg,iter,ifs,0⟩] scope pos) (some (.Name x pos')) spos.line X.env=pure true)
 (hs:∀ x,foldedSetIterable iter X.env x=pure x)(hfn:X.fn x=true\/X.env.scope.names.lookup x=some .local):PS X (.Assign [.Name x pos'] (.ListComp elt [⟨tg,iter,ifs,0⟩] scope pos) spos) (vf (rh nl ix wi g tf te) (gh i)):=by
 intro pins s σ H D I h;rw [exec_Assign_Name_used _ _ _ _ hsw];refine aeU (ahj (aeU ?_));show wpAny _ X.A (do let _ ← comprehension (.ListComp elt [⟨tg,iter,ifs,0⟩] scope pos) scope X.env _ (newList []) false (eval iter X.env) (some (assign (.Name x pos') X.env))) _ _ s;refine aeU (af6 (wpAny_comprehension_free (use:=some (assign (.Name x pos') X.env)) (cl:=ur X.env scope.names []) (Q:=fun _ s'=>∃ σ' H',Inv X pins σ' H' s'/\D.nx σ' H') rfl hs (pN (S.cells I.ok)) S.kind S.loc ?_) (fun _ s' hq=>ae3 (ae3 hq)) fun _ _ e=>e);refine thn (hi pins s σ H _ I h) fun v s1 h1=>thn h1 fun itv s2 h2=>?_;obtain⟨it,fp,tn,J,H2,rfl,I2,T,st2,f2,h2⟩:=h2;obtain⟨W,⟨m0,w0⟩,turn⟩:=h2 s2.heap.objs.size I2.fresh;refine wpAny_newObj_type (wpAny_newFunctionEnv S.nocell (by intro y hy;simp at hy) (fun h₁ hns₁ hsb₁=>?_) S.kind);dsimp only at hns₁ hsb₁ ⊢;have fpo:∀ b∈fp,b < s2.heap.objs.size:=fun b hb=>by
  obtain⟨o,e,_⟩:=T.obj 0 _ st2 b hb;exact afb e
 have I3:Inv X pins σ (upd H2 s2.heap.objs.size (.lst [])) { s2 with heap:=s2.heap.push { cls:=.type "list",data:=.seq ([]:List Value).toArray },toks:=s2.toks }:=I2.lnew .nil (afh _);have hD:(upd H2 s2.heap.objs.size (.lst [])) s2.heap.objs.size=some (.lst []):=ag;have f3:∀ b∈fp,sg X pins (upd H2 s2.heap.objs.size (.lst [])) b:=fun b hb=>by
  refine⟨?_,(f2 b hb).2⟩;rw [ax (afq (fpo b hb))];exact (f2 b hb).1
 generalize hS3:s2.heap.push { cls:=.type "list",dict:=none,data:=.seq ([]:List Value).toArray }=g3 at hns₁ hsb₁ I3 ⊢;have sz3:g3.objs.size=s2.heap.objs.size+1:=by rw [← hS3,ahD]
 have fpo3:∀ b∈fp,b < ({ s2 with heap:=g3,toks:=s2.toks }:Shared).heap.objs.size:=fun b hb=>by
  show b < g3.objs.size;rw [sz3];exact Nat.lt_succ_of_lt (fpo b hb)
 have old:∀ b o,g3.get? b=some o->h₁.get? b=some o:=fun b o e=>hsb₁.extBut b o (afq (afb e)) (ae0 _ e);have I4:=vC (tk:=s2.toks+([]:List (Str×Value)).length) S Cp I3 f3 fpo3 hns₁ old;generalize hX:X.comp scope N' g3.objs.size fp { s2 with heap:=g3,toks:=s2.toks } (upd H2 s2.heap.objs.size (.lst []))=X' at *;have hPr:X'.prog=X.prog:=by rw [← hX];rfl
 have hWr:X'.w=X.w:=by rw [← hX];rfl
 have hKr:X'.K=X.K:=by rw [← hX];rfl
 have hAr:X'.A=X.A:=by rw [← hX];rfl
 have hCa:X'.calm=true:=by rw [← hX];exact hc
 have hXe:X'.xe=fun _ _=>False:=by rw [← hX];rfl
 have hEx:X'.ex=fp:=by rw [← hX];rfl
 have hPn:X'.pn=[]:=by rw [← hX];rfl
 have hLo:X'.env.locals=g3.objs.size:=by rw [← hX];rfl
 have hEn:X'.env=compEnvC scope (ur X.env scope.names []) g3.objs.size X.env:=by rw [← hX];rfl
 have hg':=hg g3.objs.size fp { s2 with heap:=g3,toks:=s2.toks } (upd H2 s2.heap.objs.size (.lst []));have hf':=hf g3.objs.size fp { s2 with heap:=g3,toks:=s2.toks } (upd H2 s2.heap.objs.size (.lst []));have he':=he g3.objs.size fp { s2 with heap:=g3,toks:=s2.toks } (upd H2 s2.heap.objs.size (.lst []));rw [hX] at hg' hf' he';have I4':Inv X' [] (ko nl ix σ) (upd H2 s2.heap.objs.size (.lst [])) { s2 with heap:=h₁,toks:=s2.toks+([]:List (Str×Value)).length }:=I4;have back:∀ {H':Hp} {σ':St} {pins':List (Addr×Obj)} {s':Shared} {h':Heap},Inv X' pins' σ' H' s'->Heap.SameBut g3.objs.size s'.heap h'->Inv X pins σ H' { s' with heap:=h' }:=fun I' sb=>by
  subst hX;exact rV I3 f3 I' sb
 have stat:∀ {H':Hp},(∀ b∈fp,H' b=none)->∀ b∈fp,sg X' [] H' b:=fun hn b hb=>by
  refine⟨hn b hb,?_,?_,.inl (by rw [hEx];exact hb),?_,fun p hp=>by rw [hPn] at hp;cases hp⟩
  ·rw [hLo];exact afq (fpo3 b hb)
  ·exact I4'.ok.exfs b (by rw [hEx];exact hb)
  ·exact (I4'.ok.exf b (by rw [hEx];exact hb)).2
 have loop:codeAny (model X.prog X.w) X.A (.compLoop (.ListComp elt [⟨tg,iter,ifs,0⟩] scope pos) 0 (.ref it) (.ref s2.heap.objs.size) X'.env)
  (compPost (model X.prog X.w) X.A X.xe (some (assign (.Name x pos') X.env)) (fun _ s'=>∃ σ' H',Inv X pins σ' H' s'/\D.nx σ' H') (.ref s2.heap.objs.size) g3.objs.size) { s2 with heap:=h₁,toks:=s2.toks+([]:List (Str×Value)).length }:=by
  rw [← hPr,← hWr,← hAr];refine pI (fun n s'=>∃ i ys H',Inv X' [] (ko nl ix σ) H' s'/\tn i s'.heap/\(∀ b∈fp,H' b=none)/\W i n ys H') ?_ m0
   ⟨0,[],_,I4',T.keep _ _ _ st2 (fun b hb o e=>old b o (by rw [← hS3];exact ae0 _ e)),fun b hb=>(f3 b hb).1,w0⟩
  rintro n s5 ⟨i,ys,H5,I5,st5,fr5,w5⟩;obtain⟨hD5,alt⟩:=turn i n ys H5 w5;rcases alt with ⟨stop,qn⟩ | ⟨go,step⟩
  ·rw [hPr,hWr];refine thn (T.done X' hPr hWr hKr hCa i [] s5 _ H5 _ I5 (stat fr5) st5 stop) fun r s6 ⟨hr,I6⟩=>?_;subst hr;obtain⟨m,hn,_⟩:=I6.loc;rw [hLo] at hn;have I7:Inv X pins σ H5 s6:=back I6 (Heap.SameBut.refl _ _);have nC:H5 g3.objs.size=none:=by
    have:=I6.free;rw [hLo] at this;exact this
   have fC:sg X pins H5 g3.objs.size:=I3.fpOk (ae4 _) nC;show wpAny _ _ (assign (.Name x pos') X.env (.ref s2.heap.objs.size)) _ _ _;refine wpAny_assign_Name (oy I7 hN hi' hx (v:=.ref s2.heap.objs.size) rfl (fun s8 I8 ⟨a8,sb8,ha8⟩=>?_) hfn);have nCa:g3.objs.size≠a8:=by
    rcases ha8 with z | z
    ·rw [z];exact fC.2.1
    ·exact fun q=>fC.2.2.2.2.1 x a8 z q.symm
   refine⟨m,hn.sameBut sb8 nCa,fun h' sb=>⟨_,H5,?_,qn⟩⟩;exact I8.turnedL (t':=s8.toks) (fp:=[g3.objs.size]) (fun b o hb e=>(sb.2 b (fun z=>hb (by rw [z];exact ae1.mpr rfl))).trans e) (fun b hb=>by rw [ae1.mp hb];exact fC)
  ·have it5:=T.item X' hPr hWr hKr hCa i [] s5 _ H5 (fun _ _=>False) I5 (stat fr5) st5 go;rw [← hPr,← hWr] at it5;refine thn it5 fun r s6 ⟨u,hr,h6⟩=>?_;subst hr;refine thn h6 fun _ s7 ⟨x,H7,I7,r7,y7,st7,fr7⟩=>?_;have I7':=I7.pinned (stat fr7) (T.obj _ _ st7);have g7:=hg' _ s7 _ H7 x u _ I7' r7 (step x H7 y7);rw [hXe] at g7;refine thn g7 fun _ s8 ⟨σ8,H8,I8,⟨hl8,hd8⟩,q8⟩=>?_;have f8:=hf' _ s8 σ8 H8 _ I8 q8;rw [hXe] at f8;refine thn f8 fun ok s9 ⟨H9,I9,q9⟩=>?_;have again:∀ {H10:Hp} {s10:Shared} {ys':List V},Inv X' ([]++pD fp s7.heap) σ8 H10 s10->(∃ m',m' < n/\W (i+1) m' ys' H10)->∃ m,m < n/\∃ i ys H',Inv X' [] (ko nl ix σ) H' s10/\tn i s10.heap/\(∀ b∈fp,H' b=none)/\W i m ys H':=fun {H10 s10 ys'} I10 ⟨m',hm,w'⟩=>by
    refine⟨m',hm,i+1,ys',H10,sx I10.unpinned hl8 hd8,T.keep _ _ _ st7 fun b hb o e=>(I10.pin (b,o) (ae8 _ (ae8 _ (fo hb e)))).1,fun b hb=>?_,w'⟩;obtain⟨o,e,d⟩:=T.obj _ _ st7 b hb;exact (I10.pin (b,o) (ae8 _ (ae8 _ (fo hb e)))).2.1
   cases ok with
   | false =>
    rw [if_neg ae2] at q9 ⊢;exact again I9 q9
   | true =>
    rw [if_pos rfl] at q9 ⊢;have e9:=he' _ s9 σ8 H9 _ I9 q9;rw [hXe] at e9;refine thn e9 fun xv s10 ⟨y,H10,I10,r10,hD10,hz,mw⟩=>?_;have a10:=dw (X:=X') _ s10 σ8 H10 (.ref s2.heap.objs.size) [y] _ [xv] (fun _ H'=>H'=upd H10 s2.heap.objs.size (.lst (ys++[y]))) I10 rfl (.cons r10 .nil) ⟨_,ys,y,rfl,rfl,hD10,hz,rfl⟩;rw [hXe] at a10;refine thn a10 fun _ s11 ⟨_,H11,I11,_,e11⟩=>?_;subst e11;exact again I11 mw
 rw [hEn] at loop;exact codeAny_compStart_list loop (T.self _ 0 _ _ _ (T.keep _ _ _ st2 (fun b hb o e=>old b o (by rw [← hS3];exact ae0 _ e))) loop)
theorem acg {i:Nat}{x:Str}{pos' spos:Pos}{elt tg iter:Expr}{ifs:List Expr}{outer scope:Scope}{pos:Pos}{N N':List Str}{nl:Nat}{ix:List Nat}{wi:TI}{g:TG}{tf:TT}{te:TE}(hN:X.N.Nodup)(hi':X.N[i]? = some x)(hx:Loc X.env.scope x)
 (h1:X.env.scope=outer)(h2:X.N=N)(hc:X.calm=true)(hi:PI X tg iter wi)
 (hg:∀ C fp s₀ H₀,PG (X.comp scope N' C fp s₀ H₀) tg g)(hf:∀ C fp s₀ H₀,PIf (X.comp scope N' C fp s₀ H₀) ifs tf)(he:∀ C fp s₀ H₀,PE (X.comp scope N' C fp s₀ H₀) elt te)
 (hsw:swapsWith (.ListComp elt [⟨tg,iter,ifs,0⟩] scope pos) (some (.Name x pos')) spos.line X.env=pure true:=by rfl)
 (hck:nF outer scope N N' nl ix=true:=by decide +kernel)(hs:∀ x,foldedSetIterable iter X.env x=pure x:=by intro _;rfl)(hfn:X.fn x=true\/X.env.scope.names.lookup x=some .local:=by first | exact .inl rfl | exact .inr rfl | assumption) :
 PS X (.Assign [.Name x pos'] (.ListComp elt [⟨tg,iter,ifs,0⟩] scope pos) spos) (vf (rh nl ix wi g tf te) (gh i)) :=
 let ⟨S,Cp⟩:=mE h1 h2 hck
 aax hN hi' hx hc S Cp hi hg hf he hsw hs hfn
end
section
variable {X:Cx}{K:PySem.W.Frag}{P:Program}{w:World}
end
theorem uN (k:Str):∀ {ss:List Str},k∈ss->∃ j,ss[j]? = some k/\(∀ m,m < j->ss[m]?≠some k)/\ss.erase k=ss.eraseIdx j
 | a::r,h=>by
  by_cases e:a=k
  ·subst e;exact⟨0,rfl,fun m hm=>absurd hm (Nat.not_lt_zero _),by simp⟩
  ·have hk:k∈r:=(aeY.mp h).resolve_left fun z=>e z.symm;obtain⟨j,h1,h2,h3⟩:=uN k hk;refine⟨j+1,by simpa using h1,fun m hm=>?_,?_⟩
   ·cases m with
    | zero=>simpa using e
    | succ m=>simpa using h2 m (by lia)
   ·rw [List.erase_cons_tail (by simpa using e),h3]
    rfl
theorem jZ {k:Str}:∀ {vs:List Value} {ss:List Str},StrsAre vs ss->∀ j (hj:j < vs.length),isStrOf k vs[j]=true↔ss[j]? = some k
 | _,_,.nil,j,hj=>absurd hj (Nat.not_lt_zero _)
 | _,_,.cons x t r,0,hj=>by simp [isStrOf]
 | _,_,.cons x t r,j+1,hj=>by
  have:=jZ (k:=k) r j (by simpa using hj);simpa using this
theorem jm {α β:Type}(f:α->β):∀ (l:List α) (j:Nat),(l.eraseIdx j).map f=(l.map f).eraseIdx j
 | [],_=>rfl
 | _::_,0=>rfl
 | a::l,j+1=>by
  show f a::(l.eraseIdx j).map f=f a::(l.map f).eraseIdx j;rw [jm f l j]
section
variable {X:Cx}
def ab5:V->List V->Hp->VK->Prop:=fun x vs H Q=>∃ (l:Addr) (ss:List Str) (k:Str),x=.ref l/\vs=[.str k]/\H l=some (.lst (ss.map V.str))/\k∈ss/\Q .non (upd H l (.lst ((ss.erase k).map V.str)))
theorem sJ:MtM X "list.remove" ab5:=by
 intro pins s σ H x vs v us Q I rx rv h;obtain⟨l,ss,k,rfl,rfl,hH,hk,q⟩:=h;cases rx;obtain⟨u,rfl,t,rfl⟩:=rv.one;obtain⟨z,its,n,r,hl,e⟩:=I.lstM hH;have hi:StrsAre its ss:=ft r;obtain⟨j,h1,h2,h3⟩:=uN k hk;have hjs:j < ss.length:=(aeZ.mp h1).1;have hlen:its.length=ss.length:=by rw [← hl,aeT]
 have hj:j < its.length:=by lia
 refine agt F.slot_list_remove ⟨_,e,rfl⟩ F.entry_list_remove (F.args_list_remove_2 _ _)
  (MeetsSeq.list_remove l its.toArray n (.str k t) (isStrOf k) (fun y hy=>eq_isStrOf k t hi y (by simpa using hy)) j (by simpa using hj) (by simpa using (jZ hi j hj).mpr h1) (fun m hm hlt=>?_) (by rw [ae7];lia)) ⟨e,?_⟩
 ·have hm':m < its.length:=by simpa using hm
  have:=h2 m hlt;rw [← Bool.not_eq_true];intro c;exact this ((jZ hi m hm').mp (by simpa using c))
 rw [h3,jm] at q;refine⟨.non,_,I.lset (its':=its.eraseIdx j) hH e ?_ (r.eraseIdx j) ?_,rfl,q⟩
 ·show its.toArray.eraseIdxIfInBounds j=(its.eraseIdx j).toArray;rw [agF]
 ·have:=oF (ss.map V.str) j;lia
end
section
variable {prog:Program}{w:World}{A:Around}{E:Value->Shared->Prop}
theorem u7 {it t:Addr}{items:Array Value}(hne:t≠it):∀ (n i:Nat) (s:Shared) (Q:List Value->Shared->Prop),s.heap.IsListIter it t i->s.heap.IsList t items->i+n<=items.size →
 (∀ h',h'.IsListIter it t (i+n)->Heap.SameBut it s.heap h'->Q ((items.toList.drop i).take n) { s with heap:=h' })->wpAny (model prog w) A (draw (.ref it) n) Q E s
 | 0,i,s,Q,hit,_,_,hQ=>by
  show wpAny _ _ (pure []) Q E s;exact ae3 (by simpa using hQ s.heap hit (Heap.SameBut.refl ..))
 | n+1,i,s,Q,hit,ht,hle,hQ=>by
  have hlt:i < items.size:=by lia
  show wpAny _ _ (pyNext (.ref it) >>= _) Q E s;refine aeU (wpAny_pyNext_list_item hit ht (x:=items[i]) (by simp [hlt]) fun h₁ hit₁ hs₁=>?_);have ht₁:h₁.IsList t items:=let ⟨o,ho,r⟩:=ht;⟨o,(hs₁.2 t hne).trans ho,r⟩;refine aeU (afJ (u7 hne n (i+1) _ _ hit₁ ht₁ (by lia) fun h₂ hit₂ hs₂=>ae3 ?_));have hd:items.toList.drop i=items[i]::items.toList.drop (i+1):=by simp [afU,hlt]
  have:=hQ h₂ (by rw [show i+(n+1)=i+1+n by lia];exact hit₂) (hs₁.trans hs₂);rw [hd,List.take_succ_cons] at this;exact this
theorem mf {env:Env}{elts:List Expr}{x1}{pos:Pos}{t:Addr}{items:Array Value}{Q:Unit->Shared->Prop}{s:Shared}(hh:A.handled=none)(ht:s.heap.IsList t items)
 (hn:(assignEach elts env).length=items.size)(hstar:(assignEach elts env).findIdx? (·.1)=none)
 (h:∀ h',Heap.ExtBut s.heap.objs.size s.heap h'->wpAny (model prog w) A (assignInOrder ((assignEach elts env).map (·.2)) items.toList) Q E { s with heap:=h' }) :
 wpAny (model prog w) A (assign (.Tuple elts x1 pos) env (.ref t)) Q E s:=by
 rw [assign_Tuple];refine aeU (ahj ?_);unfold unpack;rw [hn,hstar];refine aeU (afJ ?_);have hlt:t≠s.heap.objs.size:=by obtain⟨o,ho,_⟩:=ht;exact afq (afb ho)
 unfold unpackItems;refine aeU ?_;unfold notIterableAtAll;refine aeU (aiP ht.typeIs slot_list_iter.lookup ?_);refine ae3 ?_;simp only [af8,ahU];refine aeU (afJ (aij ht ?_));have htp:(s.heap.push { cls:=.type "list_iterator",data:=.fields #[.ref t,.int 0 0] }).IsList t items:=ht.push _;refine aeU (afJ (u7 hlt items.size 0 _ _ ⟨_,afo _ rfl,rfl,rfl⟩ htp (by lia) fun h₁ hit₁ hs₁=>?_));have hall:List.take items.size (List.drop 0 items.toList)=items.toList:=by
  rw [afV];exact afI (by simp)
 rw [hall];rw [if_neg (by simp)];have ht₁:h₁.IsList t items:=let ⟨o,ho,r⟩:=htp;⟨o,(hs₁.2 t hlt).trans ho,r⟩;refine aeU (afJ (wpAny_pyNext_list_end hh hit₁ ht₁ (by simp) fun h₂ he₂=>?_));simp only [Option.isSome_none,af8,ahU];refine ae3 (h h₂ fun b o hb e=>he₂ b o hb (hs₁.extBut b o hb (ae0 _ e)))
end
section
variable {X:Cx}
def aeL (K:PySem.W.Frag)(n:Nat)(t:TGs):TG:=fun v σ H Q=>∃ a xs,v=.ref a/\SqL K H a xs/\xs.length=n/\t xs σ H Q
theorem acJ {es:List Expr}{k:Nat}{t:TGs}{n:Nat}{pos:Pos}(hc:X.calm=true)(h:PGs X es t)
 (hn:(assignEach es X.env).length=n:=by rfl)(hst:(assignEach es X.env).findIdx? (·.1)=none:=by rfl):PG X (.Tuple es k pos) (aeL X.K n t):=by
 intro pins s σ H v u Q I r hw;obtain⟨a,xs,e1,hq,hl,hw⟩:=hw;subst e1;cases r;obtain⟨its,rv,ht,hz⟩:=I.list hq;refine mf (I.ok.hd hc) ht.isList (by simp [hn,← hl,rv.length]) hst fun h' hx=>?_;have I1:Inv X pins σ H { s with heap:=h' }:=I.kept (t':=s.toks) fun b o e=>hx b o (afq (afb e)) e;exact h pins _ σ H xs _ Q I1 (by simpa using rv) hw
def kD:Key->PyData
 | .inl i=>.int i
 | .inr x=>.str x
end
section
variable {P:Program}{w:World}{K:PySem.W.Frag}{mg:Str->Option Value}{base:Heap}
end
section
variable {X:Cx}
def aez (K:PySem.W.Frag)(te tk:TE):TE:=fun σ H Q=>te σ H fun x H1=>tk σ H1 fun y H2=>y=.int (-1)/\∃ a xs,x=.ref a/\SqL K H2 a xs/\∀ p,H2 p=none->Q (.ref p) (upd H2 p (.lst xs.reverse))
theorem Vals.rev:∀ {xs:List V} {us:List Value},Vals xs us->Vals xs.reverse us.reverse
 | _,_,.nil=>.nil
 | _,_,.cons a b=>by
  rw [List.reverse_cons,List.reverse_cons];exact (Vals.rev b).append (.cons a .nil)
theorem eJ {pos:Pos}:PE X (.List [] pos) (oR cu):=bq af
def aa1:Expr->Bool
 | .Starred .. => false
 | _=>true
theorem ue (e:Expr)(es:List Expr)(env:Env)(h:aa1 e=true):starEach (e::es) env=(false,eval e env)::starEach es env:=by
 cases e<;>first | rfl | exact absurd h ae2
theorem bI {e:Expr}{es:List Expr}{te:TE}{t:TA}(ha:PE X e te)(hr:PA X es t)(h:aa1 e=true):PA X (e::es) (aJ te t):=ae ha hr (ue e es _ h)
theorem adT {k:Nat}{p1 p2 p3:Pos}:PE X (.Tuple [.List [] p1,.List [] p2] k p3) (wD (aJ (oR cu) (aJ (oR cu) cu))):=cC (ae eJ (ae eJ af))
theorem abw {e k:Expr}{te tk:TE}{p2 pos:Pos}(he:PE X e te)(hk:PE X k tk)(hsb:∀ v i:Value,subscripted (.Slice none none (some k) p2) false v i=operate [v,i] (getItem v i):=by intro _ _;with_unfolding_all rfl):PE X (.Subscript e (.Slice none none (some k) p2) pos) (aez X.K te tk):=by
 intro pins s σ H Q I h;refine Subscript_ (thn (he pins s σ H _ I h) fun v s1 ⟨x,H1,I1,r1,q1⟩=>?_);refine wpAny_Slice ?_;rw [evalPart_none];refine ae3 ?_;refine ae3 ?_;refine thn (hk pins s1 σ H1 _ I1 q1) fun vk s3 ⟨y,H3,I3,r3,q3⟩=>?_;obtain⟨rfl,a,xs,rfl,hx,q⟩:=q3;obtain⟨tk,rfl⟩:=r3;cases r1;have I4:Inv X pins σ H3 { s3 with heap:=s3.heap.push { cls:=.type "slice",data:=.fields #[.none,.none,.int (-1) tk] } }:=I3.kept (t':=s3.toks) fun b ob q=>ae0 _ q;obtain⟨its,r,ht,hz⟩:=I4.list hx;have hlen:=r.length;refine tail_any (ops:=[.ref a,.ref s3.heap.objs.size]) ht.isList.typeIs ail.lookup ?_ (hsb _ _);refine wpAny_getItem_list_slice ht.isList (Heap.IsSliceOf.new ..) .none .none (.int (-1) tk) (by simp) ?_ (by rw [ae7]<;>lia);rw [PySem.W.krv_pick];refine⟨.ref _,_,I4.laid (t':=s3.toks) (o:=.lst xs.reverse) (fun b ob q=>ae0 _ q) (ae4 _) ?_,rfl,q _ (I4.hok.fresh (ae4 _))⟩;exact⟨by rw [List.length_reverse];exact hz,_,0,by simpa using r.rev,afo _ rfl⟩
theorem aeh {M:Model}{A:Around}{α:Type}{t:Sem α}{s:Shared}{Q:α->Shared->Prop}{E:Value->Shared->Prop}(hn:1<=s.toks)(h:wpAny M A t (fun a s'=>1<=s'.toks->Q a s') E s):wpAny M A t Q E s :=
 wpAny_with_toks hn (af6 h (fun _ _ x=>x) fun _ _ x _=>x)
theorem yu:iw X (.type "int") (fun xs H Q=>∃ (z:Str) (n:Int),xs=[.str z]/\intText? z=some n/\z.length<=640/\Q (.int n) H):=by
 intro pins s σ H xs us Q I r h;obtain⟨z,n,rfl,hz,hl,q⟩:=h;obtain⟨u,rfl,t,rfl⟩:=kZ r;exact PySem.W.KIN.call_text hz hl ⟨.int n,H,I.tok _,⟨_,rfl⟩,q⟩
def aea (a b:Str)(te:TE):TE:=fun σ H Q=>te σ H fun v H1=>∃ i:Int,v=.int i/\i.natAbs < 1000/\∀ z:Str,Q (.str z) H1
theorem abI {a b:Str}{j1 j2:Nat}{p1 p2 p3 pos:Pos}{e:Expr}{te:TE}(he:PE X e te)(ha:a.length<=1000)(hb:b.length<=1000):PE X (.JoinedStr [.Constant (.str a) j1 p1,.FormattedValue e (-1) none p3,.Constant (.str b) j2 p2] pos) (aea a b te):=by
 intro pins s σ H Q I h;have lim:5000<=sizeLine:=by decide
 refine JoinedStr_many (joinParts_cons (ahr ?_));have el:∀ x y:Str,(x++y).length=x.length+y.length:=fun x y=>by
  show (x.cps++y.cps).size=_;rw [agG];rfl
 have e0:(Str.empty++a).length=a.length:=by rw [el];show 0+_=_;lia
 refine⟨by lia,joinParts_cons (FormattedValue_plain ?_)⟩;refine thn (he pins _ σ H _ (I.tok _) h) fun v s1 ⟨x,H1,I1,rx,i,ex,hi,q⟩=>?_;subst ex;obtain⟨t,rfl⟩:=(show ∃ t,v=Value.int i t from rx);have hlog:i.natAbs.log2 < 1920:=by
  rcases age i.natAbs with z | z
  ·rw [z];decide
  ·exact ae9 ((ah2 (by lia)).mpr (ae9 hi (by decide:1000<=2 ^ 10))) (by decide)
 refine wpAny_formatField_int hlog ?_;have tl:(Str.ofString (toString i)).length<=4:=by rw [PySem.ofString_length];exact int_text_length_le10 (k:=3) (by decide) (show i.natAbs < 10 ^ 3 from hi)
 refine⟨by rw [el];lia,?_⟩;refine joinParts_consE (joinParts_cons (ahr ?_));refine⟨by rw [el,el];lia,?_⟩;have J:=I1.tok (s1.toks+1+1+1+1);refine joinParts_nil ⟨.str _,H1,J,⟨_,rfl⟩,q _⟩ (by rw [el,el];lia)
theorem tH {pins:List (Addr×Obj)}{σ:St}{H:Hp}{s:Shared}{a C dx:Addr}{fs:List (Str×V)}{f:Str}{v:V}{A:Around}{E:Value->Shared->Prop}{b:Bool}{Q:Value->Shared->Prop}(I:Inv X pins σ H s)(e:H a=some (.ins C dx fs))(c:Cls X.K C)(n:NoAttr X.K C f)(l:fs.lookup f=some v)
 (h:∀ u s',1<=s'.toks->Inv X pins σ H s'->RelV v u->Q u s'):wpAny (model X.prog X.w) A (getAttr (.ref a) f b) Q E s:=by
 obtain⟨mA,O,r,_,_,_⟩:=nI I.hok e;obtain⟨u,hu,ru⟩:=RelO.some_of (v:=v) (o:=mA f) (by rw [← l];exact r f);exact zd I.kIn O (c.get f) c.hd n hu (rC ru) (h u _ (Nat.le_add_left 1 _) (I.tok _) ru)
def ac8 (K:PySem.W.Frag)(sp:Sp)(E:XK)(ta:TE)(fl a b:Str):TE:=fun σ H Q=>ta σ H fun x H1=>∃ o C dx fs v,x=.ref o/\H1 o=some (.ins C dx fs)/\Cls K C/\NoAttr K C fl/\fs.lookup fl=some v/\sp [v] H1 (fun r H2=>∃ z:Str,r=.str z/\z.length<=10000/\(Txt.replace z a b).length<=sizeLine/\Q (.str (Txt.replace z a b)) H2) E
theorem zv {x:Str}{p fpos pos apos cpos p1 p2:Pos}{e:Expr}{fl a b:Str}{j1 j2:Nat}{ta:TE}{CX:CXT}{k:Nat}{f:Addr}{fd:FuncData}{ps:List Str}{sp:Sp}{E:XK}(F:FnOk X.prog X.w X.K X.mg X.base CX k f fd ps sp)(hr:Room k X.A)(hg:Gl X x)(hm:X.mg x=some (.ref f))(hk:keepIn X.K (.ref f)=true)(hb:Binds X.K fd ps [])(hx:iX CX X E)(he:PE X e ta)(hab:(a == b)=false)(hbl:b.length<=100)
 (hfb:attributeBase e fl X.env (eval e X.env)=eval e X.env)(hbase:attributeBase (.Call (.Name x p) [.Attribute e fl fpos] [] pos) "replace" X.env (eval (.Call (.Name x p) [.Attribute e fl fpos] [] pos) X.env)=eval (.Call (.Name x p) [.Attribute e fl fpos] [] pos) X.env:=by rfl)
 (hline:(apos.endLine == cpos.line)=true:=by rfl)(hdb:(x == ("__debug__" : Str))=false:=by decide)(hst:starEach [.Attribute e fl fpos] X.env=[(false,eval (.Attribute e fl fpos) X.env)]:=by rfl) :
 PE X (.Call (.Attribute (.Call (.Name x p) [.Attribute e fl fpos] [] pos) "replace" apos) [.Constant (.str a) j1 p1,.Constant (.str b) j2 p2] [] cpos) (ac8 X.K sp E ta fl a b):=by
 intro pins s σ H Q I h;refine wpAny_Call_method_late hbase rfl hline rfl ?_;refine agc (fF I hg hm ?_ hdb);refine agx (h₀:=X.base) I.ok.mod.kin hk ?_ hst rfl;rw [hst];show wpAny _ _ (spliced ((false,eval (.Attribute e fl fpos) X.env)::backTo pos [])) _ _ s;refine ahl (zc hfb (thn (he pins s σ H _ I h) fun u s1 ⟨y,H1,I1,ry,o,C,dx,fs,v,ey,eo,c,n,l,q⟩=>?_));subst ey;obtain rfl:u=Value.ref o:=ry;refine tH I1 eo c n l fun u2 s2 k2 I2 ru=>aik ⟨I2.kIn,?_⟩;refine aeh k2 (thn (qS (us:=[u2]) (vs:=[v]) (dvs:=[]) F hr hb .nil hx I2 (.cons ru .nil) q) fun v3 s3 ⟨r,H3,I3,r3,z,er,hz,gl,q3⟩ k3=>?_);subst er;obtain⟨t,rfl⟩:=r3;refine⟨"str","str.replace",afi,aio,PySem.F.type_str_replace,ahg _ _ _,(fun _ e=>nomatch e),?_⟩;refine ahv rfl (ahS ?_);refine ahl (ahr (k:=j1) (pos:=p1) ?_);refine ahl (ahr (k:=j2) (pos:=p2) ?_);refine aik ?_;have hu:(s3.toks == 0 || s3.toks+1 == 0)=false:=by
  rw [Bool.or_eq_false_iff];exact⟨aiU (by lia),aiU (by lia)⟩
 have lim:2000000<=sizeLine:=by decide
 have l1:=StrLaws.occ_length_le z a 0 z.length (z.length+1);have l2:(Builtin.Str.occurrences z a 0 z.length (z.length+1)).length * b.length<=10001 * 100:=Nat.mul_le_mul (by lia) hbl;refine call_gives aio (ahg _ _ _) PySem.F.entry_str_replace (PySem.F.args_str_replace_3 _ _ _) (gives_str_replace z a b t _ _ fun he=>⟨hu,(show (s3.toks == s3.toks+1)=false from aiU (by lia)),hab,?_⟩) ?_
 ·unfold PySem.Builtin.Str.tooLong;exact afv (by lia)
 ·unfold Txt.replace at q3 gl;refine ahp ?_;by_cases hc:((Builtin.Str.occurrences z a 0 z.length (z.length+1)).isEmpty || (a.length == 0 && b.length == 0))=true
  ·rw [if_pos hc] at q3 gl ⊢;exact⟨gl,fun t' k=>⟨.str _,H3,I3.tok _,⟨t',rfl⟩,q3⟩⟩
  ·rw [if_neg hc] at q3 gl ⊢;exact⟨gl,fun t' k=>⟨.str _,H3,I3.tok _,⟨t',rfl⟩,q3⟩⟩
def ac5 (K:PySem.W.Frag)(C:Addr)(bm:List Value):Prop:=∃ (nm q:Str) (N:Addr) (bs:List Value) (hdct:Bool) (sn:List Str) (sub:List Value) (ab:Bool) (col:Option Bool) (dd:Option Addr) (k0 k1 k2 k3 k5:Option Value) (newId:String),∀ h:Heap,K.In h->h.get? C=some (excClassObj nm q C N bs bm hdct sn sub ab col dd k0 k1 k2 k3 k5 newId)
def yd (K:PySem.W.Frag)(C:Addr)(cls:Value):Prop:=∃ C1 bm1,cls=.ref C1/\ac5 K C1 bm1/\(Value.ref C1::bm1).contains (.ref C)=true
def adZ (i:Nat)(M:Value->Prop)(tb:(St->XK)->TS)(th:TS):TS:=fun D σ H=>tb (fun σ' cls _ H'=>M cls/\∀ a,H' a=none->th { nx:=fun σ2 H2=>D.nx (σ2.set i none) H2,rt:=fun _ _=>False } (σ'.set i (some (.ref a))) (upd H' a (yF a cls))) D σ H
theorem abq {X:Cx}{body suite:List Stmt}{b₀:Stmt}{C:Addr}{bm:List Value}{n cx:Str}{i:Nat}{np hpos pos:Pos}{tb:(St->XK)->TS}{th:TS}(hst:X.stack=X.env::X.outer)(hfr:X.env.frame=some X.env.locals)(hg:Gl X cx)(hm:X.mg cx=some (.ref C))(c:pq X.K C bm)(hN:X.N.Nodup)(hi:X.N[i]? = some n)(hk:X.env.kindOf n=some .local)
 (hb:∀ pins xe Eh,(∀ σ H s ev s',Inv X pins σ H s->CXr X.prog X.w X.stack H s (Eh σ) ev s'->xe ev s')->PSs (X.tried pins xe) body (tb Eh))(hsu:∀ a,PSs (X.marked a) (b₀::suite) th)(hdb:(cx == ("__debug__" : Str))=false:=by decide)(hloc:Loc X.env.scope n:=by first | exact .inl rfl | exact .inr rfl)(hfn:X.fn n=true\/X.env.scope.names.lookup n=some .local:=by first | exact .inl rfl | exact .inr rfl | assumption) :
 PS X (.Try body [.ExceptHandler (some (.Name cx np)) (some n) (b₀::suite) hpos] [] [] pos) (adZ i (yd X.K C) tb th):=by
 intro pins s σ H D I h;obtain⟨nm,q,N',bs,bmB,hdct,sn,sub,ab,col,dd,k0,k1,k2,k3,k5,B,Bn,newId,nid,initId,inN,bmN,mN,f1,f2,f3,f4,f5,g⟩:=c.facts;refine wpAny_Try_except ?_;have hand:∀ (σ':St) (H1:Hp) (s1:Shared) (ev:Value) (s2:Shared),Inv X pins σ' H1 s1->CXr X.prog X.w X.stack H1 s1 (fun cls _ H'=>yd X.K C cls/\∀ a,H' a=none->th { nx:=fun σ2 H2=>D.nx (σ2.set i none) H2,rt:=fun _ _=>False } (σ'.set i (some (.ref a))) (upd H' a (yF a cls))) ev s2 →
  wpAny (model X.prog X.w) X.A (noteFrame ev X.env) (fun _ s₂=>wpAny (model X.prog X.w) X.A (setFlight ev none) (fun _ s₃=>wpAny (model X.prog X.w) X.A (handleBy ev X.env [.ExceptHandler (some (.Name cx np)) (some n) (b₀::suite) hpos]) (SP X pins D) X.xe s₃) X.xe s₂) X.xe s2:=by
  intro σ' H1 s1 ev s2 I1 hcx;obtain⟨e,T,cls,a0,H2,rfl,os,bare,un,hok,ex,ge,gT,ne,nT,mm,qq⟩:=hcx;obtain⟨C1,bm1,rfl,c1,hm1⟩:=mm;obtain⟨nm1,q1,N1,bs1,hdct1,sn1,sub1,ab1,col1,dd1,j0,j1,j2,j3,j5,newId1,gc1⟩:=c1;have J:Inv X pins σ' H2 s2:=I1.call' os un hok bare (fun b z=>absurd z (by simp));have old:∀ b o,X.s₀.heap.get? b=some o->b ∉ X.ex->b≠e/\b≠T:=fun b o gb hx=>by
   obtain⟨o',g'⟩:=I1.base.there b o gb hx;exact⟨(fun z=>by rw [z,ge] at g';cases g'),(fun z=>by rw [z,gT] at g';cases g')⟩
  have pn:∀ p∈X.pn++pins,p.1≠e/\p.1≠T:=fun p hp=>by
   have g':=(I1.pin p hp).1;exact⟨(fun z=>by rw [z,ge] at g';cases g'),(fun z=>by rw [z,gT] at g';cases g')⟩
  have st:=J.stack;obtain⟨oe,vs,oT,ts,g1,g2,g3,g4,g6,g7,g8,g9⟩:=ex;have frm:X.A.frames=some (X.env::X.outer):=by rw [← hst];exact J.ok.frames
  have sth:s2.heap.FunFrames (iG s2.heap (e::T::frs X.stack)) (X.env::X.outer):=by
   have:=jh (L:=e::T::frs X.stack) st fun b hb=>aeW _ (aeW _ hb);rw [hst] at this ⊢;exact this
  refine wpAny_noteFrame_onW (base:=iG s2.heap (e::T::frs X.stack)) (L:=X.env.locals) (outer:=X.outer) frm sth hfr ⟨oe,vs,T,oT,ts,g1,g2,g3,g4,afX _ (aeW _ aeX),g6,g7,g8,g9⟩ (fun b o gb=>agv _ gb) (afX _ aeX) fun h' L=>?_;obtain⟨st',fn',⟨oe',vs',T',oT',ts',k1',k2',k3',k4',k5',k6',k7',k8',k9'⟩,kp'⟩:=L;have J2:Inv X pins σ' H2 { s2 with heap:=h' }:=J.bend (t':=s2.toks) ne nT old pn st' kp';have notF:T' ∉ frs X.stack:=fun z=>by
   rw [hst] at z;obtain⟨_,o',e',d⟩:=fn'.mem z;rw [k7'] at e';cases e';exact d _ k8'
  have notIn:∀ b o,s2.heap.get? b=some o->b≠e->b≠T->b≠T':=fun b o gb h1 h2 z=>by
   subst z;have:(iG s2.heap (e::T::frs X.stack)).get? b=some o:=agJ _ gb fun z=>by
    rcases aeY.mp z with z | z
    ·exact h1 z
    ·rcases aeY.mp z with z | z
     ·exact h2 z
     ·exact notF z
   rw [k5'] at this;cases this
  have nT':H2 T'=none:=by
   cases gt:H2 T' with
   | none=>rfl
   | some o =>
    obtain⟨ob,g'⟩:=(J.hok T' o gt).obj;exact absurd rfl (notIn T' ob g' k6' fun z=>by rw [z,nT] at gt;cases gt)
  have old':∀ b o,X.s₀.heap.get? b=some o->b ∉ X.ex->b≠T'/\b≠T':=fun b o gb hx=>by
   obtain⟨o',g'⟩:=J.base.there b o gb hx;have:=notIn b o' g' (old b o gb hx).1 (old b o gb hx).2;exact⟨this,this⟩
  have pn':∀ p∈X.pn++pins,p.1≠T'/\p.1≠T':=fun p hp=>by
   have:=notIn p.1 p.2 (J.pin p hp).1 (pn p hp).1 (pn p hp).2;exact⟨this,this⟩
  have sz:3 < ts'.size:=(aga.mp k9').1;refine wpAny_setFlight_none k1' k3' k4' k7' k8' sz ?_;have flight:∀ (hh:Heap) (t:Nat) (ot:Obj) (tv:Array Value),Inv X pins σ' H2 { s2 with heap:=hh,toks:=t }->hh.get? T'=some ot->ot.data=.fields tv->Inv X pins σ' H2 { s2 with heap:=hh.update T' (Obj.mapFields fun x=>x.setIfInBounds 3 .none),toks:=t }:=fun hh t ot tv IJ gt dt=>by
   refine IJ.bend (t':=t) nT' nT' old' pn' (fun b o gb=>kH (fun z=>?_) (agv _ gb)) fun b o gb hd=>⟨o.slots,kH (fun z=>?_) gb⟩
   ·have:(iG hh (T'::T'::frs X.stack)).get? T'=none:=afX _ aeX;rw [z] at gb;rw [this] at gb;cases gb
   ·have gb':hh.get? b=some o:=gb;rw [z,gt] at gb';cases gb';exact hd _ dt
  have J3:Inv X pins σ' H2 { s2 with heap:=h'.update T' (Obj.mapFields fun x=>x.setIfInBounds 3 .none) }:=flight h' s2.toks oT' ts' J2 k7' k8';obtain⟨oe3,vs3,oT3,ts3,m1,m2,m3,m4,m5,m6⟩:=marked_update .none k1' k3' k4' k7' k8' k9';have e3:(h'.update T' (Obj.mapFields fun x=>x.setIfInBounds 3 .none)).get? e=some oe':=kH (ag1 k6') k1';rw [e3] at m1;cases m1;generalize h'.update T' (Obj.mapFields fun x=>x.setIfInBounds 3 .none)=h3 at *;refine wpAny_handleBy_cons ?_ (fun z=>by cases z);refine codeAny_handlers_test (fF (X:=X.marked e) (J3.marked e) hg hm ?_ hdb);refine abO (g _ J3.kIn).1 (gc1 _ J3.kIn) e3 k2'.1 f4 hm1 ?_;refine codeAny_handlers_suite_as (wpAny_setFlight_none e3 m2 m3 m4 m5 (aga.mp m6).1 ?_);have J4:Inv X pins σ' H2 { s2 with heap:=h3.update T' (Obj.mapFields fun x=>x.setIfInBounds 3 .none) }:=flight h3 s2.toks oT3 ts3 J3 m4 m5;have e4:(h3.update T' (Obj.mapFields fun x=>x.setIfInBounds 3 .none)).get? e=some oe':=kH (ag1 k6') e3;generalize h3.update T' (Obj.mapFields fun x=>x.setIfInBounds 3 .none)=h4 at *;have eL:e≠X.env.locals:=fun z=>by
   obtain⟨m,⟨o,es,ep,ho,r⟩,_⟩:=J4.loc;have ho':h4.get? X.env.locals=some o:=ho;rw [← z,e4] at ho';cases ho';have:=r.1;rw [k3'] at this;cases this
  have eC:∀ x c,X.env.cells.lookup x=some c->c≠e:=fun x c hc z=>by
   obtain⟨v,o,ho,hd⟩:=J4.cell x c hc;have ho':h4.get? c=some o:=ho;rw [z,e4] at ho';cases ho';rw [k3'] at hd;cases hd
  have J5:Inv X pins σ' (upd H2 e (yF e oe'.cls)) { s2 with heap:=h4 }:=J4.track ne e4 (fun b o gb hx=>(old b o gb hx).1) (fun p hp=>(pn p hp).1) eL eC;rw [k2'.1] at J5;refine oy (X:=X.marked e) (J5.marked e) hN hi hloc (show RelV (.ref e) (.ref e) from rfl) (fun s5 I5 _=>?_) hfn;refine af6 (hsu e pins s5 _ _ _ I5 (qq e ne)) (fun fl s6 x=>?_) fun _ _ z=>z.elim;cases fl with
  | next =>
   obtain⟨σ2,H6,I6,qn⟩:=x;have I6':=I6.unmarked J.ok.hd;obtain⟨m,nsm,hml⟩:=I6'.loc;refine wpAny_nameGoes_keeps hk nsm (by rw [I6'.ok.kind];rfl) fun h7 v ns sb=>?_;exact⟨σ2.set i none,H6,I6'.goes hN hi hk hml ns sb nsm,qn⟩
  | brk=>obtain⟨_,_,_,z⟩:=x;exact z.elim
  | cont=>obtain⟨_,_,_,z⟩:=x;exact z.elim
  | ret u=>obtain⟨_,_,_,_,_,z⟩:=x;exact z.elim
 refine af6 (hb pins _ _ hand [] s σ H D (I.tried _) h) (fun f s1 x=>?_) (fun _ _ x=>x);have x':=SP.untried x;cases f with
 | next=>obtain⟨σ',H',I',q⟩:=x';exact ahW ⟨σ',H',I',q⟩
 | brk=>exact x'
 | cont=>exact x'
 | ret u=>exact x'
theorem pQ:iw X (.builtin "isinstance") (fun xs H Q=>∃ (a p C1:Addr) (bm1:List Value) (vs:List V) (cvs:List Value) (b:Bool),xs=[.ref a,.ref p]/\H p=some (.tup vs)/\(∀ us,Vals vs us->us=cvs)/\H a=some (yF a (.ref C1))/\k7 X.K C1 bm1/\kitAny X.K (.ref C1) cvs=some b/\Q (.bl b) H):=by
 intro pins s σ H xs us Q I r h;obtain⟨a,p,C1,bm1,vs,cvs,b,rfl,hp,one,ha,x,e,q⟩:=h;obtain⟨u,v,rfl,ru,rv⟩:=vT r;cases ru;cases rv;obtain⟨⟨o,ho,hc⟩,_⟩:=I.hok a _ ha;obtain⟨z,its,rr,ob,g,c1,n,d1⟩:=I.hok p _ hp;have:=one its rr;subst this;obtain⟨c,dd,dt,sl⟩:=ob;cases c1;cases d1;exact PySem.W.kia_tup (uY x a) I.kIn ⟨o,ho,hc⟩ g e (fun z=>nomatch z) fun tk=>⟨.bl b,H,I.tok _,rfl,q⟩
end
def eI (n:Nat):Str:=Str.ofString (toString (n:Int))
def wL (n:Nat):List Nat:=(Nat.toDigits 10 n).map Char.toNat
theorem vS (n:Nat):(eI n).cps.toList=wL n:=PySem.W.KIN.signs_num n
theorem adb {n:Nat}(h:n < 10):wL n=[48+n]:=by
 unfold wL;rw [Nat.toDigits_of_lt_base h]
 match n,h with
 | 0,_=>rfl
 | 1,_=>rfl
 | 2,_=>rfl
 | 3,_=>rfl
 | 4,_=>rfl
 | 5,_=>rfl
 | 6,_=>rfl
 | 7,_=>rfl
 | 8,_=>rfl
 | 9,_=>rfl
theorem aec {n:Nat}(h:10<=n):wL n=wL (n / 10)++[48+n % 10]:=by
 have e:Nat.toDigits 10 n=Nat.toDigits 10 (n / 10)++Nat.toDigits 10 (n % 10):=by
  have:=Nat.toDigits_append_toDigits (b:=10) (n:=n / 10) (d:=n % 10) (by decide) (by lia) (Nat.mod_lt _ (by decide));rw [this,Nat.div_add_mod]
 have l:wL (n % 10)=[48+n % 10]:=adb (Nat.mod_lt _ (by decide));unfold wL at l ⊢;rw [e,afe,l]
theorem abg (n:Nat):(∀ c∈wL n,48<=c/\c<=57)/\1<=(wL n).length/\(0 < n->(wL n)[0]?≠some 48)/\∀ k,n < 10 ^ (k+1)->(wL n).length<=k+1:=by
 induction n using Nat.strongRecOn with
 | ind n ih =>
  by_cases h:n < 10
  ·rw [adb h];refine⟨fun c hc=>?_,by simp,fun p=>?_,fun k _=>by simp⟩
   ·rw [ae1.mp hc];lia
   ·simp;lia
  ·have h':10<=n:=by lia
   obtain⟨i1,i2,i3,i4⟩:=ih (n / 10) (by lia);rw [aec h'];refine⟨fun c hc=>?_,by rw [aeV];lia,fun p=>?_,fun k hk=>?_⟩
   ·rcases afc.mp hc with z | z
    ·exact i1 c z
    ·rw [ae1.mp z];have:=Nat.mod_lt n (show 0 < 10 by decide);lia
   ·rw [afp (by lia)];exact i3 (by lia)
   ·rw [aeV,ahI];cases k with
    | zero=>simp at hk;lia
    | succ k =>
     have:=i4 k (by rw [Nat.div_lt_iff_lt_mul (by decide)];rw [Nat.pow_succ] at hk;exact hk);lia
structure ace (z:Str)(n:Nat):Prop where
 l1:1<=z.length
 l9:z.length<=9
 dg:∀ c∈z.cps.toList,48<=c/\c<=57
 ld:z = "0" ∨ z.cps.toList[0]?≠some 48
 rd:intText? z=some (n:Int)
theorem lZ {n:Nat}(h:n < 1000000000):ace (eI n) n:=by
 obtain⟨g1,g2,g3,g4⟩:=abg n;have e:=vS n;have el:(eI n).length=(wL n).length:=by rw [← e];exact afd.symm
 refine⟨by lia,by rw [el];exact g4 8 (by lia),fun c hc=>g1 c (by rw [← e];exact hc),?_,PySem.W.KIN.num_reads (by lia) (by lia)⟩;rcases age n with z | z
 ·subst z;exact .inl rfl
 ·exact .inr (by rw [e];exact g3 z)
section
variable {prog:Program}{w:World}{A:Around}{E:Value->Shared->Prop}{s:Shared}
def pr:Nat->List Value->List (Key×Value)
 | _,[]=>[]
 | k,v::r=>(.inl (k:Int),v)::pr (k+1) r
end
section
variable {prog:Program}{w:World}{A:Around}{R:Result->Shared->Prop}
end
section
variable {prog:Program}{w:World}{A:Around}{E:Value->Shared->Prop}{s:Shared}
end
section
variable {X:Cx}
end
section
variable {prog:Program}{w:World}{A:Around}{E:Value->Shared->Prop}{s:Shared}
end
section
variable {prog:Program}{w:World}{A:Around}{R:Result->Shared->Prop}
end
section
variable {prog:Program}{w:World}{A:Around}{E:Value->Shared->Prop}{s:Shared}
end
section
variable {X:Cx}
end
theorem qk {K:PySem.W.Frag}{nl:Nat}{ix:List Nat}{te:TE}{σ:St}{H1:Hp}{D a:Addr}{Q:VK}{xs:List V}{F:V->V}(ha:H1 a=some (.lst xs))(nD:H1 D=none)(hl:xs.length<=1000000)
 (hc:∀ x,((ko nl ix σ).set 0 (some x)).drop nl=ix.map fun j=>(σ[j]?).join)
 (ht:∀ (H:Hp) (x:V) (R:VK),x∈xs->Same H1 H->R (F x) H->te ((ko nl ix σ).set 0 (some x)) H R)
 (hd:∀ H,Same H1 H->H D=some (.lst (xs.map F))->Q (.ref D) H):qV nl ix (gh 0) acE te σ (Itl K a) H1 D Q:=by
 have lim:1000000 < sizeLine:=by decide
 refine gc (xs:=xs) (fun i ys H=>ys=(xs.take i).map F/\H D=some (.lst ys)/\Same H1 H) ⟨rfl,ag,fun b u e=>by rw [ax (ai e nD)];exact e⟩ (fun i ys H ⟨_,h,_⟩=>h) (fun i ys H ⟨_,_,s⟩=>aAA (s a _ ha)) ?_ ?_
 ·rintro i ys H x hx ⟨rfl,hD,s⟩;have hi:i < xs.length:=(aeZ.mp hx).1;refine cJ (hc x) (ht H x _ (afY hx) s ⟨hD,by rw [aeT,afs];lia,nx hi ⟨?_,ag,fun b u e=>?_⟩⟩)
  ·rw [afW,hx,afe]
   rfl
  ·rw [ax (ai e nD)];exact s b u e
 ·rintro ys H ⟨rfl,hD,s⟩;rw [afK] at hD;exact hd H s hD
section
variable {prog:Program}{w:World}{A:Around}{R:Result->Shared->Prop}{s:Shared}
end
section
variable {X:Cx}
end
section
variable {X:Cx}{tg:Expr}
end
section
variable {X:Cx}
theorem wW {prog:Program}{w:World}{A:Around}{E:Value->Shared->Prop}{s:Shared}{z y:Str}{t u:Tok}{Q:Value->Shared->Prop}(hy:(y.length == 0)=false)(hz:z.length<=1000000)
 (q:∀ l k,l.map (·.1)=Txt.split z y->Q (.ref s.heap.objs.size) { s with heap:=s.heap.push { cls:=.type "list",data:=.seq (strValues l).toArray },toks:=k }) :
 wpAny (model prog w) A (call (.builtin "str.split") [.str z t,.str y u]) Q E s:=by
 have lim:1000002<=sizeLine:=by decide
 have hz1:z.length<=sizeLine:=by lia
 have hz2:(Builtin.Str.partsBetween z (Builtin.Str.occurrences z y 0 z.length (z.length+1)) y.length).length<=sizeLine:=by
  have a:=StrLaws.occ_length_le_len z y 0 z.length (z.length+1);rw [len_partsBetween];lia
 cases h1:(decide (z.length < y.length) || decide (Builtin.Str.strKind z < Builtin.Str.strKind y)) with
 | true =>
  have e:Txt.split z y=[z]:=by unfold Txt.split;rw [if_pos h1]
  exact agt aiC (ahg _ _ _) aip (aib _ _) (meets_str_split_cannot_occur z y t u h1) (q [(z,t)] _ e.symm)
 | false =>
  cases hf:(Builtin.Str.occurrences z y 0 z.length (z.length+1)).isEmpty with
  | true =>
   have e:Txt.split z y=[z]:=by unfold Txt.split;rw [if_neg (by rw [h1];decide),if_pos hf]
   exact agt aiC (ahg _ _ _) aip (aib _ _) (meets_str_split_not_found z y t u h1 hy hf) (q [(z,t)] _ e.symm)
  | false =>
   have e:Txt.split z y=Builtin.Str.partsBetween z (Builtin.Str.occurrences z y 0 z.length (z.length+1)) y.length:=by
    unfold Txt.split;rw [if_neg (by rw [h1];decide),if_neg (by rw [hf];decide)]
   refine agt aiC (ahg _ _ _) aip (aib _ _) (meets_str_split_sep z y t u h1 hy hf hz1 hz2) ?_;have q':=q (numbered s.toks (Txt.split z y)) (s.toks+(Txt.split z y).length) (numbered_texts _ _);rw [e] at q';rw [strsFrom_eq];exact q'
def acQ:V->List V->Hp->VK->Prop:=fun x vs H Q=>∃ z y:Str,x=.str z/\vs=[.str y]/\(y.length == 0)=false/\z.length<=1000000/\∀ l,H l=none->Q (.ref l) (upd H l (.lst ((Txt.split z y).map V.str)))
theorem qQ:∀ (l:List (Str×Tok)),Vals ((l.map (·.1)).map V.str) (strValues l)
 | []=>.nil
 | (x,t)::r=>.cons ⟨t,rfl⟩ (qQ r)
theorem qu:MtM X "str.split" acQ:=by
 intro pins s σ H x vs v us Q I rx rv h;obtain⟨z,y,rfl,rfl,hy,hz,q⟩:=h;obtain⟨t,rfl⟩:=rx;obtain⟨u,rfl,t2,rfl⟩:=rv.one;refine wW hy hz fun l k e=>?_;have ll:((Txt.split z y).map V.str).length<=sizeLine:=by
  have a:=split_le z y;have lim:1000002<=sizeLine:=by decide
  rw [aeT];lia
 refine⟨.ref s.heap.objs.size,_,I.laid (t':=k) (o:=.lst ((Txt.split z y).map V.str)) (fun b o e=>ae0 _ e) (ae4 _) ⟨ll,strValues l,0,by rw [← e];exact qQ l,afo _ rfl⟩,rfl,q _ I.fresh⟩
def adY:V->List V->Hp->VK->Prop:=fun x vs H Q=>∃ z y:Str,x=.str z/\vs=[.str y]/\(y.length == 0)=false/\z.length<=sizeLine/\∀ l,H l=none->Q (.ref l) (upd H l (.tup [.str (Txt.partition z y).1,.str (Txt.partition z y).2.1,.str (Txt.partition z y).2.2]))
theorem lE:MtM X "str.partition" adY:=by
 intro pins s σ H x vs v us Q I rx rv h;obtain⟨z,y,rfl,rfl,hy,hz,q⟩:=h;obtain⟨t,rfl⟩:=rx;obtain⟨u,rfl,t2,rfl⟩:=rv.one;have fin:∀ (ta tb tc:Tok) (k:Nat),EP X pins σ Q (.ref s.heap.objs.size) { s with heap:=s.heap.push { cls:=.type "tuple",data:=.seq [.str (Txt.partition z y).1 ta,.str (Txt.partition z y).2.1 tb,.str (Txt.partition z y).2.2 tc].toArray },toks:=k }:=fun ta tb tc k =>
  ⟨.ref s.heap.objs.size,_,I.laid (t':=k) (o:=.tup [.str (Txt.partition z y).1,.str (Txt.partition z y).2.1,.str (Txt.partition z y).2.2]) (fun b o e=>ae0 _ e) (ae4 _) ⟨by show 3<=sizeLine;decide,_,.cons ⟨ta,rfl⟩ (.cons ⟨tb,rfl⟩ (.cons ⟨tc,rfl⟩ .nil)),_,afo _ rfl,rfl,_,rfl⟩,rfl,q _ I.fresh⟩
 refine agt F.slot_str_partition (ahg _ _ _) F.entry_str_partition (F.args_str_partition_2 _ _) (meets_str_partition z y t t2 hy hz) ?_
 revert fin
 unfold Txt.partition;cases Builtin.Str.occurrences z y 0 z.length 1 with
 | nil=>intro fin;exact fin _ _ _ _
 | cons i r=>intro fin;exact fin _ _ _ _
end
end L2
namespace TS
open PySem PyProof.Rows
def zb:Bool->Keyed->Array Keyed->Nat->Nat->Nat->StateT SortSt Sem (Option Nat):=sortPriv% PySem.Builtin.gallop
def kk (κ:KeyKind)(p:Keyed):κ.α:=(κ.keyOf p.1).getD κ.dflt
def Va (κ:KeyKind)(p:Keyed):Prop:=∃ a,κ.keyOf p.1=some a
theorem oE {κ:KeyKind}{xs:Array Keyed}{i:Nat}{p:Keyed}(h:xs[i]? = some p):KK κ xs i=kk κ p:=by
 unfold KK kk;rw [h]
section
variable {prog:Program}{w:World}{A:Around}{E:Value->Shared->Prop}{s:Shared}{κ:KeyKind}
theorem adL (hO:κ.OneLt){st:SortSt}{x y:Keyed}{Q:Option Bool->SortSt->Prop}(hk:kindOf st=oneType')(hx:Va κ x)(hy:Va κ y)(h:Q (some (κ.blt (kk κ x) (kk κ y))) st):wpS (model prog w) A E s (lt' x y) Q st:=by
 obtain⟨a,ha⟩:=hx;obtain⟨b,hb⟩:=hy;have ea:kk κ x=a:=by unfold kk;rw [ha];rfl
 have eb:kk κ y=b:=by unfold kk;rw [hb];rfl
 rw [ea,eb] at h;rw [lt'_eq];refine ae6 (ah3 ?_);rw [hk,keyLt'_oneType];exact ae6 (wpS_lift (wpAny_attempt (hO prog w A _ s x.1 y.1 a b ha hb ⟨rfl,afa h⟩)))
theorem cE {arr:Array Keyed}{i:Nat}{p:Keyed}{st:SortSt}{Q:Keyed->SortSt->Prop}(h:arr[i]? = some p)(q:Q p st):wpS (model prog w) A E s (elem' arr i) Q st:=by
 rw [elem'_eq,h];exact afa q
def bey (κ:KeyKind)(left:Bool)(key:Keyed)(arr:Array Keyed)(base i:Nat):Bool:=if left=true then κ.blt (KK κ arr (base+i)) (kk κ key) else !κ.blt (kk κ key) (KK κ arr (base+i))
theorem aau (hO:κ.OneLt){left:Bool}{key:Keyed}{arr:Array Keyed}{base i:Nat}{st:SortSt}{Q:Option Bool->SortSt->Prop}(hk:kindOf st=oneType')(hkey:Va κ key)(hv:∃ p,arr[base+i]? = some p/\Va κ p)(h:Q (some (bey κ left key arr base i)) st) :
 wpS (model prog w) A E s (elem' arr (base+i) >>= fun x=>if left=true then lt' x key else lt' key x >>= fun l=>pure (l.map fun b=>!b)) Q st:=by
 obtain⟨p,hp,vp⟩:=hv;unfold bey at h;rw [oE hp] at h;refine ae6 (cE hp ?_);cases left with
 | true =>
  rw [if_pos rfl] at h ⊢;exact adL hO hk vp hkey h
 | false =>
  rw [if_neg ae2] at h ⊢;exact ae6 (adL hO hk hkey vp (afa h))
theorem vM (hO:κ.OneLt){left:Bool}{key:Keyed}{arr:Array Keyed}{base n hint:Nat}{st:SortSt}{Q:Option Nat->SortSt->Prop}(hk:kindOf st=oneType')(hkey:Va κ key)(hv:∀ i,i < n->∃ p,arr[base+i]? = some p/\Va κ p)(hn:hint < n)
 (mono:∀ i j,i<=j->j < n->bey κ left key arr base j=true->bey κ left key arr base i=true)
 (h:∀ k,k<=n->(∀ i,i < k->bey κ left key arr base i=true)->(∀ i,k<=i->i < n->bey κ left key arr base i=false)->Q (some k) st) :
 wpS (model prog w) A E s (zb left key arr base n hint) Q st:=by
 have down:∀ i j,i<=j->j < n->bey κ left key arr base i=false->bey κ left key arr base j=false:=fun i j hij hj e=>by
  cases q:bey κ left key arr base j with
  | false=>rfl
  | true=>rw [mono i j hij hj q] at e;cases e
 refine ae6 (aau hO hk hkey (hv hint hn) ?_);dsimp -zeta -zetaHave only
 lift_lets
 extract_lets jp
 have hjp:∀ lastofs ofs lo hi,lo<=hi->hi<=n->(∀ i,i < lo->bey κ left key arr base i=true)->(∀ i,hi<=i->i < n->bey κ left key arr base i=false)->wpS (model prog w) A E s (jp () lastofs ofs lo hi) Q st:=by
  intro lastofs ofs lo hi h1 h2 h3 h4;refine ae6 (agy (afN (I:=fun x c st'=>st'=st/\∃ l r,c=(none,l,r)/\l<=r/\r<=n/\r - l<=n - x/\(∀ i,i < l->bey κ left key arr base i=true)/\(∀ i,r<=i->i < n->bey κ left key arr base i=false))
   (Q:=fun c st'=>st'=st/\∃ l r,c=(none,l,r)/\r<=n/\(∀ i,i < r->bey κ left key arr base i=true)/\(∀ i,r<=i->i < n->bey κ left key arr base i=false)) ?_ ?_ ⟨rfl,lo,hi,rfl,h1,h2,by lia,h3,h4⟩) ?_)
  ·rintro x c st' _ hx ⟨rfl,l,r,rfl,g1,g2,g3,g4,g5⟩;dsimp only;by_cases hge:l ≥ r
   ·rw [if_pos hge];have e:l=r:=by lia
    subst e;exact afa ⟨rfl,l,l,rfl,g2,g4,g5⟩
   ·rw [if_neg hge];refine ae6 (aau hO hk hkey (hv _ (by lia)) ?_);dsimp only;cases q:bey κ left key arr base (l+(r - l) / 2) with
    | true =>
     rw [if_pos rfl];exact afa ⟨rfl,_,r,rfl,by lia,g2,by lia,fun i hi=>mono i _ (by lia) (by lia) q,g5⟩
    | false =>
     rw [if_neg ae2];exact afa ⟨rfl,l,_,rfl,by lia,by lia,by lia,g4,fun i hi hin=>down _ i hi hin q⟩
  ·rintro c st' ⟨rfl,l,r,rfl,g1,g2,g3,g4,g5⟩;have e:l=r:=by lia
   subst e;exact⟨rfl,l,l,rfl,g2,g4,g5⟩
  ·rintro c st' ⟨rfl,l,r,rfl,g2,g4,g5⟩;exact afa (h r g2 g4 g5)
 clear_value jp
 cases q0:bey κ left key arr base hint with
 | true =>
  rw [if_pos rfl];refine ae6 (agy (afN (I:=fun x c st'=>st'=st/\∃ lf of,c=(none,lf,of)/\x+1<=of/\lf < of/\hint+lf < n/\bey κ left key arr base (hint+lf)=true)
   (Q:=fun c st'=>st'=st/\∃ lf of,c=(none,lf,of)/\lf < of/\hint+lf < n/\bey κ left key arr base (hint+lf)=true/\(n - hint<=of\/bey κ left key arr base (hint+of)=false)) ?_ ?_ ⟨rfl,0,1,rfl,by lia,by lia,by lia,q0⟩) ?_)
  ·rintro x c st' _ hx ⟨rfl,lf,of,rfl,g1,g2,g3,g4⟩;dsimp only;by_cases hge:of ≥ n - hint
   ·rw [if_pos hge];exact afa ⟨rfl,lf,of,rfl,g2,g3,g4,.inl hge⟩
   ·rw [if_neg hge];refine ae6 (aau hO hk hkey (hv _ (by lia)) ?_);dsimp only;cases q:bey κ left key arr base (hint+of) with
    | true =>
     rw [if_neg (by simp)];exact afa ⟨rfl,of,_,rfl,by lia,by lia,by lia,q⟩
    | false =>
     rw [if_pos (show (!false)=true from rfl)];exact afa ⟨rfl,lf,of,rfl,g2,g3,g4,.inr q⟩
  ·rintro c st' ⟨rfl,lf,of,rfl,g1,g2,g3,g4⟩;exact⟨rfl,lf,of,rfl,g2,g3,g4,.inl (by lia)⟩
  ·rintro c st' ⟨rfl,lf,of,rfl,g2,g3,g4,g5⟩;dsimp only;refine hjp _ _ _ _ (by lia) (by lia) (fun i hi=>mono i (hint+lf) (by lia) g3 g4) (fun i hi hin=>?_);rcases g5 with g5 | g5
   ·lia
   ·exact down (hint+of) i (by lia) hin g5
 | false =>
  rw [if_neg ae2];refine ae6 (agy (afN (I:=fun x c st'=>st'=st/\∃ lf of,c=(none,lf,of)/\x+1<=of/\lf < of/\lf<=hint/\bey κ left key arr base (hint - lf)=false)
   (Q:=fun c st'=>st'=st/\∃ lf of,c=(none,lf,of)/\lf < of/\lf<=hint/\bey κ left key arr base (hint - lf)=false/\(hint+1<=of\/bey κ left key arr base (hint - of)=true)) ?_ ?_ ⟨rfl,0,1,rfl,by lia,by lia,by lia,q0⟩) ?_)
  ·rintro x c st' _ hx ⟨rfl,lf,of,rfl,g1,g2,g3,g4⟩;dsimp only;by_cases hge:of ≥ hint+1
   ·rw [if_pos hge];exact afa ⟨rfl,lf,of,rfl,g2,g3,g4,.inl hge⟩
   ·rw [if_neg hge];refine ae6 (aau hO hk hkey (hv _ (by lia)) ?_);dsimp only;cases q:bey κ left key arr base (hint - of) with
    | true =>
     rw [if_pos rfl];exact afa ⟨rfl,lf,of,rfl,g2,g3,g4,.inr q⟩
    | false =>
     rw [if_neg ae2];exact afa ⟨rfl,of,_,rfl,by lia,by lia,by lia,q⟩
  ·rintro c st' ⟨rfl,lf,of,rfl,g1,g2,g3,g4⟩;exact⟨rfl,lf,of,rfl,g2,g3,g4,.inl (by lia)⟩
  ·rintro c st' ⟨rfl,lf,of,rfl,g2,g3,g4,g5⟩;dsimp only;refine hjp _ _ _ _ (by lia) (by lia) (fun i hi=>?_) (fun i hi hin=>down (hint - lf) i (by lia) hin g4);rcases g5 with g5 | g5
   ·lia
   ·exact mono i (hint - of) (by lia) (by lia) g5
end
def aak:Array Keyed->Array Keyed->StateT SortSt Sem (Array Keyed):=sortPriv% PySem.Builtin.mergeLo
def zH:Array Keyed->Array Keyed->StateT SortSt Sem (Array Keyed):=sortPriv% PySem.Builtin.mergeHi
def le (κ:KeyKind)(x y:Keyed):Prop:=κ.kle (kk κ x) (kk κ y)
def lt (κ:KeyKind)(x y:Keyed):Prop:=κ.klt (kk κ x) (kk κ y)
def SL (κ:KeyKind)(l:List Keyed):Prop:=l.Pairwise (le κ)
section
variable {κ:KeyKind}
theorem le_trans {x y z:Keyed}(a:le κ x y)(b:le κ y z):le κ x z:=agR a b
theorem le_of_lt {x y:Keyed}(a:lt κ x y):le κ x y:=ag6 a
theorem le_refl (x:Keyed):le κ x x:=agH _
structure Mg (κ:KeyKind)(LL o A B:List Keyed):Prop where
 perm:(o++(A++B)).Perm LL
 sa:SL κ (o++A)
 sb:SL κ (o++B)
def o5 (κ:KeyKind)(LL m:List Keyed):Prop:=m.Perm LL/\SL κ m
theorem Mg.a {LL o c A B:List Keyed}(h:Mg κ LL o (c++A) B)(hc:∀ x∈c,∀ y∈B,le κ x y):Mg κ LL (o++c) A B:=by
 refine⟨?_,?_,?_⟩
 ·have:=h.perm;rw [ae5] at this;rw [ae5];exact this
 ·rw [ae5];exact h.sa
 ·have s1:=h.sa;have s2:=h.sb;unfold SL at *;rw [← ae5] at s1;rw [afG] at s1 s2 ⊢;refine⟨s1.1,s2.2.1,fun x hx y hy=>?_⟩;rcases afc.mp hx with hx | hx
  ·exact s2.2.2 x hx y hy
  ·exact hc x hx y hy
theorem Mg.b {LL o c A B:List Keyed}(h:Mg κ LL o A (c++B))(hc:∀ y∈c,∀ x∈A,le κ y x):Mg κ LL (o++c) A B:=by
 refine⟨?_,?_,?_⟩
 ·refine List.Perm.trans ?_ h.perm;rw [ae5];refine agb o ?_;rw [← ae5,← ae5];exact agp B agz
 ·have s1:=h.sa;have s2:=h.sb;unfold SL at *;rw [← ae5] at s2;rw [afG] at s1 s2 ⊢;refine⟨s2.1,s1.2.1,fun x hx y hy=>?_⟩;rcases afc.mp hx with hx | hx
  ·exact s1.2.2 x hx y hy
  ·exact hc x hx y hy
 ·rw [ae5];exact h.sb
theorem Mg.endA {LL o A:List Keyed}(h:Mg κ LL o A []):o5 κ LL (o++A):=⟨by have:=h.perm;rwa [afD] at this,h.sa⟩
theorem Mg.endB {LL o B:List Keyed}(h:Mg κ LL o [] B):o5 κ LL (o++B):=⟨h.perm,h.sb⟩
theorem Mg.last {LL o B:List Keyed}{z:Keyed}(h:Mg κ LL o [z] B)(hz:∀ y∈B,le κ y z):o5 κ LL (o++B++[z]):=by
 refine⟨?_,?_⟩
 ·refine List.Perm.trans ?_ h.perm;rw [ae5];exact agb o agz
 ·have s1:=h.sa;have s2:=h.sb;unfold SL at *;rw [afG] at s1 ⊢;refine⟨s2,s1.2.1,fun x hx y hy=>?_⟩;rcases afc.mp hx with hx | hx
  ·exact s1.2.2 x hx y hy
  ·rw [ae1.mp hy];exact hz x hx
theorem SL.at {l:List Keyed}(h:SL κ l){i j:Nat}{x y:Keyed}(hij:i<=j)(hx:l[i]? = some x)(hy:l[j]? = some y):le κ x y:=by
 obtain⟨hi,ex⟩:=aeZ.mp hx;obtain⟨hj,ey⟩:=aeZ.mp hy;rcases Nat.lt_or_eq_of_le hij with q | q
 ·rw [← ex,← ey];exact ag9.mp h i j hi hj q
 ·subst q;rw [← ex,← ey];exact le_refl _
theorem SL.head {l:List Keyed}{x:Keyed}(h:SL κ (x::l)):∀ y∈x::l,le κ x y:=fun y hy=>by
 rcases aeY.mp hy with e | e
 ·rw [e];exact le_refl _
 ·exact (agd.mp h).1 y e
theorem SL.drop {l:List Keyed}(h:SL κ l)(n:Nat):SL κ (l.drop n):=aiV (List.drop_sublist _ _) h
theorem SL.take {l:List Keyed}(h:SL κ l)(n:Nat):SL κ (l.take n):=aiV (List.take_sublist _ _) h
end
section
variable {prog:Program}{w:World}{A:Around}{E:Value->Shared->Prop}{s:Shared}{κ:KeyKind}
theorem fq (hO:κ.OneLt){left:Bool}{key:Keyed}{arr:Array Keyed}{base n hint:Nat}{st:SortSt}{Q:Option Nat->SortSt->Prop}(hk:kindOf st=oneType')(hkey:Va κ key)(hb:base+n<=arr.size)(va:∀ p∈(arr.toList.drop base).take n,Va κ p)(so:SL κ ((arr.toList.drop base).take n))(hn:hint < n)
 (h:∀ k,k<=n->(∀ x∈((arr.toList.drop base).take n).take k,if left=true then lt κ x key else le κ x key)->(∀ x∈((arr.toList.drop base).take n).drop k,if left=true then le κ key x else lt κ key x)->Q (some k) st) :
 wpS (model prog w) A E s (zb left key arr base n hint) Q st:=by
 have at_:∀ i,i < n->∃ p,arr[base+i]? = some p/\((arr.toList.drop base).take n)[i]? = some p:=fun i hi=>by
  refine⟨arr[base+i],getElem?_pos _ _ (by lia),?_⟩;rw [agE hi,aia];simp
 have len:((arr.toList.drop base).take n).length=n:=by
  rw [afs,af2,afd];lia
 generalize (arr.toList.drop base).take n=S at va so h at_ len;refine vM hO hk hkey (fun i hi=>?_) hn (fun i j hij hj e=>?_) fun k hkn h1 h2=>h k hkn (fun x hx=>?_) (fun x hx=>?_)
 ·obtain⟨p,e1,e2⟩:=at_ i hi;exact⟨p,e1,va p (afY e2)⟩
 ·obtain⟨p,e1,e2⟩:=at_ i (by lia);obtain⟨q,e3,e4⟩:=at_ j hj;have hle:=so.at hij e2 e4;unfold bey at e ⊢;rw [oE e1];rw [oE e3] at e;cases left with
  | true =>
   rw [if_pos rfl] at e ⊢;exact KeyOrd.klt_of_kle_of_klt hle e
  | false =>
   rw [if_neg ae2] at e ⊢;have e':κ.blt (kk κ key) (kk κ q)=false:=by simpa using e
   have this:κ.blt (kk κ key) (kk κ p)=false:=agR hle e';rw [this]
   rfl
 ·obtain⟨i,hi,ex⟩:=ahT.mp hx;rw [afs] at hi;rw [aiq] at ex;obtain⟨p,e1,e2⟩:=at_ i (by lia);have q:=h1 i (by lia);rw [aeS (by lia)] at e2;rw [ex] at e2;cases e2;unfold bey at q;rw [oE e1] at q;cases left with
  | true=>exact q
  | false =>
   rw [if_neg ae2] at q ⊢;show κ.blt (kk κ key) (kk κ x)=false;simpa using q
 ·obtain⟨i,hi,ex⟩:=ahT.mp hx;rw [af2] at hi;rw [air] at ex;obtain⟨p,e1,e2⟩:=at_ (k+i) (by lia);have q:=h2 (k+i) (by lia) (by lia);rw [aeS (by lia)] at e2;rw [ex] at e2;cases e2;unfold bey at q;rw [oE e1] at q;cases left with
  | true=>exact q
  | false =>
   rw [if_neg ae2] at q ⊢;show κ.blt (kk κ key) (kk κ x)=true;simpa using q
end
def Eqv (st st':SortSt):Prop:=kindOf st'=kindOf st/\arrOf st'=arrOf st/\pendingOf st'=pendingOf st/\failedOf st'=failedOf st
theorem Eqv.refl (st:SortSt):Eqv st st:=⟨rfl,rfl,rfl,rfl⟩
def aek:Nat->StateT SortSt Sem Unit:=sortPriv% PySem.Builtin.setMinGallop
theorem uI {prog:Program}{w:World}{A:Around}{E:Value->Shared->Prop}{s:Shared}{g:Nat}{st0 st:SortSt}{Q:Unit->SortSt->Prop}(e:Eqv st0 st)(h:∀ st',Eqv st0 st'->Q () st'):wpS (model prog w) A E s (aek g) Q st :=
 agT (h _ e)
theorem bE {a:Array Keyed}{i:Nat}{x:Keyed}(h:a[i]? = some x):a.toList.drop i=[x]++a.toList.drop (i+1):=by
 obtain⟨hi,e⟩:=aga.mp h;rw [afU (by simpa using hi)];simp [e]
theorem ku (o:Array Keyed)(x:Keyed):(o.push x).toList=o.toList++[x]:=by simp
theorem vm (o a:Array Keyed)(i k:Nat):(o++a.extract i (i+k)).toList=o.toList++(a.toList.drop i).take k:=by
 simp [agh,af7]
theorem jH (o a:Array Keyed)(i:Nat):(o++a.extract i a.size).toList=o.toList++a.toList.drop i:=by
 simp only [Array.toList_append,agh,af7];rw [afI (by simp)]
section
variable {κ:KeyKind}{LL:List Keyed}{a b out:Array Keyed}{ia ib:Nat}
theorem aaH (M:Mg κ LL out.toList (a.toList.drop ia) (b.toList.drop ib))(c:ib=b.size):o5 κ LL (out++a.extract ia a.size++b.extract ib b.size).toList:=by
 rw [jH,jH];have e:b.toList.drop ib=[]:=agW (by rw [afd];lia);rw [e] at M ⊢;rw [afD];exact M.endA
theorem adO (M:Mg κ LL out.toList (a.toList.drop ia) (b.toList.drop ib))(c:ia=a.size):o5 κ LL (out++a.extract ia a.size++b.extract ib b.size).toList:=by
 rw [jH,jH];have e:a.toList.drop ia=[]:=agW (by rw [afd];lia);rw [e] at M ⊢;rw [afD];exact M.endB
theorem zP (M:Mg κ LL out.toList (a.toList.drop ia) (b.toList.drop ib))(c:ia+1=a.size)(P2:∀ y∈b.toList,∀ z∈a.toList.drop (a.size - 1),le κ y z):o5 κ LL (out++b.extract ib b.size++a.extract ia a.size).toList:=by
 rw [jH,jH];have hp:a[ia]? = some a[ia]:=getElem?_pos _ _ (by lia);have e:a.toList.drop ia=[a[ia]]:=by
  rw [bE hp,agW (by rw [afd];lia),afD]
 rw [e] at M ⊢;refine M.last fun y hy=>P2 y (af5 hy) _ ?_;rw [show a.size - 1=ia by lia,e];exact ae1.mpr rfl
theorem jJ (x:Array Keyed)(i:Nat):(x.toList.drop i).take (x.size - i)=x.toList.drop i:=afI (by rw [af2,afd];lia)
theorem rF (x:Array Keyed)(i k:Nat):x.toList.drop i=(x.toList.drop i).take k++x.toList.drop (i+k):=by
 have:=(afy k (x.toList.drop i)).symm
 rwa [aha] at this
theorem dQ {x:Array Keyed}{i:Nat}(h:i < x.size):∃ p,x[i]? = some p/\p∈x.toList:=⟨x[i],getElem?_pos x i h,by simp⟩
end
section
variable {prog:Program}{w:World}{A:Around}{E:Value->Shared->Prop}{s:Shared}{κ:KeyKind}
theorem ifp {M:Model}{σ α:Type}{c:Prop}[Decidable c]{m1 m2:StateT σ Sem α}{Q:α->σ->Prop}{st:σ}(hc:c)(h:wpS M A E s m1 Q st):wpS M A E s (if c then m1 else m2) Q st:=by
 rw [if_pos hc];exact h
theorem ifn {M:Model}{σ α:Type}{c:Prop}[Decidable c]{m1 m2:StateT σ Sem α}{Q:α->σ->Prop}{st:σ}(hc:¬ c)(h:wpS M A E s m2 Q st):wpS M A E s (if c then m1 else m2) Q st:=by
 rw [if_neg hc];exact h
theorem ifs {M:Model}{σ α:Type}{c:Prop}[Decidable c]{m1 m2:StateT σ Sem α}{Q:α->σ->Prop}{st:σ}(h1:c->wpS M A E s m1 Q st)(h2:¬ c->wpS M A E s m2 Q st):wpS M A E s (if c then m1 else m2) Q st:=by
 by_cases hc:c
 ·exact ifp hc (h1 hc)
 ·exact ifn hc (h2 hc)
theorem zB {M:Model}{σ α β γ:Type}{jp:Unit->β->γ->StateT σ Sem α}{m:StateT σ Sem α}{Q:α->σ->Prop}{st:σ}(R:β->γ->Prop)(h1:∀ x y,R x y->wpS M A E s (jp () x y) Q st)(h2:(∀ x y,R x y->wpS M A E s (jp () x y) Q st)->wpS M A E s m Q st):wpS M A E s m Q st:=h2 h1
theorem ifj {M:Model}{σ α β:Type}{c:Prop}[Decidable c]{jp:Unit->β->StateT σ Sem α}{x y:β}{Q:α->σ->Prop}{st:σ}(h:∀ g,wpS M A E s (jp () g) Q st):wpS M A E s (if c then jp () x else jp () y) Q st:=ifs (fun _=>h x) (fun _=>h y)
theorem t9 (hO:κ.OneLt){a b:Array Keyed}{st:SortSt}{Q:Array Keyed->SortSt->Prop}(hk:kindOf st=oneType')(va:∀ p∈a.toList,Va κ p)(vb:∀ p∈b.toList,Va κ p)(ha:1<=a.size)(hb:1<=b.size)(sa:SL κ a.toList)(sb:SL κ b.toList)
 (P1:∀ y∈b.toList.take 1,∀ x∈a.toList,le κ y x)(P2:∀ y∈b.toList,∀ z∈a.toList.drop (a.size - 1),le κ y z)
 (h:∀ m st',Eqv st st'->o5 κ (a.toList++b.toList) m.toList->Q m st'):wpS (model prog w) A E s (aak a b) Q st:=by
 have hL:∃ LL,LL=a.toList++b.toList:=⟨_,rfl⟩;obtain⟨LL,eL⟩:=hL;rw [← eL] at h;obtain⟨b0,hb0,mb0⟩:=dQ (x:=b) (i:=0) (by lia);have M0:Mg κ LL [] a.toList b.toList:=⟨by rw [eL];exact List.Perm.refl _,sa,sb⟩;have M1:Mg κ LL (#[b0]:Array Keyed).toList (a.toList.drop 0) (b.toList.drop 1):=by
  have e:b.toList=[b0]++b.toList.drop 1:=by
   have:=bE hb0
   rwa [afV] at this
  have M0':=M0;rw [e] at M0';rw [afV];refine Mg.b M0' fun y hy x hx=>P1 y ?_ x hx;rw [e];rw [ae1.mp hy];simp
 refine ae6 (wpS_lift (ahV ⟨rfl,?_⟩));refine ae6 (cE hb0 ?_);by_cases c1:1=b.size
 ·rw [if_pos (by simpa using c1)];exact afa (h _ _ (Eqv.refl _) (aaH M1 c1))
 rw [if_neg (by simpa using c1)];by_cases c2:0+1=a.size
 ·rw [if_pos (by simpa using c2)];exact afa (h _ _ (Eqv.refl _) (zP M1 c2 P2))
 rw [if_neg (by simpa using c2)];refine ae6 (ah3 ?_);refine ae6 (agy (afN (I:=fun x c st'=>Eqv st st'/\∃ out ia ib mg,c=(none,out,ia,ib,mg)/\Mg κ LL out.toList (a.toList.drop ia) (b.toList.drop ib)/\ia+1 < a.size/\ib < b.size/\x+1<=ia+ib)
  (Q:=fun c st'=>Eqv st st'/\∃ m r,c=(some m,r)/\o5 κ LL m.toList) ?_ ?_ ⟨Eqv.refl _,_,_,_,_,rfl,M1,by lia,by lia,by lia⟩) ?_)
 rotate_left
 ·rintro c st' ⟨ev,out,ia,ib,mg,rfl,M,hia,hib,hpr⟩;lia
 ·rintro c st' ⟨ev,m,r,rfl,g⟩;exact afa (h _ _ ev g)
 rintro x c st1 _ hx ⟨ev1,out,ia,ib,mg,rfl,M,hia,hib,hpr⟩;refine ae6 (agy (afN (I:=fun y c st2=>Eqv st st2/\∃ out' ia' ib' ac bc,c=(none,out',ia',ib',ac,bc)/\Mg κ LL out'.toList (a.toList.drop ia') (b.toList.drop ib')/\ia'+1 < a.size/\ib' < b.size/\ia+ib+y<=ia'+ib')
  (Q:=fun c st2=>Eqv st st2/\((∃ m r,c=(some m,r)/\o5 κ LL m.toList)\/∃ out' ia' ib' ac bc,c=(none,out',ia',ib',ac,bc)/\Mg κ LL out'.toList (a.toList.drop ia') (b.toList.drop ib')/\ia'+1 < a.size/\ib' < b.size/\ia+ib+1<=ia'+ib')) ?_ ?_ ⟨ev1,out,ia,ib,_,_,rfl,M,hia,hib,ae4 _⟩) ?_)
 ·rintro y c st2 _ hy ⟨ev2,out',ia',ib',ac,bc,rfl,M',hia',hib',hpr'⟩;obtain⟨q,hq,mq⟩:=dQ hib';obtain⟨p,hp,mp⟩:=dQ (x:=a) (i:=ia') (by lia);have sB:=sb.drop ib';have sA:=sa.drop ia';rw [bE hq] at sB;rw [bE hp] at sA;refine ae6 (cE hq (ae6 (cE hp (ae6 (adL hO (ev2.1.trans hk) (vb q mq) (va p mp) ?_)))));cases hw:κ.blt (kk κ q) (kk κ p) with
  | true =>
   refine ifp rfl ?_;refine ae6 (cE hq ?_);have M2:Mg κ LL (out'.push q).toList (a.toList.drop ia') (b.toList.drop (ib'+1)):=by
    rw [ku];refine Mg.b (by rw [← bE hq];exact M') fun y hy x hx=>?_;rw [ae1.mp hy];rw [bE hp] at hx;exact le_trans (le_of_lt hw) (sA.head x hx)
   by_cases c:ib'+1=b.size
   ·refine ifp (afj.mpr c) ?_;exact afa ⟨ev2,.inl ⟨_,_,rfl,aaH M2 c⟩⟩
   refine ifn (fun z=>c (afj.mp z)) ?_;refine ifs (fun _=>?_) (fun _=>?_)
   ·exact afa ⟨ev2,.inr ⟨_,ia',ib'+1,_,_,rfl,M2,hia',by lia,by lia⟩⟩
   ·exact afa ⟨ev2,_,ia',ib'+1,_,_,rfl,M2,hia',by lia,by lia⟩
  | false =>
   refine ifn ae2 ?_;refine ae6 (cE hp ?_);have M2:Mg κ LL (out'.push p).toList (a.toList.drop (ia'+1)) (b.toList.drop ib'):=by
    rw [ku];refine Mg.a (by rw [← bE hp];exact M') fun y hy x hx=>?_;rw [ae1.mp hy];rw [bE hq] at hx;exact le_trans (show le κ p q from hw) (sB.head x hx)
   by_cases c:ia'+1+1=a.size
   ·refine ifp (afj.mpr c) ?_;exact afa ⟨ev2,.inl ⟨_,_,rfl,zP M2 c P2⟩⟩
   refine ifn (fun z=>c (afj.mp z)) ?_;refine ifs (fun _=>?_) (fun _=>?_)
   ·exact afa ⟨ev2,.inr ⟨_,ia'+1,ib',_,_,rfl,M2,by lia,by lia,by lia⟩⟩
   ·exact afa ⟨ev2,_,ia'+1,ib',_,_,rfl,M2,by lia,by lia,by lia⟩
 ·rintro c st2 ⟨ev2,out',ia',ib',ac,bc,rfl,M',hia',hib',hpr'⟩;exact⟨ev2,.inr ⟨_,_,_,_,_,rfl,M',hia',hib',by lia⟩⟩
 rintro c st2 ⟨ev2,hc⟩;rcases hc with ⟨m,r,rfl,g⟩ | ⟨out1,ia1,ib1,ac1,bc1,rfl,N1,hia1,hib1,hpr1⟩
 ·exact afa ⟨ev2,m,_,rfl,g⟩
 refine ae6 (wpS_lift (ahV ⟨rfl,?_⟩));refine ae6 (agy (afN (I:=fun y c st3=>Eqv st st3/\∃ out' ia' ib' mg' ac bc,c=(none,out',ia',ib',mg',ac,bc)/\Mg κ LL out'.toList (a.toList.drop ia') (b.toList.drop ib')/\ia'+1 < a.size/\ib' < b.size/\ia1+ib1<=ia'+ib')
  (Q:=fun c st3=>Eqv st st3/\((∃ m r,c=(some m,r)/\o5 κ LL m.toList)\/∃ out' ia' ib' mg' ac bc,c=(none,out',ia',ib',mg',ac,bc)/\Mg κ LL out'.toList (a.toList.drop ia') (b.toList.drop ib')/\ia'+1 < a.size/\ib' < b.size/\ia1+ib1<=ia'+ib')) ?_ ?_ ⟨ev2,out1,ia1,ib1,_,ac1,bc1,rfl,N1,hia1,hib1,ae4 _⟩) ?_)
 rotate_left
 ·rintro c st3 ⟨ev3,out',ia',ib',mg',ac,bc,rfl,M',hia',hib',hpr'⟩;exact⟨ev3,.inr ⟨_,_,_,_,_,_,rfl,M',hia',hib',by lia⟩⟩
 ·rintro c st3 ⟨ev3,hc⟩;rcases hc with ⟨m,r,rfl,g⟩ | ⟨out2,ia2,ib2,mg2,ac2,bc2,rfl,N2,hia2,hib2,hpr2⟩
  ·exact afa ⟨ev3,m,_,rfl,g⟩
  refine ae6 (uI ev3 fun st4 ev4=>?_);exact afa ⟨ev4,_,ia2,ib2,_,rfl,N2,hia2,hib2,by lia⟩
 rintro y c st3 _ hy ⟨ev3,out2,ia2,ib2,mg2,ac2,bc2,rfl,M',hia',hib',hpr'⟩;obtain⟨q,hq,mq⟩:=dQ hib';have sB:=sb.drop ib2;rw [bE hq] at sB;dsimp -zeta -zetaHave only
 lift_lets
 extract_lets s1 v1 s2 v2 s3 v3 s4 v4 s5 v5 v6 v7 jp
 refine ifj (jp:=jp) (fun g=>?_)
 ·refine ae6 (uI ev3 fun st4 ev4=>?_);refine ae6 (cE hq (ae6 (fq (left:=false) (key:=q) (arr:=a) (base:=ia2) (n:=a.size - ia2) (hint:=0) hO (ev4.1.trans hk) (vb q mq) (by lia) (by rw [jJ];exact fun p hp=>va p (af5 hp)) (by rw [jJ];exact sa.drop _) (by lia) fun k hkn g1 g2=>?_)));rw [jJ] at g1 g2;rw [aha] at g2;simp only [af8,ahU] at g1 g2;dsimp -zeta -zetaHave only
  lift_lets
  extract_lets w1 jp2
  refine zB (jp:=jp2) (fun (out3:Array Keyed) (ia3:Nat)=>Mg κ LL out3.toList (a.toList.drop ia3) (b.toList.drop ib2)/\ia3+1 < a.size/\ia2<=ia3/\∀ x∈a.toList.drop ia3,le κ q x) (fun out3 ia3 hR=>?_) (fun hj=>?_)
  ·obtain⟨M3,hA1,hA2,hA⟩:=hR;refine ae6 (cE hq ?_);have M4:Mg κ LL (out3.push q).toList (a.toList.drop ia3) (b.toList.drop (ib2+1)):=by
    rw [ku];refine Mg.b (by rw [← bE hq];exact M3) fun y hy x hx=>?_;rw [ae1.mp hy];exact hA x hx
   by_cases c4:ib2+1=b.size
   ·refine ifp (afj.mpr c4) ?_;exact afa ⟨ev4,.inl ⟨_,_,rfl,aaH M4 c4⟩⟩
   refine ifn (fun z=>c4 (afj.mp z)) ?_;obtain⟨p,hp,mp⟩:=dQ (x:=a) (i:=ia3) (by lia);refine ae6 (cE hp (ae6 (fq (left:=true) (key:=p) (arr:=b) (base:=ib2+1) (n:=b.size - (ib2+1)) (hint:=0) hO (ev4.1.trans hk) (va p mp) (by lia) (by rw [jJ];exact fun p hp=>vb p (af5 hp)) (by rw [jJ];exact sb.drop _) (by lia) fun k2 hkn2 g3 g4=>?_)));rw [jJ] at g3 g4;rw [aha] at g4;simp only [aiO] at g3 g4;dsimp -zeta -zetaHave only
   lift_lets
   extract_lets w3 jp3
   refine zB (jp:=jp3) (fun (out5:Array Keyed) (ib3:Nat)=>Mg κ LL out5.toList (a.toList.drop ia3) (b.toList.drop ib3)/\ib3 < b.size/\ib2+1<=ib3/\∀ y∈b.toList.drop ib3,le κ p y) (fun out5 ib3 hR=>?_) (fun hj3=>?_)
   ·obtain⟨M5,hB1,hB2,hB⟩:=hR;refine ae6 (cE hp ?_);have M6:Mg κ LL (out5.push p).toList (a.toList.drop (ia3+1)) (b.toList.drop ib3):=by
     rw [ku];refine Mg.a (by rw [← bE hp];exact M5) fun y hy x hx=>?_;rw [ae1.mp hy];exact hB x hx
    by_cases c7:ia3+1+1=a.size
    ·refine ifp (afj.mpr c7) ?_;exact afa ⟨ev4,.inl ⟨_,_,rfl,zP M6 c7 P2⟩⟩
    refine ifn (fun z=>c7 (afj.mp z)) ?_;refine ifs (fun _=>?_) (fun _=>?_)
    ·exact afa ⟨ev4,.inr ⟨_,ia3+1,ib3,_,_,_,rfl,M6,by lia,by lia,by lia⟩⟩
    ·exact afa ⟨ev4,_,ia3+1,ib3,_,_,_,rfl,M6,by lia,by lia,by lia⟩
   by_cases hk2:k2=0
   ·subst hk2;rw [aic] at g4;exact ifn (show ¬ (0 > 0) by lia) (hj3 _ (ib2+1) ⟨M4,by lia,ae4 _,g4⟩)
   ·refine ifp (show k2 > 0 by lia) ?_;have M5:Mg κ LL ((out3.push q)++b.extract (ib2+1) (ib2+1+k2)).toList (a.toList.drop ia3) (b.toList.drop (ib2+1+k2)):=by
     rw [vm];refine Mg.b (by rw [← rF];exact M4) fun y hy x hx=>?_;have sA:=sa.drop ia3;rw [bE hp] at sA;rw [bE hp] at hx;exact le_trans (le_of_lt (g3 y hy)) (sA.head x hx)
    by_cases c5:ib2+1+k2=b.size
    ·refine ifp (afj.mpr c5) ?_;exact afa ⟨ev4,.inl ⟨_,_,rfl,aaH M5 c5⟩⟩
    exact ifn (fun z=>c5 (afj.mp z)) (hj3 _ (ib2+1+k2) ⟨M5,by lia,by lia,g4⟩)
  by_cases hk0:k=0
  ·subst hk0;rw [aic] at g2;exact ifn (show ¬ (0 > 0) by lia) (hj _ ia2 ⟨M',hia',ae4 _,fun x hx=>le_of_lt (g2 x hx)⟩)
  ·refine ifp (show k > 0 by lia) ?_;have M3:Mg κ LL (out2++a.extract ia2 (ia2+k)).toList (a.toList.drop (ia2+k)) (b.toList.drop ib2):=by
    rw [vm];refine Mg.a (by rw [← rF];exact M') fun y hy x hx=>?_;rw [bE hq] at hx;exact le_trans (g1 y hy) (sB.head x hx)
   by_cases c2':ia2+k+1=a.size
   ·refine ifp (afj.mpr c2') ?_;exact afa ⟨ev4,.inl ⟨_,_,rfl,zP M3 c2' P2⟩⟩
   refine ifn (fun z=>c2' (afj.mp z)) ?_;by_cases c3:ia2+k=a.size
   ·refine ifp (afj.mpr c3) ?_;exact afa ⟨ev4,.inl ⟨_,_,rfl,adO M3 c3⟩⟩
   exact ifn (fun z=>c3 (afj.mp z)) (hj _ (ia2+k) ⟨M3,by lia,by lia,fun x hx=>le_of_lt (g2 x hx)⟩)
end
section
variable {κ:KeyKind}
structure MgH (κ:KeyKind)(LL o A B:List Keyed):Prop where
 perm:(A++(B++o)).Perm LL
 sa:SL κ (A++o)
 sb:SL κ (B++o)
theorem MgH.a {LL o c A B:List Keyed}(h:MgH κ LL o (A++c) B)(hc:∀ x∈c,∀ y∈B,le κ y x):MgH κ LL (c++o) A B:=by
 refine⟨?_,?_,?_⟩
 ·refine List.Perm.trans ?_ h.perm;rw [ae5];refine agb A ?_;rw [← ae5,← ae5];exact agp o agz
 ·rw [← ae5];exact h.sa
 ·have s1:=h.sa;have s2:=h.sb;unfold SL at *;rw [ae5,afG] at s1;rw [afG] at s2 ⊢;refine⟨s2.1,s1.2.1,fun x hx y hy=>?_⟩;rcases afc.mp hy with hy | hy
  ·exact hc y hy x hx
  ·exact s2.2.2 x hx y hy
theorem MgH.b {LL o c A B:List Keyed}(h:MgH κ LL o A (B++c))(hc:∀ y∈c,∀ x∈A,le κ x y):MgH κ LL (c++o) A B:=by
 refine⟨?_,?_,?_⟩
 ·have:=h.perm;rw [ae5] at this;exact this
 ·have s1:=h.sa;have s2:=h.sb;unfold SL at *;rw [ae5,afG] at s2;rw [afG] at s1 ⊢;refine⟨s1.1,s2.2.1,fun x hx y hy=>?_⟩;rcases afc.mp hy with hy | hy
  ·exact hc y hy x hx
  ·exact s1.2.2 x hx y hy
 ·rw [← ae5];exact h.sb
theorem MgH.endA {LL o A:List Keyed}(h:MgH κ LL o A []):o5 κ LL (A++o):=⟨h.perm,h.sa⟩
theorem MgH.endB {LL o B:List Keyed}(h:MgH κ LL o [] B):o5 κ LL (B++o):=⟨h.perm,h.sb⟩
theorem MgH.first {LL o A:List Keyed}{z:Keyed}(h:MgH κ LL o A [z])(hz:∀ x∈A,le κ z x):o5 κ LL ([z]++A++o):=by
 refine⟨?_,?_⟩
 ·refine List.Perm.trans ?_ h.perm;rw [← ae5];exact agp o agz
 ·have s1:=h.sa;have s2:=h.sb;unfold SL at *;rw [ae5,aiW,agd];rw [aiW,agd] at s2;refine⟨fun y hy=>?_,s1⟩;rcases afc.mp hy with hy | hy
  ·exact hz y hy
  ·exact s2.1 y hy
theorem gO {a:Array Keyed}{n:Nat}{x:Keyed}(h:a[n]? = some x):a.toList.take (n+1)=a.toList.take n++[x]:=by
 rw [afW];have:a.toList[n]? = some x:=by simpa using h
 rw [this]
 rfl
theorem mC (o:Array Keyed)(x:Keyed):(o.push x).toList.reverse=[x]++o.toList.reverse:=by simp
theorem wM (o a:Array Keyed)(i n:Nat):(o++(a.extract i n).reverse).toList.reverse=(a.toList.take n).drop i++o.toList.reverse:=by
 simp [agh,af7,List.drop_take]
theorem vz (a:Array Keyed){i n:Nat}(h:i<=n):a.toList.take n=a.toList.take i++(a.toList.take n).drop i:=by
 have:=(afy i (a.toList.take n)).symm
 rwa [ahE,agn h] at this
theorem qf (o a b:Array Keyed)(na nb:Nat):(a.extract 0 na++b.extract 0 nb++o.reverse).toList=a.toList.take na++b.toList.take nb++o.toList.reverse:=by
 simp [agh,af7]
theorem SL.lastOf {l:List Keyed}{x:Keyed}(h:SL κ (l++[x])):∀ y∈l++[x],le κ y x:=fun y hy=>by
 rcases afc.mp hy with e | e
 ·exact (afG.mp h).2.2 y e x (ae1.mpr rfl)
 ·rw [ae1.mp e];exact le_refl _
end
section
variable {κ:KeyKind}{LL:List Keyed}{a b out:Array Keyed}{na nb:Nat}
theorem adN (M:MgH κ LL out.toList.reverse (a.toList.take na) (b.toList.take nb))(c:na=0):o5 κ LL (a.extract 0 na++b.extract 0 nb++out.reverse).toList:=by
 subst c;rw [qf,ahF,agm];rw [ahF] at M;exact M.endB
theorem aeP (M:MgH κ LL out.toList.reverse (a.toList.take na) (b.toList.take nb))(c:nb=0):o5 κ LL (a.extract 0 na++b.extract 0 nb++out.reverse).toList:=by
 subst c;rw [qf,ahF,afD];rw [ahF] at M;exact M.endA
theorem adI (M:MgH κ LL out.toList.reverse (a.toList.take na) (b.toList.take nb))(c:nb=1)(hb:1<=b.size)(P1:∀ y∈b.toList.take 1,∀ x∈a.toList,le κ y x):o5 κ LL (b.extract 0 nb++a.extract 0 na++out.reverse).toList:=by
 subst c;rw [qf];have hp:b[0]? = some b[0]:=getElem?_pos _ _ (by lia);have e:b.toList.take 1=[b[0]]:=by rw [gO hp,ahF,agm]
 rw [e] at M P1 ⊢;exact M.first fun x hx=>P1 _ (ae1.mpr rfl) x (af9 hx)
end
section
variable {prog:Program}{w:World}{A:Around}{E:Value->Shared->Prop}{s:Shared}{κ:KeyKind}
theorem sW (hO:κ.OneLt){a b:Array Keyed}{st:SortSt}{Q:Array Keyed->SortSt->Prop}(hk:kindOf st=oneType')(va:∀ p∈a.toList,Va κ p)(vb:∀ p∈b.toList,Va κ p)(ha:1<=a.size)(hb:1<=b.size)(sa:SL κ a.toList)(sb:SL κ b.toList)
 (P1:∀ y∈b.toList.take 1,∀ x∈a.toList,le κ y x)(P2:∀ y∈b.toList,∀ z∈a.toList.drop (a.size - 1),le κ y z)
 (h:∀ m st',Eqv st st'->o5 κ (a.toList++b.toList) m.toList->Q m st'):wpS (model prog w) A E s (zH a b) Q st:=by
 have hL:∃ LL,LL=a.toList++b.toList:=⟨_,rfl⟩;obtain⟨LL,eL⟩:=hL;rw [← eL] at h;obtain⟨a0,ha0,ma0⟩:=dQ (x:=a) (i:=a.size - 1) (by lia);have M1:MgH κ LL (#[a0]:Array Keyed).toList.reverse (a.toList.take (a.size - 1)) (b.toList.take b.size):=by
  have e:a.toList=a.toList.take (a.size - 1)++[a0]:=by
   have:=gO ha0
   rwa [show a.size - 1+1=a.size by lia,afI (by rw [afd];exact ae4 _)] at this
  have M0:MgH κ LL [] (a.toList.take (a.size - 1)++[a0]) b.toList:=by
   refine⟨?_,?_,?_⟩
   ·rw [← e,afD,eL]
   ·rw [← e,afD];exact sa
   ·rw [afD];exact sb
  rw [afI (l:=b.toList) (by rw [afd];exact ae4 _)];refine MgH.a M0 fun x hx y hy=>P2 y hy x ?_;rw [bE ha0,ae1.mp hx];simp
 refine ae6 (wpS_lift (ahV ⟨rfl,?_⟩));refine ae6 (cE ha0 ?_);by_cases c1:a.size - 1=0
 ·refine ifp (afj.mpr c1) ?_;exact afa (h _ _ (Eqv.refl _) (adN M1 c1))
 refine ifn (fun z=>c1 (afj.mp z)) ?_;by_cases c2:b.size=1
 ·refine ifp (afj.mpr c2) ?_;exact afa (h _ _ (Eqv.refl _) (adI M1 c2 hb P1))
 refine ifn (fun z=>c2 (afj.mp z)) ?_;refine ae6 (ah3 ?_);refine ae6 (agy (afN (I:=fun x c st'=>Eqv st st'/\∃ na nb out mg,c=(none,na,nb,out,mg)/\MgH κ LL out.toList.reverse (a.toList.take na) (b.toList.take nb)/\1<=na/\na<=a.size/\2<=nb/\nb<=b.size/\na+nb+x+1<=a.size+b.size)
  (Q:=fun c st'=>Eqv st st'/\∃ m r,c=(some m,r)/\o5 κ LL m.toList) ?_ ?_ ⟨Eqv.refl _,a.size - 1,b.size,_,_,rfl,M1,by lia,by lia,by lia,by lia,by lia⟩) ?_)
 rotate_left
 ·rintro c st' ⟨ev,na,nb,out,mg,rfl,M,_,_,_,_,hpr⟩;lia
 ·rintro c st' ⟨ev,m,r,rfl,g⟩;exact afa (h _ _ ev g)
 rintro x c st1 _ hx ⟨ev1,na,nb,out,mg,rfl,M,hna,hna2,hnb,hnb2,hpr⟩;refine ae6 (agy (afN (I:=fun y c st2=>Eqv st st2/\∃ na' nb' out' ac bc,c=(none,na',nb',out',ac,bc)/\MgH κ LL out'.toList.reverse (a.toList.take na') (b.toList.take nb')/\1<=na'/\na'<=a.size/\2<=nb'/\nb'<=b.size/\na'+nb'+y<=na+nb)
  (Q:=fun c st2=>Eqv st st2/\((∃ m r,c=(some m,r)/\o5 κ LL m.toList)\/∃ na' nb' out' ac bc,c=(none,na',nb',out',ac,bc)/\MgH κ LL out'.toList.reverse (a.toList.take na') (b.toList.take nb')/\1<=na'/\na'<=a.size/\2<=nb'/\nb'<=b.size/\na'+nb'+1<=na+nb)) ?_ ?_ ⟨ev1,na,nb,out,_,_,rfl,M,hna,hna2,hnb,hnb2,ae4 _⟩) ?_)
 ·rintro y c st2 _ hy ⟨ev2,na',nb',out',ac,bc,rfl,M',hna',hna2',hnb',hnb2',hpr'⟩;obtain⟨q,hq,mq⟩:=dQ (x:=b) (i:=nb' - 1) (by lia);obtain⟨p,hp,mp⟩:=dQ (x:=a) (i:=na' - 1) (by lia);have tq:=gO hq;have tp:=gO hp;rw [show nb' - 1+1=nb' by lia] at tq;rw [show na' - 1+1=na' by lia] at tp;have sB:=sb.take nb';have sA:=sa.take na';rw [tq] at sB;rw [tp] at sA;refine ae6 (cE hq (ae6 (cE hp (ae6 (adL hO (ev2.1.trans hk) (vb q mq) (va p mp) ?_)))));cases hw:κ.blt (kk κ q) (kk κ p) with
  | true =>
   refine ifp rfl ?_;refine ae6 (cE hp ?_);have M2:MgH κ LL (out'.push p).toList.reverse (a.toList.take (na' - 1)) (b.toList.take nb'):=by
    rw [mC];refine MgH.a (by rw [← tp];exact M') fun x hx y hy=>?_;rw [ae1.mp hx];rw [tq] at hy;exact le_trans (sB.lastOf y hy) (le_of_lt hw)
   by_cases c:na' - 1=0
   ·refine ifp (afj.mpr c) ?_;exact afa ⟨ev2,.inl ⟨_,_,rfl,adN M2 c⟩⟩
   refine ifn (fun z=>c (afj.mp z)) ?_;refine ifs (fun _=>?_) (fun _=>?_)
   ·exact afa ⟨ev2,.inr ⟨na' - 1,nb',_,_,_,rfl,M2,by lia,by lia,by lia,by lia,by lia⟩⟩
   ·exact afa ⟨ev2,na' - 1,nb',_,_,_,rfl,M2,by lia,by lia,by lia,by lia,by lia⟩
  | false =>
   refine ifn ae2 ?_;refine ae6 (cE hq ?_);have M2:MgH κ LL (out'.push q).toList.reverse (a.toList.take na') (b.toList.take (nb' - 1)):=by
    rw [mC];refine MgH.b (by rw [← tq];exact M') fun y hy x hx=>?_;rw [ae1.mp hy];rw [tp] at hx;exact le_trans (sA.lastOf x hx) (show le κ p q from hw)
   by_cases c:nb' - 1=1
   ·refine ifp (afj.mpr c) ?_;exact afa ⟨ev2,.inl ⟨_,_,rfl,adI M2 c hb P1⟩⟩
   refine ifn (fun z=>c (afj.mp z)) ?_;refine ifs (fun _=>?_) (fun _=>?_)
   ·exact afa ⟨ev2,.inr ⟨na',nb' - 1,_,_,_,rfl,M2,by lia,by lia,by lia,by lia,by lia⟩⟩
   ·exact afa ⟨ev2,na',nb' - 1,_,_,_,rfl,M2,by lia,by lia,by lia,by lia,by lia⟩
 ·rintro c st2 ⟨ev2,na',nb',out',ac,bc,rfl,M',g1,g2,g3,g4,hpr'⟩;exact⟨ev2,.inr ⟨_,_,_,_,_,rfl,M',g1,g2,g3,g4,by lia⟩⟩
 rintro c st2 ⟨ev2,hc⟩;rcases hc with ⟨m,r,rfl,g⟩ | ⟨na1,nb1,out1,ac1,bc1,rfl,N1,i1,i2,i3,i4,hpr1⟩
 ·exact afa ⟨ev2,m,_,rfl,g⟩
 refine ae6 (wpS_lift (ahV ⟨rfl,?_⟩));refine ae6 (agy (afN (I:=fun y c st3=>Eqv st st3/\∃ na' nb' out' mg' ac bc,c=(none,na',nb',out',mg',ac,bc)/\MgH κ LL out'.toList.reverse (a.toList.take na') (b.toList.take nb')/\1<=na'/\na'<=a.size/\2<=nb'/\nb'<=b.size/\na'+nb'<=na1+nb1)
  (Q:=fun c st3=>Eqv st st3/\((∃ m r,c=(some m,r)/\o5 κ LL m.toList)\/∃ na' nb' out' mg' ac bc,c=(none,na',nb',out',mg',ac,bc)/\MgH κ LL out'.toList.reverse (a.toList.take na') (b.toList.take nb')/\1<=na'/\na'<=a.size/\2<=nb'/\nb'<=b.size/\na'+nb'<=na1+nb1)) ?_ ?_ ⟨ev2,na1,nb1,out1,_,ac1,bc1,rfl,N1,i1,i2,i3,i4,ae4 _⟩) ?_)
 rotate_left
 ·rintro c st3 ⟨ev3,na',nb',out',mg',ac,bc,rfl,M',g⟩;exact⟨ev3,.inr ⟨_,_,_,_,_,_,rfl,M',g⟩⟩
 ·rintro c st3 ⟨ev3,hc⟩;rcases hc with ⟨m,r,rfl,g⟩ | ⟨na2,nb2,out2,mg2,ac2,bc2,rfl,N2,j1,j2,j3,j4,hpr2⟩
  ·exact afa ⟨ev3,m,_,rfl,g⟩
  refine ae6 (uI ev3 fun st4 ev4=>?_);exact afa ⟨ev4,na2,nb2,_,_,rfl,N2,j1,j2,j3,j4,by lia⟩
 rintro y c st3 _ hy ⟨ev3,na2,nb2,out2,mg2,ac2,bc2,rfl,M',j1,j2,j3,j4,hpr'⟩;obtain⟨q,hq,mq⟩:=dQ (x:=b) (i:=nb2 - 1) (by lia);have tq:=gO hq;rw [show nb2 - 1+1=nb2 by lia] at tq;have sB:=sb.take nb2;rw [tq] at sB;dsimp -zeta -zetaHave only
 lift_lets
 extract_lets s1 v1 s2 v2 s3 v3 s4 v4 s5 v5 v6 v7 jp
 refine ifj (jp:=jp) (fun g=>?_)
 ·refine ae6 (uI ev3 fun st4 ev4=>?_);refine ae6 (cE hq (ae6 (fq (left:=false) (key:=q) (arr:=a) (base:=0) (n:=na2) (hint:=na2 - 1) hO (ev4.1.trans hk) (vb q mq) (by lia) (by rw [afV];exact fun p hp=>va p (af9 hp)) (by rw [afV];exact sa.take _) (by lia) fun k hkn g1 g2=>?_)));rw [afV] at g1 g2;rw [ahE,agn hkn] at g1;simp only [af8,ahU] at g1 g2;dsimp -zeta -zetaHave only
  lift_lets
  extract_lets w1 w2 jp2
  refine zB (jp:=jp2) (fun (na3:Nat) (out3:Array Keyed)=>MgH κ LL out3.toList.reverse (a.toList.take na3) (b.toList.take nb2)/\1<=na3/\na3<=na2/\∀ x∈a.toList.take na3,le κ x q) (fun na3 out3 hR=>?_) (fun hj=>?_)
  ·obtain⟨M3,hA1,hA2,hA⟩:=hR;refine ae6 (cE hq ?_);have M4:MgH κ LL (out3.push q).toList.reverse (a.toList.take na3) (b.toList.take (nb2 - 1)):=by
    rw [mC];refine MgH.b (by rw [← tq];exact M3) fun y hy x hx=>?_;rw [ae1.mp hy];exact hA x hx
   by_cases c4:nb2 - 1=1
   ·refine ifp (afj.mpr c4) ?_;exact afa ⟨ev4,.inl ⟨_,_,rfl,adI M4 c4 hb P1⟩⟩
   refine ifn (fun z=>c4 (afj.mp z)) ?_;obtain⟨p,hp,mp⟩:=dQ (x:=a) (i:=na3 - 1) (by lia);have tp:=gO hp;rw [show na3 - 1+1=na3 by lia] at tp;refine ae6 (cE hp (ae6 (fq (left:=true) (key:=p) (arr:=b) (base:=0) (n:=nb2 - 1) (hint:=nb2 - 1 - 1) hO (ev4.1.trans hk) (va p mp) (by lia) (by rw [afV];exact fun p hp=>vb p (af9 hp)) (by rw [afV];exact sb.take _) (by lia) fun k2 hkn2 g3 g4=>?_)));rw [afV] at g3 g4;rw [ahE,agn hkn2] at g3;simp only [aiO] at g3 g4;dsimp -zeta -zetaHave only
   lift_lets
   extract_lets w3 w4 jp3
   refine zB (jp:=jp3) (fun (nb3:Nat) (out5:Array Keyed)=>MgH κ LL out5.toList.reverse (a.toList.take na3) (b.toList.take nb3)/\2<=nb3/\nb3<=nb2 - 1/\∀ y∈b.toList.take nb3,le κ y p) (fun nb3 out5 hR=>?_) (fun hj3=>?_)
   ·obtain⟨M5,hB1,hB2,hB⟩:=hR;refine ae6 (cE hp ?_);have M6:MgH κ LL (out5.push p).toList.reverse (a.toList.take (na3 - 1)) (b.toList.take nb3):=by
     rw [mC];refine MgH.a (by rw [← tp];exact M5) fun x hx y hy=>?_;rw [ae1.mp hx];exact hB y hy
    by_cases c7:na3 - 1=0
    ·refine ifp (afj.mpr c7) ?_;exact afa ⟨ev4,.inl ⟨_,_,rfl,adN M6 c7⟩⟩
    refine ifn (fun z=>c7 (afj.mp z)) ?_;refine ifs (fun _=>?_) (fun _=>?_)
    ·exact afa ⟨ev4,.inr ⟨na3 - 1,nb3,_,_,_,_,rfl,M6,by lia,by lia,by lia,by lia,by lia⟩⟩
    ·exact afa ⟨ev4,na3 - 1,nb3,_,_,_,_,rfl,M6,by lia,by lia,by lia,by lia,by lia⟩
   by_cases hk2:k2=nb2 - 1
   ·subst hk2;refine ifn (show ¬ (nb2 - 1 - (nb2 - 1) > 0) by lia) (hj3 (nb2 - 1) _ ⟨M4,by lia,ae4 _,fun y hy=>le_of_lt (g3 y hy)⟩)
   ·refine ifp (show nb2 - 1 - k2 > 0 by lia) ?_;have M5:MgH κ LL ((out3.push q)++(b.extract k2 (nb2 - 1)).reverse).toList.reverse (a.toList.take na3) (b.toList.take k2):=by
     rw [wM];refine MgH.b (by rw [← vz b hkn2];exact M4) fun y hy x hx=>?_;have sA:=sa.take na3;rw [tp] at sA;rw [tp] at hx;exact le_trans (sA.lastOf x hx) (g4 y hy)
    by_cases c5:k2=1
    ·refine ifp (afj.mpr c5) ?_;exact afa ⟨ev4,.inl ⟨_,_,rfl,adI M5 c5 hb P1⟩⟩
    refine ifn (fun z=>c5 (afj.mp z)) ?_;by_cases c6:k2=0
    ·refine ifp (afj.mpr c6) ?_;exact afa ⟨ev4,.inl ⟨_,_,rfl,aeP M5 c6⟩⟩
    exact ifn (fun z=>c6 (afj.mp z)) (hj3 k2 _ ⟨M5,by lia,by lia,fun y hy=>le_of_lt (g3 y hy)⟩)
  by_cases hk0:k=na2
  ·subst hk0;exact ifn (show ¬ (k - k > 0) by lia) (hj k _ ⟨M',j1,ae4 _,fun x hx=>g1 x hx⟩)
  ·refine ifp (show na2 - k > 0 by lia) ?_;have M3:MgH κ LL (out2++(a.extract k na2).reverse).toList.reverse (a.toList.take k) (b.toList.take nb2):=by
    rw [wM];refine MgH.a (by rw [← vz a hkn];exact M') fun x hx y hy=>?_;rw [tq] at hy;exact le_trans (sB.lastOf y hy) (le_of_lt (g2 x hx))
   by_cases c3:k=0
   ·refine ifp (afj.mpr c3) ?_;exact afa ⟨ev4,.inl ⟨_,_,rfl,adN M3 c3⟩⟩
   exact ifn (fun z=>c3 (afj.mp z)) (hj k _ ⟨M3,by lia,hkn,fun x hx=>g1 x hx⟩)
end
theorem uP (s:Nat):∀ (m:List Keyed) (off:Nat) (arr:Array Keyed),s+off+m.length<=arr.size →
 ((m.zipIdx off).foldl (fun a x=>a.setIfInBounds (s+x.2) x.1) arr).toList=arr.toList.take (s+off)++(m++arr.toList.drop (s+off+m.length))
 | [],off,arr,h=>by simp
 | x::m,off,arr,h=>by
  rw [List.zipIdx_cons,ahn];rw [afn] at h;rw [uP s m (off+1) _ (by rw [Array.size_setIfInBounds];lia)];have e:(arr.setIfInBounds (s+off) x).toList=arr.toList.set (s+off) x:=by simp
  show (arr.setIfInBounds (s+off) x).toList.take _++(m++(arr.setIfInBounds (s+off) x).toList.drop _)=_;rw [e];have hl:s+off < arr.toList.length:=by rw [afd];lia
  have t1:(arr.toList.set (s+off) x).take (s+(off+1))=arr.toList.take (s+off)++[x]:=by
   rw [show s+(off+1)=s+off+1 by lia,afW,List.take_set_of_le (ae4 _),agU hl]
   rfl
  have t2:(arr.toList.set (s+off) x).drop (s+(off+1)+m.length)=arr.toList.drop (s+off+(m.length+1)):=by
   rw [List.drop_set_of_lt (by lia)];congr 1;lia
  rw [t1,t2,afn,ae5]
  rfl
section
variable {prog:Program}{w:World}{A:Around}{E:Value->Shared->Prop}{s:Shared}{κ:KeyKind}
theorem p8 {X Y:List Keyed}(hX:SL κ X)(hY:SL κ Y)(h:∀ x∈X,∀ y∈Y,le κ x y):SL κ (X++Y):=afG.mpr ⟨hX,hY,h⟩
theorem ux (hO:κ.OneLt){i:Nat}{st:SortSt}{P X Y R:List Keyed}{pw pw2:Nat}{Q:Bool->SortSt->Prop}(hk:kindOf st=oneType')(hf:failedOf st=none)
 (hp1:(pendingOf st)[i]? = some (P.length,X.length,pw))(hp2:(pendingOf st)[i+1]? = some (P.length+X.length,Y.length,pw2))(ea:(arrOf st).toList=P++(X++(Y++R)))
 (vX:∀ p∈X,Va κ p)(vY:∀ p∈Y,Va κ p)(sX:SL κ X)(sY:SL κ Y)(hX:1<=X.length)(hY:1<=Y.length)
 (h:∀ M st',M.Perm (X++Y)->SL κ M->kindOf st'=oneType'->failedOf st'=none->(arrOf st').toList=P++(M++R)->pendingOf st'=((pendingOf st).setIfInBounds i (P.length,X.length+Y.length,pw)).eraseIdxIfInBounds (i+1)->Q true st') :
 wpS (model prog w) A E s (mergeAt' i) Q st:=by
 have asz:(arrOf st).size=P.length+(X.length+(Y.length+R.length)):=by
  have:=afH List.length ea;simpa using this
 have dX:((arrOf st).toList.drop P.length).take X.length=X:=by rw [ea];simp
 have dY:((arrOf st).toList.drop (P.length+X.length)).take Y.length=Y:=by
  rw [ea,← ae5];rw [← aeV];simp
 obtain⟨y0,Y',eY⟩:∃ y0 Y',Y=y0::Y':=by
  cases Y with
  | nil=>simp at hY
  | cons y r=>exact⟨y,r,rfl⟩
 have my0:y0∈Y:=by rw [eY];exact aeX
 have hy0:(arrOf st)[P.length+X.length]? = some y0:=by
  have:(arrOf st).toList[P.length+X.length]? = some y0:=by
   rw [ea,eY,← ae5,aff (by simp)];simp
  simpa using this
 have y0le:∀ y∈Y,le κ y0 y:=by
  rw [eY] at sY ⊢;exact sY.head
 refine ae6 (ah3 ?_);have hmatch:((pendingOf st)[i]?,(pendingOf st)[i+1]?)=(some (P.length,X.length,pw),some (P.length+X.length,Y.length,pw2)):=by rw [hp1,hp2]
 rw [hmatch];refine ae6 (agT ?_);have k1:kindOf (SortSt.mk' (kindOf st) (arrOf st) (((pendingOf st).setIfInBounds i (P.length,X.length+Y.length,pw)).eraseIdxIfInBounds (i+1)) (gallopOf st) (failedOf st))=oneType':=hk;have f1:failedOf (SortSt.mk' (kindOf st) (arrOf st) (((pendingOf st).setIfInBounds i (P.length,X.length+Y.length,pw)).eraseIdxIfInBounds (i+1)) (gallopOf st) (failedOf st))=none:=hf;have a1:arrOf (SortSt.mk' (kindOf st) (arrOf st) (((pendingOf st).setIfInBounds i (P.length,X.length+Y.length,pw)).eraseIdxIfInBounds (i+1)) (gallopOf st) (failedOf st))=arrOf st:=rfl;have p1:pendingOf (SortSt.mk' (kindOf st) (arrOf st) (((pendingOf st).setIfInBounds i (P.length,X.length+Y.length,pw)).eraseIdxIfInBounds (i+1)) (gallopOf st) (failedOf st))=((pendingOf st).setIfInBounds i (P.length,X.length+Y.length,pw)).eraseIdxIfInBounds (i+1):=rfl;show wpS _ _ _ _ _ _ (SortSt.mk' (kindOf st) (arrOf st) (((pendingOf st).setIfInBounds i (P.length,X.length+Y.length,pw)).eraseIdxIfInBounds (i+1)) (gallopOf st) (failedOf st));generalize SortSt.mk' (kindOf st) (arrOf st) (((pendingOf st).setIfInBounds i (P.length,X.length+Y.length,pw)).eraseIdxIfInBounds (i+1)) (gallopOf st) (failedOf st)=st1 at k1 f1 a1 p1 ⊢;have same:SL κ (X++Y)->Q true st1:=fun so=>h (X++Y) st1 (List.Perm.refl _) so k1 f1 (by rw [a1,ea,ae5]) p1;refine ae6 (cE hy0 (ae6 (fq (left:=false) (key:=y0) (arr:=arrOf st) (base:=P.length) (n:=X.length) (hint:=0) hO k1 (vY y0 my0) (by lia) (by rw [dX];exact vX) (by rw [dX];exact sX) (by lia) fun k hkn g1 g2=>?_)));rw [dX] at g1 g2;simp only [af8,ahU] at g1 g2;have sp:=afy k X;have l2:(X.drop k).length=X.length - k:=af2;have l1:(X.take k).length=k:=by rw [afs];lia
 have g1Y:∀ x∈X.take k,∀ y∈Y,le κ x y:=fun x hx y hy=>le_trans (g1 x hx) (y0le y hy);by_cases c1:X.length - k=0
 ·refine ifp (afj.mpr c1) ?_;refine afa (same (p8 sX sY fun x hx y hy=>g1Y x ?_ y hy));rw [afI (by lia)];exact hx
 refine ifn (fun z=>c1 (afj.mp z)) ?_;obtain⟨xl,hxl⟩:∃ xl,X[X.length - 1]? = some xl:=⟨_,aeS (by lia)⟩;have mxl:xl∈X:=afY hxl;have hxa:(arrOf st)[P.length+k+(X.length - k) - 1]? = some xl:=by
  have:(arrOf st).toList[P.length+k+(X.length - k) - 1]? = some xl:=by
   rw [ea,show P.length+k+(X.length - k) - 1=P.length+(X.length - 1) by lia,aff (by lia),Nat.add_sub_cancel_left,afp (by lia)];exact hxl
  simpa using this
 have lex:∀ x∈X,le κ x xl:=fun x hx=>by
  obtain⟨j,hj,ej⟩:=ahT.mp hx;exact sX.at (i:=j) (j:=X.length - 1) (by lia) (by rw [aeS hj,ej]) hxl
 refine ae6 (cE hxa (ae6 (fq (left:=true) (key:=xl) (arr:=arrOf st) (base:=P.length+X.length) (n:=Y.length) (hint:=Y.length - 1) hO k1 (vX xl mxl) (by lia) (by rw [dY];exact vY) (by rw [dY];exact sY) (by lia) fun k2 hkn2 g3 g4=>?_)));rw [dY] at g3 g4;simp only [aiO] at g3 g4;by_cases c2:k2=0
 ·refine ifp (afj.mpr c2) ?_;refine afa (same (p8 sX sY fun x hx y hy=>le_trans (lex x hx) (g4 y ?_)));rw [c2,afV];exact hy
 refine ifn (fun z=>c2 (afj.mp z)) ?_;have l3:(Y.take k2).length=k2:=by rw [afs];lia
 have ex:((arrOf st).extract (P.length+k) (P.length+X.length)).toList=X.drop k:=by
  rw [agh,af7,ea,← aha,ahG,agS hkn,show P.length+X.length - (P.length+k)=(X.drop k).length by rw [l2];lia,ahb]
 have ey:((arrOf st).extract (P.length+X.length) (P.length+X.length+k2)).toList=Y.take k2:=by
  rw [agh,af7,ea,← aha,ahG,ahG,show P.length+X.length+k2 - (P.length+X.length)=k2 by lia,agg hkn2]
 have fin:∀ (m:Array Keyed) (st2:SortSt),Eqv st1 st2->o5 κ (X.drop k++Y.take k2) m.toList->Q true (SortSt.mk' (kindOf st2) ((m.toList.zipIdx).foldl (fun a x=>a.setIfInBounds (P.length+k+x.2) x.1) (arrOf st2)) (pendingOf st2) (gallopOf st2) (failedOf st2)):=by
  intro m st2 ev g;have ml:m.toList.length=X.length - k+k2:=by rw [g.1.length_eq,aeV,l2,l3]
  have msz:m.size=X.length - k+k2:=by rw [← afd];exact ml
  refine h (X.take k++(m.toList++Y.drop k2)) _ ?_ ?_ (ev.1.trans k1) (ev.2.2.2.trans f1) ?_ (ev.2.2.1.trans p1)
  ·refine List.Perm.trans (agb _ (agp _ g.1)) ?_;rw [ae5,afy,← ae5,afy]
  ·have inM:∀ z∈m.toList,z∈X.drop k\/z∈Y.take k2:=fun z hz=>afc.mp (g.1.mem_iff.mp hz);have sX':=sX;rw [← sp] at sX';have cX:=(afG.mp sX').2.2;have sY':=sY;rw [← afy k2 Y] at sY';have cY:=(afG.mp sY').2.2;refine p8 (sX.take k) (p8 g.2 (sY.drop k2) fun z hz y hy=>?_) fun x hx z hz=>?_
   ·rcases inM z hz with q | q
    ·exact le_trans (lex z (af5 q)) (g4 y hy)
    ·exact cY z q y hy
   ·rcases afc.mp hz with hz | hz
    ·rcases inM z hz with q | q
     ·exact cX x hx z q
     ·exact g1Y x hx z (af9 q)
    ·exact g1Y x hx z (af5 hz)
  ·show ((m.toList.zipIdx).foldl (fun a x=>a.setIfInBounds (P.length+k+x.2) x.1) (arrOf st2)).toList=_;have asz2:(arrOf st2).size=(arrOf st).size:=by rw [ev.2.1,a1]
   rw [uP (P.length+k) m.toList 0 (arrOf st2) (by lia),ev.2.1,a1,ea];have t1:(P++(X++(Y++R))).take (P.length+k+0)=P++X.take k:=by
    rw [aic,List.take_length_add_append,agg hkn]
   have t2:(P++(X++(Y++R))).drop (P.length+k+0+m.toList.length)=Y.drop k2++R:=by
    rw [show P.length+k+0+m.toList.length=P.length+(X.length+k2) by lia,ah4,ah4,agS hkn2]
   rw [t1,t2];simp only [ae5]
 have P1':∀ y∈(Y.take k2).take 1,∀ x∈X.drop k,le κ y x:=fun y hy x hx=>by
  rw [ahE,agn (by lia),eY] at hy;have:y=y0:=by simpa using hy
  rw [this];exact le_of_lt (g2 x hx)
 have P2':∀ y∈Y.take k2,∀ z∈(X.drop k).drop (X.length - k - 1),le κ y z:=fun y hy z hz=>by
  rw [aha,show k+(X.length - k - 1)=X.length - 1 by lia] at hz;have ez:X.drop (X.length - 1)=[xl]:=by
   obtain⟨hl,e⟩:=aeZ.mp hxl;rw [afU hl,e,agW (by lia)]
  rw [ez] at hz;rw [ae1.mp hz];exact le_of_lt (g3 y hy)
 have xsz:((arrOf st).extract (P.length+k) (P.length+X.length)).size=X.length - k:=by rw [← afd,ex,l2]
 have ysz:((arrOf st).extract (P.length+X.length) (P.length+X.length+k2)).size=k2:=by rw [← afd,ey,l3]
 refine ifs (fun _=>?_) (fun _=>?_)
 ·refine ae6 (t9 hO k1 (by rw [ex];exact fun p hp=>vX p (af5 hp)) (by rw [ey];exact fun p hp=>vY p (af9 hp)) (by rw [xsz];lia) (by rw [ysz];lia) (by rw [ex];exact sX.drop k) (by rw [ey];exact sY.take k2) (by rw [ex,ey];exact P1') (by rw [ex,ey,xsz];exact P2') fun m st2 ev g=>?_);rw [ex,ey] at g;refine ae6 (agT (ae6 (ah3 ?_)));have:=fin m st2 ev g;have e:(failedOf st2).isNone=true:=by rw [ev.2.2.2,f1];rfl
  refine afa ?_;show Q (failedOf st2).isNone _;rw [e];exact this
 ·refine ae6 (sW hO k1 (by rw [ex];exact fun p hp=>vX p (af5 hp)) (by rw [ey];exact fun p hp=>vY p (af9 hp)) (by rw [xsz];lia) (by rw [ysz];lia) (by rw [ex];exact sX.drop k) (by rw [ey];exact sY.take k2) (by rw [ex,ey];exact P1') (by rw [ex,ey,xsz];exact P2') fun m st2 ev g=>?_);rw [ex,ey] at g;refine ae6 (agT (ae6 (ah3 ?_)));have:=fin m st2 ev g;have e:(failedOf st2).isNone=true:=by rw [ev.2.2.2,f1];rfl
  refine afa ?_;show Q (failedOf st2).isNone _;rw [e];exact this
end
structure Rl (lo:Nat)(st0 st:SortSt):Prop where
 kind:kindOf st=oneType'
 failed:failedOf st=none
 pend:pendingOf st=pendingOf st0
 perm:(arrOf st).Perm (arrOf st0)
 pre:∀ i,i < lo->(arrOf st)[i]? = (arrOf st0)[i]?
theorem Rl.size {lo:Nat}{st0 st:SortSt}(R:Rl lo st0 st):(arrOf st).size=(arrOf st0).size:=R.perm.size_eq
theorem Rl.mir {lo i j:Nat}{st0 st:SortSt}(R:Rl lo st0 st)(hi:lo<=i)(hj:j<=(arrOf st0).size):Rl lo st0 (setArr st (mirror (arrOf st) i j ((j - i) / 2))) :=
 ⟨R.kind,R.failed,R.pend,(mirror_perm _ _ _ _).trans R.perm,fun k hk=>by
  show (mirror (arrOf st) i j ((j - i) / 2))[k]? = _;rw [getElem?_mirror_all (by rw [R.size];exact hj),if_neg (by lia)];exact R.pre k hk⟩
theorem Rl.bub {lo src d:Nat}{st0 st:SortSt}(R:Rl lo st0 st)(hi:lo<=src - d)(hd:d<=src)(hs:src < (arrOf st0).size):Rl lo st0 (setArr st (bubble (arrOf st) src d)) :=
 ⟨R.kind,R.failed,R.pend,(bubble_perm _ _ _).trans R.perm,fun k hk=>by
  show (bubble (arrOf st) src d)[k]? = _;rw [getElem?_bubble (by rw [R.size];exact hs) d hd,if_neg (by lia),if_neg (by lia)];exact R.pre k hk⟩
def UpK (κ:KeyKind)(xs:Array Keyed)(lo n:Nat):Prop:=∀ i j,i<=j->j < n->κ.kle (KK κ xs (lo+i)) (KK κ xs (lo+j))
def DnK (κ:KeyKind)(xs:Array Keyed)(lo n:Nat):Prop:=∀ i j,i<=j->j < n->κ.kle (KK κ xs (lo+j)) (KK κ xs (lo+i))
section
variable {κ:KeyKind}
theorem UpK.one (xs:Array Keyed)(lo n:Nat)(hn:n<=1):UpK κ xs lo n:=fun i j hij hj=>by
 have e:i=j:=by lia
 subst e;exact agH _
theorem UpK.more {xs:Array Keyed}{lo x:Nat}(h:UpK κ xs lo x)(hx:1<=x)(q:κ.kle (KK κ xs (lo+(x - 1))) (KK κ xs (lo+x))):UpK κ xs lo (x+1):=fun i j hij hj=>by
 by_cases hjx:j < x
 ·exact h i j hij hjx
 ·have e:j=x:=by lia
  subst e;by_cases e2:i=j
  ·subst e2;exact agH _
  ·exact agR (h i (j - 1) (by lia) (by lia)) q
theorem DnK.more {xs:Array Keyed}{lo x:Nat}(h:DnK κ xs lo x)(hx:1<=x)(q:κ.kle (KK κ xs (lo+x)) (KK κ xs (lo+(x - 1)))):DnK κ xs lo (x+1):=fun i j hij hj=>by
 by_cases hjx:j < x
 ·exact h i j hij hjx
 ·have e:j=x:=by lia
  subst e;by_cases e2:i=j
  ·subst e2;exact agH _
  ·exact agR q (h i (j - 1) (by lia) (by lia))
theorem DnK.congr {xs ys:Array Keyed}{lo n:Nat}(h:DnK κ xs lo n)(e:∀ k,KK κ ys k=KK κ xs k):DnK κ ys lo n:=fun i j hij hj=>by
 rw [e,e];exact h i j hij hj
end
section
variable {prog:Program}{w:World}{A:Around}{E:Value->Shared->Prop}{s:Shared}{κ:KeyKind}
theorem pk (hO:κ.OneLt){lo i j:Nat}{st0 st:SortSt}{Q:Option Bool->SortSt->Prop}(R:Rl lo st0 st)(va:∀ p∈(arrOf st0).toList,Va κ p)(hi:i < (arrOf st0).size)(hj:j < (arrOf st0).size)
 (h:Q (some (κ.blt (KK κ (arrOf st) i) (KK κ (arrOf st) j))) st):wpS (model prog w) A E s (ltAt' i j) Q st:=by
 have get:∀ k,k < (arrOf st0).size->∃ p,(arrOf st)[k]? = some p/\Va κ p:=fun k hk=>by
  obtain⟨p,e,m⟩:=dQ (x:=arrOf st) (i:=k) (by rw [R.size];exact hk);exact⟨p,e,va p ((agr.mp R.perm).mem_iff.mp m)⟩
 obtain⟨p,e1,a,ha⟩:=get i hi;obtain⟨q,e2,b,hb⟩:=get j hj;have ka:KK κ (arrOf st) i=a:=by rw [oE e1];unfold kk;rw [ha];rfl
 have kb:KK κ (arrOf st) j=b:=by rw [oE e2];unfold kk;rw [hb];rfl
 rw [ka,kb] at h;exact wpS_ltAtK hO R.kind (x:=p.1) (y:=q.1) (p:=p.2) (q:=q.2) e1 e2 ha hb h
theorem wx (hO:κ.OneLt){lo n ok:Nat}{st0 st:SortSt}{Q:Bool->SortSt->Prop}(R:Rl lo st0 st)(va:∀ p∈(arrOf st0).toList,Va κ p)(hn:lo+n<=(arrOf st0).size)(h1:1<=ok)(hok:ok<=n)(hs:UpK κ (arrOf st) lo ok)
 (h:∀ st',Rl lo st0 st'->UpK κ (arrOf st') lo n->Q true st'):wpS (model prog w) A E s (binarySort' lo n ok) Q st:=by
 rw [binarySort'_eq];refine ae6 (agy (afN (I:=fun k c st'=>c=(none,())/\Rl lo st0 st'/\UpK κ (arrOf st') lo k) (Q:=fun c st'=>c=(none,())/\Rl lo st0 st'/\UpK κ (arrOf st') lo n) ?_ ?_ ⟨rfl,R,by rw [Nat.max_eq_left h1];exact hs⟩) ?_);rotate_left
 ·rintro c st' ⟨rfl,R',hs'⟩;rw [show max (max ok 1) n=n by lia] at hs';exact⟨rfl,R',hs'⟩
 ·rintro c st' ⟨rfl,R',hs'⟩;exact afa (h st' R' hs')
 rintro k c st1 hak hkn ⟨rfl,R1,s1⟩;have hk1:1<=k:=by lia
 refine ae6 (agy (afN (I:=fun x c st2=>st2=st1/\∃ l r,c=(none,l,r)/\l<=r/\r<=k/\r - l<=k - x/\(∀ i,i < l->κ.kle (KK κ (arrOf st1) (lo+i)) (KK κ (arrOf st1) (lo+k)))/\∀ i,r<=i->i < k->κ.klt (KK κ (arrOf st1) (lo+k)) (KK κ (arrOf st1) (lo+i)))
  (Q:=fun c st2=>st2=st1/\∃ l r,c=(none,l,r)/\l<=k/\(∀ i,i < l->κ.kle (KK κ (arrOf st1) (lo+i)) (KK κ (arrOf st1) (lo+k)))/\∀ i,l<=i->i < k->κ.klt (KK κ (arrOf st1) (lo+k)) (KK κ (arrOf st1) (lo+i))) ?_ ?_ ⟨rfl,0,k,rfl,afh _,ae4 _,by lia,fun i hi=>absurd hi (by lia),fun i a b=>absurd b (by lia)⟩) ?_)
 ·rintro x c st2 _ hx ⟨rfl,l,r,rfl,g1,g2,g3,g4,g5⟩;by_cases hge:l ≥ r
  ·refine ifp hge ?_;have e:l=r:=by lia
   subst e;exact afa ⟨rfl,l,l,rfl,g2,g4,g5⟩
  ·refine ifn hge ?_;refine ae6 (pk hO R1 va (by show lo+k < _;lia) (by show lo+(l+r) / 2 < _;lia) ?_);show wpS _ _ _ _ (if κ.blt (KK κ (arrOf st2) (lo+k)) (KK κ (arrOf st2) (lo+(l+r) / 2))=true then _ else _) _ _;cases q:κ.blt (KK κ (arrOf st2) (lo+k)) (KK κ (arrOf st2) (lo+(l+r) / 2)) with
   | true =>
    refine ifp rfl ?_;exact afa ⟨rfl,l,(l+r) / 2,rfl,by lia,by lia,by lia,g4,fun i a b=>KeyOrd.klt_of_klt_of_kle q (s1 _ _ a b)⟩
   | false =>
    refine ifn ae2 ?_;exact afa ⟨rfl,(l+r) / 2+1,r,rfl,by lia,by lia,by lia,fun i a=>agR (s1 i ((l+r) / 2) (by lia) (by lia)) (show κ.kle _ _ from q),g5⟩
 ·rintro c st2 ⟨rfl,l,r,rfl,g1,g2,g3,g4,g5⟩;have e:l=r:=by lia
  subst e;exact⟨rfl,l,l,rfl,g2,g4,g5⟩
 ·rintro c st2 ⟨rfl,l,r,rfl,g2,g4,g5⟩;show wpS _ _ _ _ (moveDown' (lo+k) (lo+l) >>= fun _=>pure (ForInStep.yield (none,()))) _ _;rw [moveDown'_eq];have hks:lo+k < (arrOf st2).size:=by rw [R1.size];lia
  refine ae6 (agT (afa ⟨rfl,R1.bub (by lia) (by lia) (by lia),?_⟩));intro i j hij hj;show κ.kle (KK κ (bubble (arrOf st2) (lo+k) (lo+k - (lo+l))) (lo+i)) (KK κ (bubble (arrOf st2) (lo+k) (lo+k - (lo+l))) (lo+j));rw [KK_bubble hks (by lia),KK_bubble hks (by lia)];have e1:∀ {z:Nat},l < z->z<=k->lo+z - 1=lo+(z - 1):=fun {z} a b=>by lia
  by_cases hj1:j=l
  ·subst hj1;rw [if_pos (show lo+j=lo+k - (lo+k - (lo+j)) by lia)];by_cases hi1:i=j
   ·rw [hi1,if_pos (show lo+j=lo+k - (lo+k - (lo+j)) by lia)];exact agH _
   ·rw [if_neg (by lia),if_neg (by lia)];exact g4 i (by lia)
  ·by_cases hj2:l < j
   ·rw [if_neg (show ¬ (lo+j=lo+k - (lo+k - (lo+l))) by lia),if_pos (show lo+k - (lo+k - (lo+l)) < lo+j/\lo+j<=lo+k by lia),e1 hj2 (by lia)];by_cases hi1:i=l
    ·rw [hi1,if_pos (show lo+l=lo+k - (lo+k - (lo+l)) by lia)];exact ag6 (g5 (j - 1) (by lia) (by lia))
    ·by_cases hi2:l < i
     ·rw [if_neg (show ¬ (lo+i=lo+k - (lo+k - (lo+l))) by lia),if_pos (show lo+k - (lo+k - (lo+l)) < lo+i/\lo+i<=lo+k by lia),e1 hi2 (by lia)];exact s1 _ _ (by lia) (by lia)
     ·rw [if_neg (by lia),if_neg (by lia)];exact s1 _ _ (by lia) (by lia)
   ·rw [if_neg (show ¬ (lo+j=lo+k - (lo+k - (lo+l))) by lia),if_neg (show ¬ (lo+k - (lo+k - (lo+l)) < lo+j/\lo+j<=lo+k) by lia),if_neg (by lia),if_neg (by lia)];exact s1 _ _ hij (by lia)
end
section
variable {prog:Program}{w:World}{A:Around}{E:Value->Shared->Prop}{s:Shared}{κ:KeyKind}
theorem yn (hO:κ.OneLt){lo nrem:Nat}{st0:SortSt}{Q:Option Nat->SortSt->Prop}(hk:kindOf st0=oneType')(hf:failedOf st0=none)(va:∀ p∈(arrOf st0).toList,Va κ p)(hn:lo+nrem<=(arrOf st0).size)(h1:1<=nrem)
 (h:∀ m st',Rl lo st0 st'->1<=m->m<=nrem->UpK κ (arrOf st') lo m->Q (some m) st'):wpS (model prog w) A E s (countRun' lo nrem) Q st0:=by
 rw [countRun'_eq];have R0:Rl lo st0 st0:=⟨hk,hf,rfl,Array.Perm.refl _,fun _ _=>rfl⟩;refine ae6 (agy (afN (I:=fun x c st'=>st'=st0/\c=(none,x)/\UpK κ (arrOf st0) lo x) (Q:=fun c st'=>st'=st0/\∃ n,c=(none,n)/\1<=n/\n<=nrem/\UpK κ (arrOf st0) lo n/\(n=nrem\/κ.klt (KK κ (arrOf st0) (lo+n)) (KK κ (arrOf st0) (lo+(n - 1))))) ?_ ?_ ⟨rfl,rfl,UpK.one _ _ _ (ae4 _)⟩) ?_)
 ·rintro x c st' hx1 hx ⟨rfl,rfl,s1⟩;refine ae6 (pk hO R0 va (by show lo+x < _;lia) (by show lo+x - 1 < _;lia) ?_);show wpS _ _ _ _ (if κ.blt (KK κ (arrOf st') (lo+x)) (KK κ (arrOf st') (lo+x - 1))=true then _ else _) _ _;rw [show lo+x - 1=lo+(x - 1) by lia];cases q:κ.blt (KK κ (arrOf st') (lo+x)) (KK κ (arrOf st') (lo+(x - 1))) with
  | true =>
   refine ifp rfl ?_;exact afa ⟨rfl,x,rfl,hx1,by lia,s1,.inr q⟩
  | false =>
   refine ifn ae2 ?_;exact afa ⟨rfl,rfl,s1.more hx1 q⟩
 ·rintro c st' ⟨rfl,rfl,s1⟩;rw [show max 1 nrem=nrem by lia] at s1 ⊢;exact⟨rfl,nrem,rfl,h1,ae4 _,s1,.inl rfl⟩
 rintro c st' ⟨rfl,n,rfl,g1,g2,s1,alt⟩;by_cases hnn:n=nrem
 ·refine ifp (afj.mpr hnn) ?_;exact afa (h n st' R0 g1 g2 s1)
 refine ifn (fun z=>hnn (afj.mp z)) ?_;have hlt:=alt.resolve_left hnn
 lift_lets
 extract_lets n0 q0 jp
 have hjp:∀ st1,Rl lo st' st1->DnK κ (arrOf st1) lo (n+1)->wpS (model prog w) A E s (jp ()) Q st1:=by
  intro st1 R1 d1;refine ae6 (wpS_lift (ahV ⟨rfl,?_⟩));refine ae6 (agy (afN (a:=n+1) (b:=nrem) (I:=fun x c st2=>Rl lo st' st2/\∃ neq,c=(none,x,neq)/\DnK κ (arrOf st2) lo x/\neq+1<=x/\∀ i,x - (neq+1)<=i->i < x->KK κ (arrOf st2) (lo+i)=KK κ (arrOf st2) (lo+(x - 1)))
   (Q:=fun c st2=>Rl lo st' st2/\∃ x neq,c=(none,x,neq)/\1<=x/\x<=nrem/\DnK κ (arrOf st2) lo x/\neq+1<=x/\∀ i,x - (neq+1)<=i->i < x->KK κ (arrOf st2) (lo+i)=KK κ (arrOf st2) (lo+(x - 1))) ?_ ?_ ⟨R1,0,rfl,d1,by lia,fun i a b=>by congr 1;lia⟩) ?_)
  ·rintro x c st2 hx1 hx ⟨R2,neq,rfl,d2,q1,q2⟩;have hsz:lo+x<=(arrOf st2).size:=by rw [R2.size];lia
   refine ae6 (pk hO R2 va (by show lo+x < _;lia) (by show lo+x - 1 < _;lia) ?_);show wpS _ _ _ _ (if κ.blt (KK κ (arrOf st2) (lo+x)) (KK κ (arrOf st2) (lo+x - 1))=true then _ else _) _ _;rw [show lo+x - 1=lo+(x - 1) by lia];cases q:κ.blt (KK κ (arrOf st2) (lo+x)) (KK κ (arrOf st2) (lo+(x - 1))) with
   | true =>
    refine ifp rfl ?_;have d3:=d2.more (by lia) (ag6 q);refine ifs (fun hq=>?_) (fun hq=>?_)
    ·refine ae6 (wpS_reverse (i:=lo+x - (neq+1)) (j:=lo+x) (afa ⟨R2.mir (by lia) (by lia),0,rfl,?_,by lia,fun i a b=>by congr 1;lia⟩));refine d3.congr fun k=>KK_mirror_equal hsz (fun k a b=>?_) k;have e:=q2 (k - lo) (by lia) (by lia);rw [show lo+(k - lo)=k by lia] at e;rw [e];congr 1;lia
    ·exact afa ⟨R2,0,rfl,d3,by lia,fun i a b=>by congr 1;lia⟩
   | false =>
    refine ifn ae2 ?_;refine ae6 (pk hO R2 va (by show lo+(x - 1) < _;lia) (by show lo+x < _;lia) ?_);show wpS _ _ _ _ (if κ.blt (KK κ (arrOf st2) (lo+(x - 1))) (KK κ (arrOf st2) (lo+x))=true then _ else _) _ _;cases p:κ.blt (KK κ (arrOf st2) (lo+(x - 1))) (KK κ (arrOf st2) (lo+x)) with
    | true =>
     refine ifp rfl ?_;exact afa ⟨R2,x,neq,rfl,by lia,by lia,d2,q1,q2⟩
    | false =>
     refine ifn ae2 ?_;have e:KK κ (arrOf st2) (lo+x)=KK κ (arrOf st2) (lo+(x - 1)):=KeyOrd.kle_antisymm p q;refine afa ⟨R2,neq+1,rfl,d2.more (by lia) (show κ.kle _ _ from p),by lia,fun i a b=>?_⟩;rw [show x+1 - 1=x by lia];by_cases hix:i=x
     ·rw [hix]
     ·rw [e];exact q2 i (by lia) (by lia)
  ·rintro c st2 ⟨R2,neq,rfl,d2,q1,q2⟩;rw [show max (n+1) nrem=nrem by lia] at d2 q1 q2 ⊢;exact⟨R2,nrem,neq,rfl,h1,ae4 _,d2,q1,q2⟩
  rintro c st2 ⟨R2,x,neq,rfl,x1,x2,d2,q1,q2⟩
  lift_lets
  extract_lets r5 s5 n5 q5 jp2
  have hjp2:∀ st3,Rl lo st' st3->DnK κ (arrOf st3) lo x->wpS (model prog w) A E s (jp2 ()) Q st3:=by
   intro st3 R3 d3;have hsz:lo+x<=(arrOf st3).size:=by rw [R3.size];lia
   refine ae6 (wpS_reverse (i:=lo) (j:=lo+x) ?_);have R4:=R3.mir (i:=lo) (j:=lo+x) (ae4 _) (by lia);have u4:UpK κ (arrOf (setArr st3 (mirror (arrOf st3) lo (lo+x) ((lo+x - lo) / 2)))) lo x:=fun i j hij hj=>by
    show κ.kle (KK κ (mirror (arrOf st3) lo (lo+x) ((lo+x - lo) / 2)) (lo+i)) (KK κ (mirror (arrOf st3) lo (lo+x) ((lo+x - lo) / 2)) (lo+j));rw [KK_mirror hsz,KK_mirror hsz,if_pos (by lia),if_pos (by lia),show lo+(lo+x) - 1 - (lo+i)=lo+(x - 1 - i) by lia,show lo+(lo+x) - 1 - (lo+j)=lo+(x - 1 - j) by lia];exact d3 _ _ (by lia) (by lia)
   generalize setArr st3 (mirror (arrOf st3) lo (lo+x) ((lo+x - lo) / 2))=st4 at R4 u4 ⊢;refine ae6 (agy (afN (a:=x) (b:=nrem) (I:=fun y c st5=>st5=st4/\c=(none,y)/\UpK κ (arrOf st4) lo y) (Q:=fun c st5=>st5=st4/\∃ m,c=(none,m)/\1<=m/\m<=nrem/\UpK κ (arrOf st4) lo m) ?_ ?_ ⟨rfl,rfl,u4⟩) ?_)
   ·rintro y c st5 hy1 hy ⟨rfl,rfl,s5⟩;refine ae6 (pk hO R4 va (by show lo+y < _;lia) (by show lo+y - 1 < _;lia) ?_);show wpS _ _ _ _ (if κ.blt (KK κ (arrOf st5) (lo+y)) (KK κ (arrOf st5) (lo+y - 1))=true then _ else _) _ _;rw [show lo+y - 1=lo+(y - 1) by lia];cases q:κ.blt (KK κ (arrOf st5) (lo+y)) (KK κ (arrOf st5) (lo+(y - 1))) with
    | true =>
     refine ifp rfl ?_;exact afa ⟨rfl,y,rfl,by lia,by lia,s5⟩
    | false =>
     refine ifn ae2 ?_;exact afa ⟨rfl,rfl,s5.more (by lia) q⟩
   ·rintro c st5 ⟨rfl,rfl,s5⟩;rw [show max x nrem=nrem by lia] at s5 ⊢;exact⟨rfl,nrem,rfl,h1,ae4 _,s5⟩
   ·rintro c st5 ⟨rfl,m,rfl,m1,m2,s5⟩;exact afa (h m st5 R4 m1 m2 s5)
  clear_value jp2
  refine ifs (fun hq=>?_) (fun hq=>hjp2 st2 R2 d2);have hsz:lo+x<=(arrOf st2).size:=by rw [R2.size];lia
  refine ae6 (wpS_reverse (i:=lo+x - (neq+1)) (j:=lo+x) (hjp2 _ (R2.mir (by lia) (by lia)) ?_));refine d2.congr fun k=>KK_mirror_equal hsz (fun k a b=>?_) k;have e:=q2 (k - lo) (by lia) (by lia);rw [show lo+(k - lo)=k by lia] at e;rw [e];congr 1;lia
 clear_value jp
 have hsz:lo+n<=(arrOf st').size:=by lia
 refine ifs (fun hgt=>?_) (fun hgt=>?_)
 ·refine ae6 (pk hO R0 va (by show lo < _;lia) (by show lo+n - 1 < _;lia) ?_);show wpS _ _ _ _ (if κ.blt (KK κ (arrOf st') lo) (KK κ (arrOf st') (lo+n - 1))=true then _ else _) _ _;cases q:κ.blt (KK κ (arrOf st') lo) (KK κ (arrOf st') (lo+n - 1)) with
  | true =>
   refine ifp rfl ?_;exact afa (h n st' R0 g1 g2 s1)
  | false =>
   refine ifn ae2 ?_;have all:∀ k,k < n->KK κ (arrOf st') (lo+k)=KK κ (arrOf st') (lo+(n - 1)):=fun k hk=>by
    have a1:=s1 0 k (by lia) hk;have a2:=s1 k (n - 1) (by lia) (by lia);rw [aic] at a1;rw [show lo+n - 1=lo+(n - 1) by lia] at q;exact KeyOrd.kle_antisymm a2 (agR q a1)
   refine ae6 (wpS_reverse (i:=lo) (j:=lo+n) (hjp _ (R0.mir (ae4 _) (by lia)) ?_));have d0:DnK κ (arrOf st') lo n:=fun i j hij hj=>by rw [all i (by lia),all j hj];exact agH _
   refine (d0.more g1 (ag6 hlt)).congr fun k=>KK_mirror_equal hsz (fun k a b=>?_) k;have e:=all (k - lo) (by lia);rw [show lo+(k - lo)=k by lia] at e;rw [e,show lo+n - 1=lo+(n - 1) by lia]
 ·have e1:n=1:=by lia
  subst e1;have d0:DnK κ (arrOf st') lo 1:=fun i j hij hj=>by
   have e:i=j:=by lia
   subst e;exact agH _
  exact hjp st' R0 (d0.more (ae4 _) (ag6 hlt))
end
def kR:Nat->List (List Keyed)->List (Nat×Nat)
 | _,[]=>[]
 | s,g::gs=>(s,g.length)::kR (s+g.length) gs
theorem eR:∀ (A B:List (List Keyed)) (s:Nat),kR s (A++B)=kR s A++kR (s+A.flatten.length) B
 | [],B,s=>by simp [kR]
 | g::A,B,s=>by
  rw [af3];simp only [kR,agj,aeV,af3];rw [eR A B,Nat.add_assoc]
theorem jj:∀ (A:List (List Keyed)) (s:Nat),(kR s A).length=A.length
 | [],s=>rfl
 | g::A,s=>by simp only [kR,afn,jj A]
def two (p:Nat×Nat×Nat):Nat×Nat:=(p.1,p.2.1)
structure Runs (κ:KeyKind)(a₀:Array Keyed)(segs:List (List Keyed))(rest:List Keyed)(st:SortSt):Prop where
 kind:kindOf st=oneType'
 failed:failedOf st=none
 perm:(arrOf st).Perm a₀
 arr:(arrOf st).toList=segs.flatten++rest
 pend:(pendingOf st).toList.map two=kR 0 segs
 sl:∀ g∈segs,SL κ g/\1<=g.length
theorem Runs.psize {κ:KeyKind}{a₀:Array Keyed}{segs:List (List Keyed)}{rest:List Keyed}{st:SortSt}(r:Runs κ a₀ segs rest st):(pendingOf st).size=segs.length:=by
 have:=afH List.length r.pend;rw [aeT,jj,afd] at this;exact this
theorem Runs.total {κ:KeyKind}{a₀:Array Keyed}{segs:List (List Keyed)}{rest:List Keyed}{st:SortSt}(r:Runs κ a₀ segs rest st):segs.flatten.length+rest.length=a₀.size:=by
 have:=afH List.length r.arr;rw [aeV,afd,r.perm.size_eq] at this;exact this.symm
theorem xp:∀ {segs:List (List Keyed)},(∀ g∈segs,1<=g.length)->segs.length<=segs.flatten.length
 | [],_=>ae4 _
 | g::gs,h=>by
  have a:=h g aeX;have b:=xp (segs:=gs) fun q hq=>h q (aeW _ hq);rw [agj,aeV,afn];lia
theorem rf:∀ {segs:List (List Keyed)} {i:Nat},i+1 < segs.length->∃ S1 X Y S2,segs=S1++(X::Y::S2)/\S1.length=i
 | [],i,h=>absurd h (by simp)
 | [g],i,h=>absurd h (by simp)
 | g::g'::gs,0,h=>⟨[],g,g',gs,rfl,rfl⟩
 | g::g'::gs,i+1,h=>by
  obtain⟨S1,X,Y,S2,e,l⟩:=rf (segs:=g'::gs) (i:=i) (by simpa using h);exact⟨g::S1,X,Y,S2,by rw [e];rfl,by simp [l]⟩
theorem jm {α β:Type}(f:α->β):∀ (l:List α) (n:Nat),(l.eraseIdx n).map f=(l.map f).eraseIdx n
 | [],n=>by simp
 | x::l,0=>by simp
 | x::l,n+1=>by
  rw [agN,afl,afl,agN,jm f l n]
theorem Runs.after {κ:KeyKind}{a₀:Array Keyed}{segs:List (List Keyed)}{rest:List Keyed}{st st':SortSt}(r:Runs κ a₀ segs rest st)(R:Rl segs.flatten.length st st'):Runs κ a₀ segs ((arrOf st').toList.drop segs.flatten.length) st':=by
 refine⟨R.kind,R.failed,R.perm.trans r.perm,?_,by rw [R.pend];exact r.pend,r.sl⟩;have e:(arrOf st').toList.take segs.flatten.length=segs.flatten:=by
  have e1:(arrOf st).toList.take segs.flatten.length=segs.flatten:=by rw [r.arr,ahb]
  rw [← e1];refine ais fun i=>?_;have hlen:(List.take segs.flatten.length (arrOf st).toList).length=segs.flatten.length:=by
   rw [e1]
  rw [hlen];by_cases hi:i < segs.flatten.length
  ·rw [agE hi,agE hi,afM,afM];exact R.pre i hi
  ·rw [ah7 (by lia),ah7 (by lia)]
 have:=(afy segs.flatten.length (arrOf st').toList).symm
 rwa [e] at this
theorem UpK.sl {κ:KeyKind}{xs:Array Keyed}{lo n:Nat}(h:UpK κ xs lo n):SL κ ((xs.toList.drop lo).take n):=by
 refine ag9.mpr fun i j hi hj hij=>?_;have hj':j < n/\j < xs.size - lo:=by
  rw [afs,af2,afd] at hj;lia
 have q:=h i j (ag0 hij) hj'.1;rw [oE (p:=xs[lo+i]) (getElem?_pos xs (lo+i) (by lia)),oE (p:=xs[lo+j]) (getElem?_pos xs (lo+j) (by lia))] at q;rw [aiq,air,aiq,air];exact q
theorem ac3 {c:Prop}[Decidable c]{a b n:Nat}(h1:a+1 < n)(h2:b+1 < n):(if c then a else b)+1 < n:=by
 split<;>assumption
theorem zq (f:Nat×Nat×Nat->Nat×Nat×Nat)(hf:∀ x,two (f x)=two x)(p:Array (Nat×Nat×Nat))(i:Nat):(p.modify i f).toList.map two=p.toList.map two:=by
 refine ais fun j=>?_;rw [afg,afg,afM,afM,Array.getElem?_modify];cases p[j]? with
 | none=>split<;>rfl
 | some v =>
  split
  ·show some (two (f v))=some (two v);rw [hf]
  ·rfl
section
variable {prog:Program}{w:World}{A:Around}{E:Value->Shared->Prop}{s:Shared}{κ:KeyKind}
theorem ig (hO:κ.OneLt){a₀:Array Keyed}{segs:List (List Keyed)}{rest:List Keyed}{i:Nat}{st:SortSt}{Q:Bool->SortSt->Prop}(va:∀ p∈a₀.toList,Va κ p)(r:Runs κ a₀ segs rest st)(hi:i+1 < segs.length)
 (h:∀ segs' st',Runs κ a₀ segs' rest st'->segs'.length+1=segs.length->segs'.flatten.length=segs.flatten.length->Q true st'):wpS (model prog w) A E s (mergeAt' i) Q st:=by
 obtain⟨S1,X,Y,S2,rfl,l1⟩:=rf hi;have pe:=r.pend;rw [eR] at pe;simp only [kR,aiY] at pe;have l1':(kR 0 S1).length=i:=by rw [jj];exact l1
 have at1:((pendingOf st).toList.map two)[i]? = some (S1.flatten.length,X.length):=by
  rw [pe,aff (by lia),l1',agA]
  rfl
 have at2:((pendingOf st).toList.map two)[i+1]? = some (S1.flatten.length+X.length,Y.length):=by
  rw [pe,aff (by lia),l1',show i+1 - i=1 by lia]
  rfl
 have get:∀ {k a b:Nat},((pendingOf st).toList.map two)[k]? = some (a,b)->∃ c,(pendingOf st)[k]? = some (a,b,c):=fun {k a b} e=>by
  rw [afg,afM] at e;cases q:(pendingOf st)[k]? with
  | none=>rw [q] at e;cases e
  | some v =>
   rw [q] at e;obtain⟨x,y,z⟩:=v;have e':(x,y)=(a,b):=afP e;cases e';exact⟨z,rfl⟩
 obtain⟨pw,hp1⟩:=get at1;obtain⟨pw2,hp2⟩:=get at2;have ea:(arrOf st).toList=S1.flatten++(X++(Y++(S2.flatten++rest))):=by
  rw [r.arr];simp [ae5]
 have vall:∀ p∈(arrOf st).toList,Va κ p:=fun p hp=>va p ((agr.mp r.perm).mem_iff.mp hp);have sX:=r.sl X (by simp);have sY:=r.sl Y (by simp);refine ux hO r.kind r.failed hp1 hp2 ea (fun p hp=>vall p (by rw [ea];simp [hp])) (fun p hp=>vall p (by rw [ea];simp [hp])) sX.1 sY.1 sX.2 sY.2 fun M st' pM sM k' f' a' p'=>?_;have lM:M.length=X.length+Y.length:=by rw [pM.length_eq,aeV]
 refine h (S1++M::S2) st' ⟨k',f',?_,?_,?_,fun g hg=>?_⟩ (by simp only [aeV,afn];lia) (by simp only [agQ,agj,aeV];lia)
 ·refine Array.Perm.trans (agr.mpr ?_) r.perm;rw [a',ea];refine agb _ ?_;rw [← ae5 X];exact agp _ pM
 ·rw [a'];simp [ae5]
 ·rw [p',Array.toList_eraseIdxIfInBounds,Array.toList_setIfInBounds,eR];simp only [kR,aiY];rw [jm,List.map_set,pe];rw [show two (S1.flatten.length,X.length+Y.length,pw)=(S1.flatten.length,X.length+Y.length) from rfl];rw [List.set_append_right _ _ (by lia),l1',agA,List.set_cons_zero,List.eraseIdx_append_of_length_le (by lia),l1',show i+1 - i=1 by lia];simp only [agN,List.eraseIdx_cons_zero];rw [lM,Nat.add_assoc]
 ·rcases afc.mp hg with hg | hg
  ·exact r.sl g (by simp [hg])
  ·rcases aeY.mp hg with hg | hg
   ·rw [hg];exact⟨sM,by lia⟩
   ·exact r.sl g (by simp [hg])
theorem uy (hO:κ.OneLt){a₀:Array Keyed}{st:SortSt}{Q:Unit->SortSt->Prop}(va:∀ p∈a₀.toList,Va κ p)(hk:kindOf st=oneType')(hf:failedOf st=none)(hp:(arrOf st).Perm a₀)(hpe:pendingOf st=#[])
 (h:∀ st',(arrOf st').Perm a₀->failedOf st'=none->SL κ (arrOf st').toList->Q () st'):wpS (model prog w) A E s sortRuns' Q st:=by
 have hN:(arrOf st).size=a₀.size:=hp.size_eq;have none_left:∀ {segs:List (List Keyed)} {rest:List Keyed} {st':SortSt},Runs κ a₀ segs rest st'->(arrOf st).size<=segs.flatten.length->Runs κ a₀ segs [] st':=fun {segs rest st'} r hl=>by
  have t:=r.total;have e:rest=[]:=agi.mp (by lia);rw [← e];exact r
 refine ae6 (ah3 ?_);refine ae6 (agy (afN (a:=0) (b:=(arrOf st).size) (I:=fun x c st'=>∃ segs rest,c=(none,segs.flatten.length)/\Runs κ a₀ segs rest st'/\x<=segs.flatten.length)
  (Q:=fun c st'=>∃ segs lo,c=(none,lo)/\Runs κ a₀ segs [] st') ?_ ?_ ⟨[],(arrOf st).toList,rfl,⟨hk,hf,hp,rfl,by rw [hpe];rfl,fun g hg=>nomatch hg⟩,ae4 _⟩) ?_)
 ·rintro x c st1 _ hx ⟨segs,rest,rfl,r,hxl⟩;by_cases hge:segs.flatten.length ≥ (arrOf st).size
  ·refine ifp hge ?_;exact afa ⟨segs,_,rfl,none_left r hge⟩
  refine ifn hge ?_;have hN1:(arrOf st1).size=a₀.size:=r.perm.size_eq;have vall:∀ p∈(arrOf st1).toList,Va κ p:=fun p hp=>va p ((agr.mp r.perm).mem_iff.mp hp);refine ae6 (yn (lo:=segs.flatten.length) (nrem:=(arrOf st).size - segs.flatten.length) hO r.kind r.failed vall (by lia) (by lia) fun m st2 R2 m1 m2 u2=>?_);have r2:=r.after R2;have t2:=r2.total;refine ifs (fun hlt=>?_) (fun hlt=>?_)
  ·refine ae6 (wpS_lift (ahV ⟨rfl,?_⟩));have fo1:m<=min ((arrOf st).size - segs.flatten.length) (minRun' (arrOf st).size (arrOf st).size 0):=by
    have hlt':m < minRun' (arrOf st).size (arrOf st).size 0:=hlt;lia
   have fo2:min ((arrOf st).size - segs.flatten.length) (minRun' (arrOf st).size (arrOf st).size 0)<=(arrOf st).size - segs.flatten.length:=Nat.min_le_left _ _;refine ae6 (wx (lo:=segs.flatten.length) (n:=min ((arrOf st).size - segs.flatten.length) (minRun' (arrOf st).size (arrOf st).size 0)) (ok:=m) hO R2 vall (by lia) m1 fo1 u2 fun st3 R3 u3=>?_);refine ifn (by simp) ?_;have r3:=r.after R3;have t3:=r3.total;have sN:=u3.sl;generalize (arrOf st3).toList.drop segs.flatten.length=rest3 at r3 sN t3;have push:∀ (segs':List (List Keyed)) (st4:SortSt),Runs κ a₀ segs' rest3 st4->segs'.flatten.length=segs.flatten.length->∃ segs5 rest5,((none,segs.flatten.length+min ((arrOf st).size - segs.flatten.length) (minRun' (arrOf st).size (arrOf st).size 0)):Option Unit×Nat)=(none,segs5.flatten.length)/\Runs κ a₀ segs5 rest5 (setPending st4 ((pendingOf st4).push (segs.flatten.length,min ((arrOf st).size - segs.flatten.length) (minRun' (arrOf st).size (arrOf st).size 0),0)))/\x+1<=segs5.flatten.length:=fun segs' st4 r4 e4=>by
    have lN:(rest3.take (min ((arrOf st).size - segs.flatten.length) (minRun' (arrOf st).size (arrOf st).size 0))).length=min ((arrOf st).size - segs.flatten.length) (minRun' (arrOf st).size (arrOf st).size 0):=by rw [afs];lia
    have lf:(segs'++[rest3.take (min ((arrOf st).size - segs.flatten.length) (minRun' (arrOf st).size (arrOf st).size 0))]).flatten.length=segs.flatten.length+min ((arrOf st).size - segs.flatten.length) (minRun' (arrOf st).size (arrOf st).size 0):=by
     rw [agQ,aeV,agq,lN,e4]
    refine⟨segs'++[rest3.take (min ((arrOf st).size - segs.flatten.length) (minRun' (arrOf st).size (arrOf st).size 0))],rest3.drop (min ((arrOf st).size - segs.flatten.length) (minRun' (arrOf st).size (arrOf st).size 0)),by rw [lf],⟨r4.kind,r4.failed,r4.perm,?_,?_,fun g hg=>?_⟩,by rw [lf];lia⟩
    ·show (arrOf st4).toList=_;rw [r4.arr,agQ,agq,ae5,afy]
    ·show ((pendingOf st4).push (segs.flatten.length,min ((arrOf st).size - segs.flatten.length) (minRun' (arrOf st).size (arrOf st).size 0),0)).toList.map two=_;rw [Array.toList_push,afe,r4.pend,eR,e4];simp only [kR,aiY,lN]
     rfl
    ·rcases afc.mp hg with hg | hg
     ·exact r4.sl g hg
     ·rw [ae1.mp hg];exact⟨sN,by lia⟩
   refine ae6 (ah3 ?_);cases hb:(pendingOf st3).back? with
   | none=>exact ae6 (agT (afa (push segs st3 r3 rfl)))
   | some v =>
    obtain⟨s1,n1,p0⟩:=v;refine ae6 (agy (afN (a:=0) (b:=(arrOf st).size) (I:=fun y c st4=>c=(none,())/\∃ segs',Runs κ a₀ segs' rest3 st4/\segs'.flatten.length=segs.flatten.length) (Q:=fun c st4=>c=(none,())/\∃ segs',Runs κ a₀ segs' rest3 st4/\segs'.flatten.length=segs.flatten.length) ?_ (fun _ _ h=>h) ⟨rfl,segs,r3,rfl⟩) ?_)
    ·rintro y c st4 _ hy ⟨rfl,segs',r4,e4⟩;refine ae6 (ah3 ?_);have ps:=r4.psize;by_cases hsz:(pendingOf st4).size > 1
     ·obtain⟨v,hv⟩:∃ v,(pendingOf st4)[(pendingOf st4).size - 2]? = some v:=⟨_,getElem?_pos _ _ (by lia)⟩;obtain⟨q1,q2,q3⟩:=v;have em:(if (pendingOf st4).size > 1 then (pendingOf st4)[(pendingOf st4).size - 2]? else none)=some (q1,q2,q3):=by rw [if_pos hsz,hv]
      dsimp only;rw [em];refine ifs (fun ho=>afa ⟨rfl,segs',r4,e4⟩) (fun ho=>?_);refine ae6 (ig (i:=(pendingOf st4).size - 2) hO va r4 (by lia) fun segs5 st5 r5 l5 e5=>?_);exact ifn (by simp) (afa ⟨rfl,segs5,r5,by lia⟩)
     ·have em:(if (pendingOf st4).size > 1 then (pendingOf st4)[(pendingOf st4).size - 2]? else none)=none:=if_neg hsz;dsimp only;rw [em];exact afa ⟨rfl,segs',r4,e4⟩
    ·rintro c st4 ⟨rfl,segs',r4,e4⟩;refine ae6 (agT (ae6 (agT (afa (push segs' _ ⟨r4.kind,r4.failed,r4.perm,r4.arr,?_,r4.sl⟩ e4)))));refine (zq _ ?_ _ _).trans r4.pend;intro z
     rfl
  ·have sN:=u2.sl;have r3:=r2;have t3:=t2;generalize (arrOf st2).toList.drop segs.flatten.length=rest3 at r3 sN t3;have push:∀ (segs':List (List Keyed)) (st4:SortSt),Runs κ a₀ segs' rest3 st4->segs'.flatten.length=segs.flatten.length->∃ segs5 rest5,((none,segs.flatten.length+m):Option Unit×Nat)=(none,segs5.flatten.length)/\Runs κ a₀ segs5 rest5 (setPending st4 ((pendingOf st4).push (segs.flatten.length,m,0)))/\x+1<=segs5.flatten.length:=fun segs' st4 r4 e4=>by
    have lN:(rest3.take (m)).length=m:=by rw [afs];lia
    have lf:(segs'++[rest3.take (m)]).flatten.length=segs.flatten.length+m:=by
     rw [agQ,aeV,agq,lN,e4]
    refine⟨segs'++[rest3.take (m)],rest3.drop (m),by rw [lf],⟨r4.kind,r4.failed,r4.perm,?_,?_,fun g hg=>?_⟩,by rw [lf];lia⟩
    ·show (arrOf st4).toList=_;rw [r4.arr,agQ,agq,ae5,afy]
    ·show ((pendingOf st4).push (segs.flatten.length,m,0)).toList.map two=_;rw [Array.toList_push,afe,r4.pend,eR,e4];simp only [kR,aiY,lN]
     rfl
    ·rcases afc.mp hg with hg | hg
     ·exact r4.sl g hg
     ·rw [ae1.mp hg];exact⟨sN,by lia⟩
   refine ae6 (ah3 ?_);cases hb:(pendingOf st2).back? with
   | none=>exact ae6 (agT (afa (push segs st2 r3 rfl)))
   | some v =>
    obtain⟨s1,n1,p0⟩:=v;refine ae6 (agy (afN (a:=0) (b:=(arrOf st).size) (I:=fun y c st4=>c=(none,())/\∃ segs',Runs κ a₀ segs' rest3 st4/\segs'.flatten.length=segs.flatten.length) (Q:=fun c st4=>c=(none,())/\∃ segs',Runs κ a₀ segs' rest3 st4/\segs'.flatten.length=segs.flatten.length) ?_ (fun _ _ h=>h) ⟨rfl,segs,r3,rfl⟩) ?_)
    ·rintro y c st4 _ hy ⟨rfl,segs',r4,e4⟩;refine ae6 (ah3 ?_);have ps:=r4.psize;by_cases hsz:(pendingOf st4).size > 1
     ·obtain⟨v,hv⟩:∃ v,(pendingOf st4)[(pendingOf st4).size - 2]? = some v:=⟨_,getElem?_pos _ _ (by lia)⟩;obtain⟨q1,q2,q3⟩:=v;have em:(if (pendingOf st4).size > 1 then (pendingOf st4)[(pendingOf st4).size - 2]? else none)=some (q1,q2,q3):=by rw [if_pos hsz,hv]
      dsimp only;rw [em];refine ifs (fun ho=>afa ⟨rfl,segs',r4,e4⟩) (fun ho=>?_);refine ae6 (ig (i:=(pendingOf st4).size - 2) hO va r4 (by lia) fun segs5 st5 r5 l5 e5=>?_);exact ifn (by simp) (afa ⟨rfl,segs5,r5,by lia⟩)
     ·have em:(if (pendingOf st4).size > 1 then (pendingOf st4)[(pendingOf st4).size - 2]? else none)=none:=if_neg hsz;dsimp only;rw [em];exact afa ⟨rfl,segs',r4,e4⟩
    ·rintro c st4 ⟨rfl,segs',r4,e4⟩;refine ae6 (agT (ae6 (agT (afa (push segs' _ ⟨r4.kind,r4.failed,r4.perm,r4.arr,?_,r4.sl⟩ e4)))));refine (zq _ ?_ _ _).trans r4.pend;intro z
     rfl
 ·rintro c st1 ⟨segs,rest,rfl,r,hxl⟩;rw [Nat.max_eq_right (afh _)] at hxl;exact⟨segs,_,rfl,none_left r hxl⟩
 ·rintro c st1 ⟨segs,lo,rfl,r⟩;have tt:=r.total;rw [List.length_nil,aic] at tt;have fg:=xp fun g hg=>(r.sl g hg).2;refine ae6 (agy (afN (a:=0) (b:=(arrOf st).size) (I:=fun y c st2=>c=(none,())/\∃ segs',Runs κ a₀ segs' [] st2/\(segs'.length+y<=a₀.size\/segs'.length<=1)) (Q:=fun c st2=>c=(none,())/\∃ segs',Runs κ a₀ segs' [] st2/\segs'.length<=1) ?_ ?_ ⟨rfl,segs,r,.inl (by lia)⟩) ?_)
  ·rintro y c st2 _ hy ⟨rfl,segs',r2,alt⟩;refine ae6 (ah3 ?_);have ps:=r2.psize;by_cases hsz:(pendingOf st2).size<=1
   ·refine ifp hsz ?_;exact afa ⟨rfl,segs',r2,by lia⟩
   refine ifn hsz ?_;refine ae6 (ig hO va r2 ?_ fun segs5 st5 r5 l5 e5=>?_)
   ·exact ac3 (show (pendingOf st2).size - 2 - 1+1 < _ by lia) (show (pendingOf st2).size - 2+1 < _ by lia)
   ·exact ifn (by simp) (afa ⟨rfl,segs5,r5,.inl (by lia)⟩)
  ·rintro c st2 ⟨rfl,segs',r2,alt⟩;refine⟨rfl,segs',r2,?_⟩;rw [Nat.max_eq_right (afh _)] at alt;lia
  ·rintro c st2 ⟨rfl,segs',r2,l2⟩;refine afa (h st2 r2.perm r2.failed ?_);rw [r2.arr,afD]
   match segs',l2,r2 with
   | [],_,_=>exact List.Pairwise.nil
   | [g],_,r2=>rw [agq];exact (r2.sl g aeX).1
end
theorem SL.toK {κ:KeyKind}{xs:Array Keyed}(h:SL κ xs.toList)(n:Nat)(hn:n<=xs.size):SortedToK κ xs n:=fun i j hij hj=>by
 obtain⟨p,hp,_⟩:=dQ (x:=xs) (i:=i) (by lia);obtain⟨q,hq,_⟩:=dQ (x:=xs) (i:=j) (by lia);rw [oE hp,oE hq];exact h.at hij (by rw [afM];exact hp) (by rw [afM];exact hq)
section
variable {prog:Program}{w:World}{A:Around}{E:Value->Shared->Prop}{s:Shared}
theorem aac {a:Addr}{vs:List Value}{ss:List Str}{n:Nat}{R:Fin->Shared->Prop}(ho:s.heap.get? a=some (seqObj "list" vs.toArray n))(hS:StrsAre vs ss)(h2:2<=vs.length)(hz:vs.length<=sizeLine)
 (h:∀ (out:Array Value) (ss':List Str),StrsAre out.toList ss'->ss'.Perm ss->sortedS ss'=true->R (.done (.ret .none)) { s with heap:=sortedHeap s.heap a vs out }) :
 wpAny (model prog w) A (Builtin.«list.sort» ⟨[.ref a],[]⟩) R E s:=by
 have la:a < s.heap.objs.size:=afb ho;have sv:vs.toArray.size=vs.length:=ae7 ..;obtain⟨e1,he1⟩:∃ e,(s.heap.update a (Obj.mapSeq fun _=>#[])).get? a=some (seqObj "list" #[] e):=⟨_,get?_update_seq ho (fun _=>#[])⟩;have he2:(((s.heap.update a (Obj.mapSeq fun _=>#[])).push (seqObj "tuple" vs.toArray 0)).push (seqObj "list" #[] 0)).get? a=some (seqObj "list" #[] e1):=by
  rw [Heap.get?_push_ne _ _ _ (by rw [size_push',aiD];exact afq (ae9 la (agK _))),Heap.get?_push_ne _ _ _ (by rw [aiD];exact afq la)];exact he1
 obtain⟨v1,v2,vr,rfl⟩:∃ x y r,vs=x::y::r:=by
  rcases vs with _ | ⟨x,_ | ⟨y,r⟩⟩
  ·simp at h2
  ·simp at h2
  ·exact⟨x,y,r,rfl⟩
 rw [list_sort_plain];refine aeU (listItems_at ho rfl (aeU (listUpdate_at ho rfl ?_ (by rw [sv];exact hz) (afh _))));refine aeU (seqEpoch_at he1 rfl (aeU (wpAny_newTuple (aeU (wpAny_newList (afJ ?_))))));have nb:¬ (v1::v2::vr).toArray.size < 2:=by rw [sv];lia
 have go:wpAny (model prog w) A (sortRuns'.run (SortSt.mk' oneType' ((v1::v2::vr).toArray.zip (v1::v2::vr).toArray) #[] 7 none))
  (fun r s'=>s'={ s with heap:=((s.heap.update a (Obj.mapSeq fun _=>#[])).push (seqObj "tuple" (v1::v2::vr).toArray 0)).push (seqObj "list" #[] 0) }/\(arrOf r.2).Perm (pairsOf (v1::v2::vr))/\failedOf r.2=none/\SL strKind (arrOf r.2).toList) E
  { s with heap:=((s.heap.update a (Obj.mapSeq fun _=>#[])).push (seqObj "tuple" (v1::v2::vr).toArray 0)).push (seqObj "list" #[] 0) } :=
  uy (κ:=strKind) strKind_oneLt (a₀:=pairsOf (v1::v2::vr)) (Q:=fun _ st'=>(arrOf st').Perm (pairsOf (v1::v2::vr))/\failedOf st'=none/\SL strKind (arrOf st').toList) (fun p hp=>hS.keysOf p hp) rfl rfl (Array.Perm.refl _) rfl fun st' b1 b2 b3=>⟨b1,b2,b3⟩
 rw [if_neg nb,keyKind_strs hS];refine aeU (ae3 ?_);rw [if_neg nb];refine aeU (af6 go ?_ fun _ _ e=>e);rintro⟨⟨⟩,st'⟩ s' ⟨rfl,b1,b2,b3⟩;have sz:(arrOf st').size=(v1::v2::vr).length:=b1.size_eq.trans (pairsOf_size _);obtain⟨ss',d1,d2,d3⟩:=sorted_out_str hS b1 (b3.toK _ (aj4 b1.size_eq.symm));refine aeU (seqEpoch_at he2 rfl (aeU (listUpdate_at he2 rfl ?_ (afh _) (by rw [Array.size_map,sz];lia))));dsimp only;rw [b2];simp only [bne_self_eq_false,af8,ahU];exact ae3 (h _ ss' d1 d2 d3)
theorem sorted_any {l:Addr}{vs:List Value}{ss:List Str}{Q:Value->Shared->Prop}(hl:s.heap.IsList l vs.toArray)(hS:StrsAre vs ss)(hz:vs.length<=sizeLine)
 (h:∀ (out:Array Value) (ss':List Str),StrsAre out.toList ss'->ss'.Perm ss->sortedS ss'=true->Q (.ref (s.heap.objs.size+1)) { s with heap:=sortedAll s.heap vs out }) :
 wpAny (model prog w) A (call (.builtin "sorted") [.ref l]) Q E s:=by
 by_cases h64:vs.length < 64
 ·exact sorted_strs hl hS h64 h
 refine Calls.call_function_entry kind_sorted plain_sorted entry_sorted (args_sorted1 _) ?_;have s1:((s.heap.push (seqObj "list" #[] 0)).update s.heap.objs.size (Obj.mapSeq (·++vs.toArray))).objs.size=s.heap.objs.size+1:=by
  rw [aiD,size_push']
 have g1:(((s.heap.push (seqObj "list" #[] 0)).update s.heap.objs.size (Obj.mapSeq (·++vs.toArray))).push (seqObj "list" vs.toArray 0)).get? (s.heap.objs.size+1)=some (seqObj "list" vs.toArray 0):=by
  rw [← s1];exact afo _ rfl
 unfold Builtin.«sorted»;refine aeU (m:=checkCount "sorted" 1 1 _) (ae3 (aeU (collect_list hl (aeU (wpAny_newList ?_)) hz)));show wpAny _ _ _ _ _ { s with heap:=((s.heap.push (seqObj "list" #[] 0)).update s.heap.objs.size (Obj.mapSeq (·++vs.toArray))).push (seqObj "list" vs.toArray 0) };rw [s1];exact aeU (afJ (wpAny_call_entry slot_list_sort ⟨_,g1,rfl⟩ entry_list_sort (aac g1 hS (by lia) hz fun out ss' b1 b2 b3=>⟨_,rfl,ae3 ⟨_,rfl,h out ss' b1 b2 b3⟩⟩) (args_list_sort _)))
end
end TS
namespace L2
open PySem PySem.Spec PyProof.Rows
section
variable {X:Cx}
theorem eK:iw X (.builtin "sorted") (fun xs H Q=>∃ (p:Addr) (ss:List Str),xs=[.ref p]/\SqL X.K H p (ss.map V.str)/\ss.length<=sizeLine/\∀ (l:Addr) (ss':List Str),H l=none->ss'.Perm ss->sortedS ss'=true->Q (.ref l) (upd H l (.lst (ss'.map V.str)))):=by
 intro pins s σ H xs us Q I r h;obtain⟨p,ss,rfl,hq,hl,q⟩:=h;obtain⟨u,rfl,rx⟩:=kZ r;cases rx;obtain⟨its,rv,pl,hz⟩:=I.list hq;have hlen:=rv.length;rw [aeT] at hlen;refine TS.sorted_any pl.isList (ft rv) (by lia) fun out ss' a1 a2 a3=>?_;obtain⟨e,he⟩:=sortedAll_at s.heap its out;have hlen':ss'.length=ss.length:=a2.length_eq;refine⟨.ref (s.heap.objs.size+1),_,I.laid (t':=s.toks) (o:=.lst (ss'.map V.str)) (fun b o e=>sortedAll_old e) (agK _) ⟨?_,out.toList,e,lx a1,?_⟩,rfl,q _ ss' (I.hok.fresh (agK _)) a2 a3⟩
 ·rw [aeT,hlen'];exact hl
 ·simpa using he
end
end L2
namespace K7
open PySem L2 PyProof.Rows
def top (i:Nat):Stmt:=PySem.Challenge.pw_keyrooms_k54_orders_gone_at_the_desk.main.body.getD i (.Pass ⟨0,0,0,0⟩)
abbrev sH:Stmt:=top 17
abbrev oh:Stmt:=top 18
abbrev yz:Stmt:=top 19
abbrev ab7:Stmt:=top 20
abbrev mM:Stmt:=top 21
abbrev adQ:Stmt:=top 22
abbrev j6:Stmt:=top 16
abbrev kq:Stmt:=top 25
abbrev gE:Stmt:=top 26
abbrev lu:Stmt:=top 27
abbrev fh:Stmt:=top 28
abbrev d9:Stmt:=top 29
abbrev eZ:Stmt:=top 30
abbrev cQ:Stmt:=top 51
abbrev ji:Stmt:=top 73
abbrev iV:Stmt:=top 74
abbrev eX:Stmt:=top 75
abbrev iF:Stmt:=top 76
abbrev gi:Stmt:=top 80
abbrev cj:Stmt:=top 81
abbrev jq:Stmt:=top 82
abbrev iE:Stmt:=top 83
abbrev dj:Stmt:=top 84
abbrev kn:Stmt:=top 85
abbrev kg:Stmt:=top 86
abbrev i9:Stmt:=top 87
abbrev jv:Stmt:=top 88
abbrev lD:Stmt:=top 90
abbrev kh:Stmt:=top 91
abbrev ja:Stmt:=top 92
abbrev jd:Stmt:=top 93
abbrev jn:Stmt:=top 94
abbrev jc:Stmt:=top 101
abbrev iq:Stmt:=top 102
abbrev fw:Stmt:=top 107
abbrev fM:Stmt:=top 108
abbrev i6:Stmt:=top 109
abbrev iM:Stmt:=top 110
abbrev ju:Stmt:=top 111
abbrev gm:Stmt:=top 112
abbrev fk:Stmt:=top 113
abbrev cD:Stmt:=top 114
abbrev ij:Stmt:=top 115
abbrev iL:Stmt:=top 117
abbrev gq:Stmt:=top 118
abbrev fj:Stmt:=top 119
abbrev iY:Stmt:=top 120
abbrev dv:Stmt:=top 121
abbrev bL:Stmt:=top 122
abbrev jX:Stmt:=top 123
abbrev gC:Stmt:=top 124
abbrev wQ:Stmt:=top 125
structure Cal (K:PySem.W.Frag)(mg:Str->Option Value)(x:Str)(ps:List Str)(f:Addr)(fd:FuncData):Prop where
 mg:mg x=some (.ref f)
 kp:keepIn K (.ref f)=true
 b:Binds K fd ps []
theorem pcl {X:Cx}{k:Nat}{f:Addr}{fd:FuncData}{ps:List Str}{sp:Sp}{x:Str}{e:Expr}{es:List Expr}{t:TA}{p pos:Pos}(F:FnOk X.prog X.w X.K X.mg X.base CX0 k f fd ps sp)(c:Cal X.K X.mg x ps f fd)(hr:Room k X.A)(hg:Gl X x)(ha:PA X (e::es) t)(hdb:(x == ("__debug__" : Str))=false:=by decide)(he:starEach (e::es) X.env=(false,eval e X.env)::starEach es X.env:=by rfl)(hpl:(backTo pos (starEach es X.env)).any (·.1)=false:=by rfl):PE X (.Call (.Name x p) (e::es) [] pos) (me sp [] E0 t):=fX F hr hg c.mg c.kp c.b .nil mn ha hdb he hpl
def But (p:Addr)(H H':Hp):Prop:=∀ b u,b≠p->H b=some u->H' b=some u
theorem But.refl (p:Addr)(H:Hp):But p H H:=fun _ _ _ e=>e
theorem But.trans {p:Addr}{H H1 H2:Hp}(a:But p H H1)(b:But p H1 H2):But p H H2:=fun c u n e=>b c u n (a c u n e)
theorem But.upd {p:Addr}{H:Hp}{o:HO}:But p H (upd H p o):=fun b u n e=>by rw [ax n];exact e
theorem But.new {p q:Addr}{H H1:Hp}{o:HO}(a:But p H H1)(n:H q=none):But p H (L2.upd H1 q o):=fun b u hb e=>by rw [ax (ai e n)];exact a b u hb e
theorem But.free {p q:Addr}{H H':Hp}(a:But p H H')(n:q≠p)(e:H' q=none):H q=none:=by
 cases h:H q with
 | none=>rfl
 | some u=>rw [a q u n h] at e;cases e
def nP (e:Expr):Scope:=match e with
 | .ListComp _ _ s _=>s
 | .DictComp _ _ _ s _=>s
 | _=>{ kind:=.function,names:=[],isGenerator:=false,isCoroutine:=false }
def um (s:Stmt):Expr:=match s with
 | .Return (some e) _=>e
 | _=>.Name "" ⟨0,0,0,0⟩
def aP (z:Str):Prop:=1<=z.length/\z.length<=4/\∀ c∈z.cps.toList,97<=c/\c<=122
def aa8:Sp:=fun vs H Q _=>∃ z:Str,vs=[.str z]/\aP z/\∀ H',Same H H'->Q (.bl true) H'
abbrev lettersS:Str := "abcdefghijklmnopqrstuvwxyz"
theorem wH (c:Nat)(h1:97<=c)(h2:c<=122):(!(Builtin.Str.occurrences lettersS ⟨#[c]⟩ 0 lettersS.length 1).isEmpty)=true:=by
 have all:∀ k:_root_.Fin 26,(!(Builtin.Str.occurrences lettersS ⟨#[97+k.val]⟩ 0 lettersS.length 1).isEmpty)=true:=by decide +kernel
 have e:=all ⟨c - 97,by lia⟩;have e2:97+(c - 97)=c:=by lia
 simp only [e2] at e;exact e
section
variable {P:Program}{w:World}{K:PySem.W.Frag}{mg:Str->Option Value}{base:Heap}
structure Glb (mg:Str->Option Value):Prop where
 isi:mg "isinstance" = none
 str:mg "str" = none
 len:mg "len" = none
 all:mg "all" = none
 letters:∃ t,mg "LETTERS" = some (.str lettersS t)
 most:∃ t,mg "MOST_LETTERS" = some (.int 4 t)
theorem adF:az ["thing"] ["thing"] (ak sH):=scM rfl rfl rfl rfl (by decide +kernel)
def qI (e:Expr):Expr:=match e with
 | .Call _ (a::_) _ _=>a
 | e=>e
abbrev aav:Expr:=qI (um ((b9 sH).getD 1 (.Pass ⟨0,0,0,0⟩)))
theorem acM:nF (ak sH) (nP aav) ["thing"] ["sign"] 1 []=true:=by decide +kernel
theorem nd2:(["sign"]:List Str).Nodup:=by decide +kernel
theorem abX {f:Addr}{fd:FuncData}(F:Fun K "is_kind" "is_kind" sH f fd)(G:Glb mg):FnOk P w K mg base CX0 1 f fd ["thing"] aa8:=by
 obtain⟨tl,hL⟩:=G.letters;obtain⟨tm,hM⟩:=G.most;refine F.ok adF (fun vs H Q E h=>?_) (fun cdv A outer s H vs Q E hr h=>?_)
 ·obtain⟨z,rfl,_⟩:=h
  rfl
 ·obtain⟨z,rfl,⟨z1,z2,z3⟩,k⟩:=h;obtain⟨S,Cp⟩:=mE (X:=(gL CX0 P w K mg base ["thing"] "is_kind" (ak sH) f cdv A outer s H E).nox) (outer:=ak sH) (N:=["thing"]) rfl rfl acM;refine⟨_,ah (bO (PW.pt (oX (dq (eN (av bH rfl G.isi (by decide +kernel) (ae (pv 0) (ae (eW (v:=.ty "str") (u:=.type "str") rfl G.str (by decide +kernel) rfl) af)))))
   (jW (dq (qb uu uu aq (av lO rfl G.len afr (ae (pv 0) af)) (dm (v:=.int 4) rfl hM ⟨tm,rfl⟩))))))
   (ao (aE pU)) aO)
   (ao (aE (av (jz rfl) rfl G.all (by decide +kernel) (ae (mx (tg:=.Name "sign" _) rfl S Cp (aaZ (pv 0))
    (fun _ _ _ _=>aA (i:=0) nd2 rfl (.inl rfl) (.inr rfl)) (fun _ _ _ _=>dA)
    (fun _ _ _ _=>bN qT (pv 0) (dm (v:=.str lettersS) rfl hL ⟨tl,rfl⟩) (by with_unfolding_all rfl))) af)))),?_⟩
  have zs:z.length<=sizeLine:=ag0 (bZ (by lia));refine⟨_,rfl,_,_,_,true,rfl,.str z,eG K _,true,rfl,?_⟩;refine km ?_;refine⟨_,rfl,z,rfl,zs,1,_,rfl,rfl,true,afH V.bl (afm (by lia)),?_⟩;refine kW ?_;refine⟨_,4,rfl,rfl,true,afH V.bl (afm (by lia)),?_⟩;refine km ?_;dsimp only [o8,wt,tCB,aJ,cu];refine bM _ _ _ _ _ _ _ _ _ ?_;refine⟨_,rfl,z,rfl,?_⟩;intro D hD;refine uz (fun i ys H2=>ys=(List.replicate i true).map V.bl/\H2 D=some (.lst ys)/\Same H H2) ⟨rfl,ag,fun b u e=>by rw [ax (ai e hD)];exact e⟩ (fun i ys H2 ⟨_,h,_⟩=>h) ?_ ?_
  ·rintro i ys H2 c hc ⟨rfl,hD2,sm⟩;have hi:i < z.cps.size:=(aga.mp hc).1;have hz:z.length=z.cps.size:=rfl;have hm:c∈z.cps.toList:=by
    have:=aiZ hc;simpa using this
   refine cJ rfl ?_;refine⟨_,rfl,_,_,rfl,rfl,hD2,by rw [aeT,aft];exact bZ (by lia),nx hi ⟨?_,ag,fun b u e=>?_⟩⟩
   ·rw [wH c (z3 c hm).1 (z3 c hm).2,agD,afe]
    rfl
   ·rw [ax (ai e hD)];exact sm b u e
  ·rintro ys H2 ⟨rfl,hD2,sm⟩;refine⟨D,List.replicate z.cps.size true,rfl,aAA hD2,?_⟩;have e:(List.replicate z.cps.size true).all id=true:=by simp
   rw [e];exact k H2 sm
def nX:Sp:=fun vs H Q _=>∃ (a:Addr) (ks:List Str),vs=[.ref a]/\H a=some (.lst (ks.map V.str))/\(∀ k∈ks,aP k)/\ks.length<=1000/\∀ H',Same H H'->Q (.bl true) H'
def uB (e:Expr):Expr:=match e with
 | .BoolOp _ es _=>es.getLastD e
 | e=>e
theorem abn:az ["thing"] ["thing"] (ak oh):=scM rfl rfl rfl rfl (by decide +kernel)
abbrev w9:Expr:=qI (uB (um ((b9 oh).getD 0 (.Pass ⟨0,0,0,0⟩))))
theorem ab0:nF (ak oh) (nP w9) ["thing"] ["kind"] 1 []=true:=by decide +kernel
theorem nd3:(["kind"]:List Str).Nodup:=by decide +kernel
theorem aah {f fK:Addr}{fd fdK:FuncData}(F:Fun K "are_kinds" "are_kinds" oh f fd)(FK:Fun K "is_kind" "is_kind" sH fK fdK)(cK:Cal K mg "is_kind" ["thing"] fK fdK)(G:Glb mg)(mLi:mg "list" = none):FnOk P w K mg base CX0 2 f fd ["thing"] nX:=by
 have GK:FnOk P w K mg base CX0 1 fK fdK ["thing"] aa8:=abX FK G;refine F.ok abn (fun vs H Q E h=>?_) (fun cdv A outer s H vs Q E hr h=>?_)
 ·obtain⟨a,ks,rfl,_⟩:=h
  rfl
 ·obtain⟨a,ks,rfl,ha,hk,hl,k⟩:=h;obtain⟨S,Cp⟩:=mE (X:=(gL CX0 P w K mg base ["thing"] "are_kinds" (ak oh) f cdv A outer s H E).nox) (outer:=ak oh) (N:=["thing"]) rfl rfl ab0;refine⟨_,ao (aE (jU (av bH rfl G.isi (by decide +kernel) (ae (pv 0) (ae (eW (v:=.ty "list") (u:=.type "list") rfl mLi (by decide +kernel) rfl) af)))
   (lG (av (jz rfl) rfl G.all (by decide +kernel) (ae (mx (tg:=.Name "kind" _) rfl S Cp (dy (pv 0))
    (fun _ _ _ _=>aA (i:=0) nd3 rfl (.inl rfl) (.inr rfl)) (fun _ _ _ _=>dA)
    (fun _ _ _ _=>fX GK hr rfl cK.mg cK.kp cK.b .nil mn (ae (pv 0) af))) af))))),?_⟩
  refine⟨_,rfl,_,_,_,true,rfl,.lst ha,eG K _,true,rfl,?_⟩;refine kW ?_;dsimp only [o8,wt,tCB,aJ,cu];refine bM _ _ _ _ _ _ _ _ _ ?_;refine⟨_,rfl,a,rfl,⟨_,aAA ha⟩,?_⟩;intro D hD;refine gc (xs:=ks.map V.str) (fun i ys H2=>ys=(List.replicate i true).map V.bl/\i<=1000/\H2 D=some (.lst ys)/\Same H H2) ⟨rfl,by decide,ag,fun b u e=>by rw [ax (ai e hD)];exact e⟩ (fun i ys H2 ⟨_,_,h,_⟩=>h) (fun i ys H2 ⟨_,_,_,sm⟩=>aAA (sm a _ ha)) ?_ ?_
  ·rintro i ys H2 x hx ⟨rfl,hi0,hD2,sm⟩;have hi:i < (ks.map V.str).length:=(aeZ.mp hx).1;have hi':=hi;rw [aeT] at hi';rw [afg,aeS hi'] at hx;cases hx;refine cJ rfl ?_;refine⟨_,rfl,ks[i],rfl,hk _ (afz hi'),fun H3 sm3=>?_⟩;refine⟨sm3 D _ hD2,by rw [aeT,aft];exact bZ (by lia),nx hi ⟨?_,by lia,ag,fun b u e=>?_⟩⟩
   ·rw [agD,afe]
    rfl
   ·rw [ax (ai e hD)];exact sm3 b u (sm b u e)
  ·rintro ys H2 ⟨rfl,_,hD2,sm⟩;refine⟨D,List.replicate (ks.map V.str).length true,rfl,aAA hD2,?_⟩;have e:(List.replicate (ks.map V.str).length true).all id=true:=by simp
   rw [e];exact k H2 sm
def tG:Sp:=fun vs H Q _=>∃ (a:Addr) (ks:List Str),vs=[.ref a]/\H a=some (.lst (ks.map V.str))/\(∀ k∈ks,aP k)/\1<=ks.length/\ks.length<=4/\ks.Pairwise leS/\∀ H',Same H H'->Q (.bl true) H'
theorem ir {ks:List Str}(h:∀ k∈ks,aP k):PyData.canLayAll0 (ks.map PyData.str)=true:=by
 induction ks with
 | nil=>rfl
 | cons z r ih =>
  have hz:=h z aeX;have hs:PyData.strOk z=true:=by
   unfold PyData.strOk;rw [← Array.all_toList,agf];intro c hc;exact afm (by have:=hz.2.2 c hc;lia)
  rw [afl];simp only [PyData.canLayAll0,PyData.canLay0,hs,ajD];exact ih fun k hk=>h k (aeW _ hk)
theorem uS:∀ ks:List Str,PyData.eqvAll (ks.map PyData.str) (ks.map PyData.str)=true
 | []=>rfl
 | z::r=>by
  rw [afl];simp only [PyData.eqvAll,PyData.eqv,aiB,ajD];exact uS r
theorem ph:∀ ks:List Str,PyData.depthAll (ks.map PyData.str)=0
 | []=>rfl
 | z::r=>by
  rw [afl];simp only [PyData.depthAll,PyData.depth,ph r]
  rfl
theorem acq:az ["thing"] ["thing"] (ak yz):=scM rfl rfl rfl rfl (by decide +kernel)
theorem aay {f fK:Addr}{fd fdK:FuncData}(F:Fun K "are_locks" "are_locks" yz f fd)(GK:FnOk P w K mg base CX0 2 fK fdK ["thing"] nX)(cK:Cal K mg "are_kinds" ["thing"] fK fdK)(mLe:mg "len" = none)(mSo:mg "sorted" = none)(hM:∃ t,mg "MOST_LOCKS" = some (.int 4 t)) :
 FnOk P w K mg base CX0 3 f fd ["thing"] tG:=by
 obtain⟨tm,hM⟩:=hM;refine F.ok acq (fun vs H Q E h=>?_) (fun cdv A outer s H vs Q E hr h=>?_)
 ·obtain⟨a,ks,rfl,_⟩:=h
  rfl
 ·obtain⟨a,ks,rfl,ha,hk,h1,h4,hs,k⟩:=h;have hu:=tT hr;refine⟨_,ao (aE (jU (fX GK hr rfl cK.mg cK.kp cK.b .nil mn (ae (pv 0) af))
   (jU (aaE uu uu aq (av aH rfl mLe afr (ae (pv 0) af)) (dm (v:=.int 4) rfl hM ⟨tm,rfl⟩))
   (lG (bN kQ (pv 0) (av hG rfl mSo ag3 (ae (pv 0) af)) (aS _)))))),?_⟩
  refine⟨_,rfl,a,ks,rfl,ha,hk,by lia,fun H1 s1=>⟨true,rfl,?_⟩⟩;refine kW ?_;have ha1:=s1 a _ ha;refine⟨_,rfl,a,_,rfl,.inl (aAA ha1),1,_,rfl,rfl,true,afH V.bl (afm (by rw [aeT];lia)),?_⟩;refine kW ?_;refine⟨_,4,rfl,rfl,true,afH V.bl (afm (by rw [aeT];lia)),?_⟩;refine kW ?_;refine⟨_,rfl,_,rfl,a,ks,rfl,aAA ha1,by lia,fun l ss hl hp hs'=>?_⟩;have e:ss=ks:=gR (b4 hs') hs hp;subst e;have ne:a≠l:=ai ha1 hl;refine⟨.list (ss.map PyData.str),.list (ss.map PyData.str),.lst (by rw [ax ne];exact ha1) (SeesAll.strs ss),.lst ag (SeesAll.strs ss),ir hk,ir hk,?_,?_⟩
  ·show _+min (PyData.depthAll (ss.map PyData.str)+1) (PyData.depthAll (ss.map PyData.str)+1) < cLine;rw [ph];exact hu
  ·have ee:PyData.eqv (.list (ss.map PyData.str)) (.list (ss.map PyData.str))=true:=uS ss;rw [ee];exact k _ fun b u e=>by rw [ax (ai (s1 b u e) hl)];exact s1 b u e
abbrev Rm:=List Str×List Str
structure gX (r:Rm):Prop where
 lk:∀ k∈r.1,aP k
 l1:1<=r.1.length
 l4:r.1.length<=4
 so:r.1.Pairwise leS
 kk:∀ k∈r.2,aP k
 kl:r.2.length<=1000
def RoomAt (H:Hp)(v:V)(r:Rm):Prop:=∃ t a b:Addr,v=.ref t/\H t=some (.tup [.ref a,.ref b])/\H a=some (.lst (r.1.map V.str))/\H b=some (.lst (r.2.map V.str))
theorem RoomAt.same {H H':Hp}{v:V}{r:Rm}(s:Same H H')(h:RoomAt H v r):RoomAt H' v r:=by
 obtain⟨t,a,b,e,h1,h2,h3⟩:=h;exact⟨t,a,b,e,s _ _ h1,s _ _ h2,s _ _ h3⟩
def aaS:Sp:=fun vs H Q _=>∃ (v:V) (r:Rm),vs=[v]/\RoomAt H v r/\gX r/\∀ H',Same H H'->Q (.bl true) H'
theorem ac4:az ["thing"] ["thing"] (ak ab7):=scM rfl rfl rfl rfl (by decide +kernel)
theorem abk {f fL fK:Addr}{fd fdL fdK:FuncData}(F:Fun K "is_room" "is_room" ab7 f fd)(GL:FnOk P w K mg base CX0 3 fL fdL ["thing"] tG)(cL:Cal K mg "are_locks" ["thing"] fL fdL)
 (GK:FnOk P w K mg base CX0 2 fK fdK ["thing"] nX)(cK:Cal K mg "are_kinds" ["thing"] fK fdK)(mI:mg "isinstance" = none)(mLe:mg "len" = none)(mTu:mg "tuple" = none):FnOk P w K mg base CX0 4 f fd ["thing"] aaS:=by
 refine F.ok ac4 (fun vs H Q E h=>?_) (fun cdv A outer s H vs Q E hr h=>?_)
 ·obtain⟨v,r,rfl,_⟩:=h
  rfl
 ·obtain⟨v,r,rfl,⟨t,a,b,rfl,ht,ha,hb⟩,ok,k⟩:=h;refine⟨_,ao (aE (jU (av bH rfl mI (by decide +kernel) (ae (pv 0) (ae (eW (v:=.ty "tuple") (u:=.type "tuple") rfl mTu (by decide +kernel) rfl) af)))
   (jU (bN kF (av aH rfl mLe afr (ae (pv 0) af)) aq (aS _))
   (jU (fX GL hr rfl cL.mg cL.kp cL.b .nil mn (ae (a7 bJ (pv 0) aq (fun _ _=>rfl)) af))
   (lG (fX GK (hr.mono (by decide)) rfl cK.mg cK.kp cK.b .nil mn (ae (a7 bJ (pv 0) aq (fun _ _=>rfl)) af))))))),?_⟩
  refine⟨_,rfl,_,_,_,true,rfl,.tup ht,eG K _,true,rfl,?_⟩;refine kW ?_;refine⟨_,rfl,t,_,rfl,.inr (aAB ht),rfl,true,rfl,?_⟩;refine kW ?_;refine⟨_,rfl,t,_,0,.ref a,rfl,rfl,aAB ht,rfl,a,r.1,rfl,ha,ok.lk,ok.l1,ok.l4,ok.so,fun H1 s1=>⟨true,rfl,?_⟩⟩;refine kW ?_;refine⟨_,rfl,t,_,1,.ref b,rfl,rfl,aAB (s1 _ _ ht),rfl,b,r.2,rfl,s1 _ _ hb,ok.kk,ok.kl,fun H2 s2=>?_⟩;exact k H2 (s1.trans s2)
abbrev Hs:=List Str×List Rm
def RoomsAt (H:Hp)(vs:List V)(rs:List Rm):Prop:=vs.length=rs.length/\∀ (i:Nat) (v:V) (r:Rm),vs[i]? = some v->rs[i]? = some r->RoomAt H v r
theorem RoomsAt.same {H H':Hp}{vs:List V}{rs:List Rm}(s:Same H H')(h:RoomsAt H vs rs):RoomsAt H' vs rs:=⟨h.1,fun i v r a b=>(h.2 i v r a b).same s⟩
def HouseAt (H:Hp)(v:V)(h:Hs):Prop:=∃ (t a r:Addr) (vs:List V),v=.ref t/\H t=some (.tup [.ref a,.ref r])/\H a=some (.lst (h.1.map V.str))/\H r=some (.lst vs)/\RoomsAt H vs h.2
theorem HouseAt.same {H H':Hp}{v:V}{h:Hs}(s:Same H H')(x:HouseAt H v h):HouseAt H' v h:=by
 obtain⟨t,a,r,vs,e,h1,h2,h3,h4⟩:=x;exact⟨t,a,r,vs,e,s _ _ h1,s _ _ h2,s _ _ h3,h4.same s⟩
structure bC (h:Hs):Prop where
 kk:∀ k∈h.1,aP k
 kl:h.1.length<=1000
 rs:∀ r∈h.2,gX r
 rl:h.2.length<=1000
def xA:Sp:=fun vs H Q _=>∃ (v:V) (h:Hs),vs=[v]/\HouseAt H v h/\bC h/\∀ H',Same H H'->Q (.bl true) H'
def wj:Sp:=fun vs H Q _=>∃ (v:V) (h:Hs),vs=[v]/\HouseAt H v h/\bC h/\∀ H',Same H H'->Q .non H'
theorem scHouse:az ["thing","keys","rooms"] ["thing"] (ak mM):=scM rfl rfl rfl rfl (by decide +kernel)
abbrev y6:Expr:=qI (uB (um ((b9 mM).getD 2 (.Pass ⟨0,0,0,0⟩))))
theorem abU:nF (ak mM) (nP y6) ["thing","keys","rooms"] ["room"] 1 []=true:=by decide +kernel
theorem nd4:(["room"]:List Str).Nodup:=by decide +kernel
theorem zY {f fR fK:Addr}{fd fdR fdK:FuncData}(F:Fun K "is_house" "is_house" mM f fd)(GR:FnOk P w K mg base CX0 4 fR fdR ["thing"] aaS)(cR:Cal K mg "is_room" ["thing"] fR fdR)
 (GK:FnOk P w K mg base CX0 2 fK fdK ["thing"] nX)(cK:Cal K mg "are_kinds" ["thing"] fK fdK)(mI:mg "isinstance" = none)(mLe:mg "len" = none)(mTu:mg "tuple" = none)(mLi:mg "list" = none)(mAl:mg "all" = none):FnOk P w K mg base CX0 5 f fd ["thing"] xA:=by
 refine F.ok scHouse (fun vs H Q E h=>?_) (fun cdv A outer s H vs Q E hr h=>?_)
 ·obtain⟨v,r,rfl,_⟩:=h
  rfl
 ·obtain⟨v,hs,rfl,⟨t,a,r,vs,rfl,ht,ha,hr',hR⟩,ok,k⟩:=h;obtain⟨S,Cp⟩:=mE (X:=(gL CX0 P w K mg base ["thing","keys","rooms"] "is_house" (ak mM) f cdv A outer s H E).nox) (outer:=ak mM) (N:=["thing","keys","rooms"]) rfl rfl abU;refine⟨_,ah (bO (PW.pt (oX (dq (eN (av bH rfl mI (by decide +kernel) (ae (pv 0) (ae (eW (v:=.ty "tuple") (u:=.type "tuple") rfl mTu (by decide +kernel) rfl) af)))))
   (jW (aT rM (av aH rfl mLe afr (ae (pv 0) af)) aq (aS _)))))
   (ao (aE pU)) aO)
   (ah (gv (pv 0) (gz rfl (aM (aA (i:=1) scHouse.nd rfl (.inl rfl)) (aM (aA (i:=2) scHouse.nd rfl (.inl rfl)) cU))))
   (ao (aE (jU (fX GK (hr.mono (by decide)) rfl cK.mg cK.kp cK.b .nil mn (ae (pv 1) af))
    (jU (av bH rfl mI (by decide +kernel) (ae (pv 2) (ae (eW (v:=.ty "list") (u:=.type "list") rfl mLi (by decide +kernel) rfl) af)))
    (lG (av (jz rfl) rfl mAl (by decide +kernel) (ae (mx (tg:=.Name "room" _) rfl S Cp (dy (pv 2))
     (fun _ _ _ _=>aA (i:=0) nd4 rfl (.inl rfl) (.inr rfl)) (fun _ _ _ _=>dA)
     (fun _ _ _ _=>fX GR hr rfl cR.mg cR.kp cR.b .nil mn (ae (pv 0) af))) af)))))))),?_⟩
  refine⟨_,rfl,_,_,_,true,rfl,.tup ht,eG K _,true,rfl,?_⟩;refine km ?_;refine⟨_,rfl,t,_,rfl,.inr (aAB ht),rfl,false,rfl,?_⟩;refine km ?_;refine⟨_,rfl,t,_,rfl,aAB ht,rfl,_,_,rfl,_,_,rfl,rfl,?_⟩;refine⟨_,rfl,a,hs.1,rfl,ha,ok.kk,ok.kl,fun H1 s1=>⟨true,rfl,?_⟩⟩;refine kW ?_;refine⟨_,rfl,_,_,_,true,rfl,.lst (s1 _ _ hr'),eG K _,true,rfl,?_⟩;refine kW ?_;dsimp only [o8,wt,tCB,aJ,cu];refine bM _ _ _ _ _ _ _ _ _ ?_;refine⟨_,rfl,r,rfl,⟨_,aAA (s1 _ _ hr')⟩,?_⟩;intro D hD;have hl:vs.length<=1000:=by rw [hR.1];exact ok.rl
  refine gc (xs:=vs) (fun i ys H2=>ys=(List.replicate i true).map V.bl/\i<=1000/\H2 D=some (.lst ys)/\Same H1 H2) ⟨rfl,by decide,ag,fun b u e=>by rw [ax (ai e hD)];exact e⟩ (fun i ys H2 ⟨_,_,h,_⟩=>h) (fun i ys H2 ⟨_,_,_,sm⟩=>aAA (sm r _ (s1 _ _ hr'))) ?_ ?_
  ·rintro i ys H2 x hx ⟨rfl,hi0,hD2,sm⟩;have hi:i < vs.length:=(aeZ.mp hx).1;have hi':i < hs.2.length:=by rw [← hR.1];exact hi
   refine cJ rfl ?_;refine⟨_,rfl,x,hs.2[i],rfl,((hR.2 i x _ hx (aeS hi')).same s1).same sm,ok.rs _ (afz hi'),fun H3 sm3=>?_⟩;refine⟨sm3 D _ hD2,by rw [aeT,aft];exact bZ (by lia),nx hi ⟨?_,by lia,ag,fun b u e=>?_⟩⟩
   ·rw [agD,afe]
    rfl
   ·rw [ax (ai e hD)];exact sm3 b u (sm b u e)
  ·rintro ys H2 ⟨rfl,_,hD2,sm⟩;refine⟨D,List.replicate vs.length true,rfl,aAA hD2,?_⟩;have e:(List.replicate vs.length true).all id=true:=by simp
   rw [e];exact k H2 (s1.trans sm)
theorem ad2:az ["thing"] ["thing"] (ak adQ):=scM rfl rfl rfl rfl (by decide +kernel)
theorem acU {f fH:Addr}{fd fdH:FuncData}(F:Fun K "require_house" "require_house" adQ f fd)(GH:FnOk P w K mg base CX0 5 fH fdH ["thing"] xA)(cH:Cal K mg "is_house" ["thing"] fH fdH):FnOk P w K mg base CX0 6 f fd ["thing"] wj:=by
 refine F.ok ad2 (fun vs H Q E h=>?_) (fun cdv A outer s H vs Q E hr h=>?_)
 ·obtain⟨v,r,rfl,_⟩:=h
  rfl
 ·obtain⟨v,hs,rfl,hh,ok,k⟩:=h;refine⟨_,ao (bO (dq (eN (fX GH hr rfl cH.mg cH.kp cH.b .nil mn (ae (pv 0) af)))) gQ aO),?_⟩;refine⟨_,rfl,v,hs,rfl,hh,ok,fun H1 s1=>⟨true,rfl,?_⟩⟩;refine km ?_;exact k H1 s1
theorem mv {A:Around}{H:Hp}{x y:Addr}{xs:List V}{ds:List PyData}{Q:VK}(hx:H x=some (.lst xs))(s:SeesAll H xs ds)(l:PyData.canLayAll0 ds=true)(hy:H y=some (.lst []))(hu:A.units+1 < cLine)(q:Q (.bl (!xs.isEmpty)) H):z5 A true (.ref x) (.ref y) H Q:=by
 refine⟨.list ds,.list [],.lst hx s,.lst hy .nil,by simp only [PyData.canLay0,l],rfl,agX (ah0 (Nat.min_le_right _ _) _) hu,?_⟩;have e:ds.isEmpty=xs.isEmpty:=by cases s<;>rfl
 rw [if_pos rfl,show PyData.eqv (.list ds) (.list [])=ds.isEmpty by cases ds<;>rfl,e];exact q
theorem jy {A:Around}{H:Hp}{x y:Addr}{xs:List V}{ds:List PyData}{Q:VK}(hx:H x=some (.lst xs))(s:SeesAll H xs ds)(l:PyData.canLayAll0 ds=true)(hy:H y=some (.lst []))(hu:A.units+1 < cLine)(q:Q (.bl xs.isEmpty) H):z5 A false (.ref x) (.ref y) H Q:=by
 refine⟨.list ds,.list [],.lst hx s,.lst hy .nil,by simp only [PyData.canLay0,l],rfl,agX (ah0 (Nat.min_le_right _ _) _) hu,?_⟩;have e:ds.isEmpty=xs.isEmpty:=by cases s<;>rfl
 rw [if_neg (by decide),show PyData.eqv (.list ds) (.list [])=ds.isEmpty by cases ds<;>rfl,e];exact q
theorem aj {H:Hp}{l:Addr}{o:HO}(n:H l=none):Same H (upd H l o):=fun b u e=>by rw [ax (ai e n)];exact e
theorem ay {H H':Hp}{p:Addr}(s:Same H H'):But p H H':=fun b u _ e=>s b u e
theorem abL {xs:List Int}{r:Int}(h0:0<=r)(h1:r < xs.length):∃ m∈xs,atI (xs.map V.int) r=some (.int m):=by
 obtain⟨j,rfl⟩:∃ j:Nat,r=(j:Int):=⟨r.toNat,by lia⟩;have hj:j < xs.length:=by lia
 exact⟨xs[j],afz hj,bP (by rw [afg,aeS hj];rfl)⟩
def pX (r:Rm):PyData:=.tuple [.list (r.1.map PyData.str),.list (r.2.map PyData.str)]
theorem jw {H:Hp}:∀ {vs:List V} {rs:List Rm},RoomsAt H vs rs->SeesAll H vs (rs.map pX)
 | [],[],_=>.nil
 | [],_::_,h=>absurd h.1 (by simp)
 | _::_,[],h=>absurd h.1 (by simp)
 | v::vs,r::rs,h=>by
  obtain⟨t,a,b,rfl,h1,h2,h3⟩:=h.2 0 v r rfl rfl;refine .cons (.tup h1 (.cons (.lst h2 (SeesAll.strs _)) (.cons (.lst h3 (SeesAll.strs _)) .nil))) (jw ⟨by simpa using h.1,fun i v' r' e1 e2=>h.2 (i+1) v' r' (by simpa using e1) (by simpa using e2)⟩)
theorem ky:∀ {rs:List Rm},(∀ r∈rs,(∀ k∈r.1,aP k)/\∀ k∈r.2,aP k)->PyData.canLayAll0 (rs.map pX)=true
 | [],_=>rfl
 | r::rs,h=>by
  obtain⟨h1,h2⟩:=h r aeX;have e1:=ir h1;have e2:=ir h2;have e3:=ky fun q hq=>h q (aeW _ hq);rw [afl];simp only [PyData.canLayAll0,PyData.canLay0,pX,e1,e2,e3,ajE]
structure adh (ns:List Int):Prop where
 few:ns.length<=1000
def DeckAt (H:Hp)(p:Addr):Prop:=∃ ns:List Int,H p=some (.lst (ns.map V.int))/\adh ns
def aa9 (K:PySem.W.Frag):Sp:=fun vs H Q _=>∃ (a:Addr) (k:Nat) (ns:List Int),vs=[.ref a,.int k]/\SqL K H a (ns.map V.int)/\∀ c:Int,Q (.int c) H
def aaP:Sp:=fun vs H Q _=>∃ (cell:Int) (n:Nat),vs=[.int cell,.int n]/\n<=1000/\∀ (l:Addr) (ns:List Int) (H':Hp),H l=none->Same H H'->H' l=some (.lst (ns.map V.int))->ns.length=n->Q (.ref l) H'
def aa7:Sp:=fun vs H Q _=>∃ (cell:Int) (n:Nat),vs=[.int cell,.int n]/\n<=1000/\∀ (l:Addr) (H':Hp),H l=none->Same H H'->DeckAt H' l->Q (.ref l) H'
def gK:Sp:=fun vs H Q _=>∃ (p:Addr) (n:Int),vs=[.ref p,.int n]/\DeckAt H p/\0 < n/\∀ (r:Int) (H':Hp),0<=r->r < n->DeckAt H' p->But p H H'->Q (.int r) H'
inductive NmI (cell:Int)(n:Nat)(H:Hp)(i:Nat)(σ':L2.St)(H':Hp):Prop
 | mk (l:Addr) (ns:List Int) (rs st:Int) (x5 x6:Option V):σ'=[some (.int cell),some (.int n),some (.ref l),some (.int rs),some (.int st),x5,x6]->H l=none->H' l=some (.lst (ns.map V.int))->ns.length=i->0<=st->st < 2147483647->Same H H'->NmI cell n H i σ' H'
theorem mU (H:Hp):∀ ns:List Int,SeesAll H (ns.map V.int) (ns.map PyData.int)
 | []=>.nil
 | n::ns=>.cons (.int n) (mU H ns)
theorem qt:∀ ns:List Int,PyData.canLayAll0 (ns.map PyData.int)=true
 | []=>rfl
 | n::ns=>by rw [afl];simp only [PyData.canLayAll0,PyData.canLay0,qt ns,ajE]
theorem oq:az ["script","k"] ["script","k"] (ak fw):=scM rfl rfl rfl rfl (by decide +kernel)
theorem bt:az ["cell","many","found","rest","stir","k","again"] ["cell","many"] (ak fM):=scM rfl rfl rfl rfl (by decide +kernel)
theorem su:az ["cell","many"] ["cell","many"] (ak i6):=scM rfl rfl rfl rfl (by decide +kernel)
theorem rz:az ["deck","many"] ["deck","many"] (ak iM):=scM rfl rfl rfl rfl (by decide +kernel)
theorem aci {f:Addr}{fd:FuncData}(F:Fun K "_law_cell_at" "_law_cell_at" fw f fd)(br:mg "len" = none):FnOk P w K mg base CX0 1 f fd ["script","k"] (aa9 K):=by
 refine F.ok oq (fun vs H Q E h=>?_) (fun cdv A outer s H vs Q E hr h=>?_)
 ·obtain⟨a,k,ns,rfl,_⟩:=h
  rfl
 ·obtain⟨a,k,ns,rfl,hS,q⟩:=h;refine⟨_,(ah (bO (aT yP (pv 1) (av aH rfl br afr (ae (pv 0) af)) (aS _))
   (ao (aE (a7 aX (pv 0) (pv 1) (fun _ _=>rfl)))) aO)
   (ao (aE aq))),?_⟩
  refine⟨_,rfl,_,rfl,a,_,rfl,.inl hS,_,_,rfl,rfl,_,rfl,?_⟩;refine lJ (fun hlt=>?_) (fun _=>q 0);have hlt':k < ns.length:=by
   have z:=af4 hlt;rw [aeT] at z;lia
  exact⟨_,rfl,_,rfl,a,_,_,.int ns[k],rfl,rfl,hS,bP (by rw [afg,aeS hlt'];rfl),q _⟩
theorem ab6 {f:Addr}{fd:FuncData}(F:Fun K "_law_numbers" "_law_numbers" fM f fd)(bf:mg "range" = none):FnOk P w K mg base CX0 1 f fd ["cell","many"] aaP:=by
 refine F.ok bt (fun vs H Q E h=>?_) (fun cdv A outer s H vs Q E hr h=>?_)
 ·obtain⟨cell,n,rfl,_⟩:=h
  rfl
 ·obtain⟨cell,n,rfl,n1,q⟩:=h;refine⟨_,(ah (aL (i:=2) bt.nd rfl (.inl rfl) eJ)
   (ah (aL (i:=3) bt.nd rfl (.inl rfl) (pv 0))
   (ah (aL (i:=4) bt.nd rfl (.inl rfl) (aZ oB (pv 0) aq))
   (ah (cn (gj afS rfl (cq rfl bf (ae (pv 1) af)) (aA (i:=5) bt.nd rfl (.inl rfl))
    (ao (cn (bO (PW.pt (rT (aT zC (pv 0) (aZ adl aq aq) (aS _)) (oQ (aT zi (pv 3) aq (aS _)))))
     (ah (bW (dz afk afZ af0 dw (pv 2) (ae (aZ oB (pv 3) aq) af)))
     (ao (aL (i:=3) bt.nd rfl (.inl rfl) (aZ yV (pv 3) aq)))) (ah (aL (i:=4) bt.nd rfl (.inl rfl) (aZ oB (aZ rQ (aZ kN (aZ kN (pv 4) (aZ rQ aq (pv 5))) aq) aq) aq))
     (ah (aL (i:=6) bt.nd rfl (.inl rfl) (aZ oB (aZ rQ (aZ oB (aZ rQ (pv 4) (pv 4)) aq) aq) aq))
     (ao (bW (dz afk afZ af0 dw (pv 2) (ae (aZ oB (aZ yV (pv 6) aq) aq) af)))))))))))
   (ao (aE (pv 2))))))),?_⟩
  refine⟨afh _,fun l nl=>?_⟩;have s1:Same H (upd H l (.lst [])):=aj nl;have e1:(upd H l (.lst [])) l=some (.lst (([]:List Int).map V.int)):=ag;generalize upd H l (.lst [])=H1 at *;refine⟨_,rfl,?_⟩;refine⟨_,rfl,_,2147483647,rfl,rfl,(by show (0:Int) < 2147483647;decide),?_⟩;refine⟨fun σ' H'=>NmI cell n H n σ' H',?_,?_⟩
  ·rintro σ H2 ⟨l,ns,rs,st,x5,x6,rfl,nl,hl,len,st0,st1,sm⟩;exact⟨_,rfl,q l ns H2 nl sm hl len⟩
  refine⟨_,rfl,(n:Int),rfl,by lia,by lia,?_⟩;rw [afu];refine fZ (fun i σ' H'=>NmI cell n H i σ' H') ⟨l,[],cell,cell % 2147483647,_,_,rfl,nl,e1,rfl,ahs _ (by decide),agY _ (by decide),s1⟩ ?_ (fun σ H' z=>z);rintro i σ H2 hi ⟨l,ns,rs,st,x5,x6,rfl,nl,hl,len,st0,st1,sm⟩;have more:∀ (m:Int) (σ':L2.St) (rs' st':Int) (x6:Option V),σ'=[some (.int cell),some (.int n),some (.ref l),some (.int rs'),some (.int st'),some (.int (0+i)),x6]->0<=st'->st' < 2147483647->NmI cell n H (i+1) σ' (upd H2 l (.lst (ns.map V.int++[.int m]))):=fun m σ' rs' st' x6 e a b =>
   ⟨l,ns++[m],rs',st',_,x6,e,nl,by rw [ag,afe];rfl,by simp [len],a,b,fun b u e=>by rw [ax (ai e nl)];exact sm b u e⟩
  have sz:(ns.map V.int).length < sizeLine:=by rw [aeT];exact bZ (by lia)
  refine⟨fun σ' H'=>NmI cell n H (i+1) σ' H',fun σ' H' z=>z,?_⟩;refine⟨_,rfl,10,18,rfl,rfl,⟨by decide,by decide,by decide⟩,_,_,rfl,rfl,_,rfl,?_⟩;have b0:0<=(st+7 * (0+(i:Int))+3) * 48271 % 2147483647:=ahs _ (by decide);have b1:(st+7 * (0+(i:Int))+3) * 48271 % 2147483647 < 2147483647:=agY _ (by decide);refine lJ (fun _=>?_) (fun _=>?_)
  ·refine⟨_,rfl,rs,0,rfl,rfl,_,rfl,?_⟩;refine lJ (fun _=>?_) (fun _=>?_)
   ·refine⟨_,rfl,.inl ⟨rfl,_,aAA hl⟩,_,rfl,rs,64,rfl,rfl,(by show (0:Int) < 64;decide),l,_,_,rfl,rfl,hl,sz,?_⟩;refine⟨_,rfl,rs,64,rfl,rfl,⟨by decide,by decide⟩,?_⟩;exact more _ _ _ _ _ rfl st0 st1
   ·refine⟨_,rfl,_,rfl,7,_,rfl,rfl,.inl ⟨by decide,by decide⟩,_,_,rfl,rfl,_,_,rfl,rfl,_,_,rfl,rfl,.inl ⟨by lia,by lia⟩,_,2147483647,rfl,rfl,(by show (0:Int) < 2147483647;decide),?_⟩;have c0:0<=((st+7 * (0+(i:Int))+3) * 48271 % 2147483647) * ((st+7 * (0+(i:Int))+3) * 48271 % 2147483647) % 2147483629:=ahs _ (by decide);have c1:((st+7 * (0+(i:Int))+3) * 48271 % 2147483647) * ((st+7 * (0+(i:Int))+3) * 48271 % 2147483647) % 2147483629 < 2147483629:=agY _ (by decide);refine⟨_,rfl,_,rfl,_,_,rfl,rfl,.inl ⟨by lia,by lia⟩,_,2147483629,rfl,rfl,(by show (0:Int) < 2147483629;decide),_,_,rfl,rfl,.inl ⟨by lia,by lia⟩,_,2147483587,rfl,rfl,(by show (0:Int) < 2147483587;decide),?_⟩;refine⟨_,rfl,.inl ⟨rfl,_,aAA hl⟩,_,rfl,_,8,rfl,rfl,⟨by decide,by decide⟩,_,720720,rfl,rfl,(by show (0:Int) < 720720;decide),l,_,_,rfl,rfl,hl,sz,?_⟩;exact more _ _ _ _ _ rfl b0 b1
  ·refine⟨_,rfl,_,rfl,7,_,rfl,rfl,.inl ⟨by decide,by decide⟩,_,_,rfl,rfl,_,_,rfl,rfl,_,_,rfl,rfl,.inl ⟨by lia,by lia⟩,_,2147483647,rfl,rfl,(by show (0:Int) < 2147483647;decide),?_⟩;have c0:0<=((st+7 * (0+(i:Int))+3) * 48271 % 2147483647) * ((st+7 * (0+(i:Int))+3) * 48271 % 2147483647) % 2147483629:=ahs _ (by decide);have c1:((st+7 * (0+(i:Int))+3) * 48271 % 2147483647) * ((st+7 * (0+(i:Int))+3) * 48271 % 2147483647) % 2147483629 < 2147483629:=agY _ (by decide);refine⟨_,rfl,_,rfl,_,_,rfl,rfl,.inl ⟨by lia,by lia⟩,_,2147483629,rfl,rfl,(by show (0:Int) < 2147483629;decide),_,_,rfl,rfl,.inl ⟨by lia,by lia⟩,_,2147483587,rfl,rfl,(by show (0:Int) < 2147483587;decide),?_⟩;refine⟨_,rfl,.inl ⟨rfl,_,aAA hl⟩,_,rfl,_,8,rfl,rfl,⟨by decide,by decide⟩,_,720720,rfl,rfl,(by show (0:Int) < 720720;decide),l,_,_,rfl,rfl,hl,sz,?_⟩;exact more _ _ _ _ _ rfl b0 b1
theorem abF {f fS:Addr}{fd fdS:FuncData}(F:Fun K "_law_deck" "_law_deck" i6 f fd)(o2:FnOk P w K mg base CX0 1 fS fdS ["cell","many"] aaP)(gF:Cal K mg "_law_numbers" ["cell","many"] fS fdS):FnOk P w K mg base CX0 2 f fd ["cell","many"] aa7:=by
 refine F.ok su (fun vs H Q E h=>?_) (fun cdv A outer s H vs Q E hr h=>?_)
 ·obtain⟨cell,n,rfl,_⟩:=h
  rfl
 ·obtain⟨cell,n,rfl,n1,q⟩:=h;refine⟨_,(ao (aE (abw (pcl o2 gF hr rfl (ae (pv 0) (ae (pv 1) af))) (yt qM aq)))),?_⟩;refine⟨_,rfl,_,rfl,cell,n,rfl,n1,fun l ns H1 nl s1 hl len=>?_⟩;refine⟨1,rfl,rfl,l,_,rfl,aAA hl,fun l2 nl2=>?_⟩;exact q l2 _ (s1.free nl2) (s1.trans (aj nl2)) ⟨ns.reverse,by rw [ag,List.map_reverse],⟨by rw [List.length_reverse];lia⟩⟩
theorem abt {f:Addr}{fd:FuncData}(F:Fun K "_law_take" "_law_take" iM f fd):FnOk P w K mg base CX0 1 f fd ["deck","many"] gK:=by
 refine F.ok rz (fun vs H Q E h=>?_) (fun cdv A outer s H vs Q E hr h=>?_)
 ·obtain⟨p,n,rfl,_⟩:=h
  rfl
 ·obtain⟨p,n,rfl,⟨ns,hp,ok⟩,n0,q⟩:=h;have hu:=tT hr;refine⟨_,(ah (bO (aT kQ (pv 0) eJ (aS _))
   (ao (aE aq)) aO)
   (ao (aE (aZ oB (adD afk ahJ ahK adi (pv 0)) (pv 1))))),?_⟩
  refine⟨_,rfl,afh _,fun l nl=>?_⟩;have s1:Same H (upd H l (.lst [])):=aj nl;have e1:(upd H l (.lst [])) l=some (.lst []):=ag;have hp1:=s1 _ _ hp;refine jy hp1 (mU _ ns) (qt ns) e1 hu ⟨_,rfl,lJ (fun h1=>?_) (fun h1=>?_)⟩
  ·exact q 0 _ (by decide) n0 ⟨ns,hp1,ok⟩ (ay s1)
  ·have hne:ns≠[]:=fun z=>h1 (by rw [z];rfl);have pos:=ago.mpr hne;have hi:ns.length - 1 < ns.length:=by lia
   refine⟨_,rfl,.inl ⟨rfl,_,aAA hp1⟩,p,_,.int (ns[ns.length - 1]'hi),rfl,rfl,hp1,by rw [aeT,afg,aeS hi];rfl,?_⟩;refine⟨_,rfl,_,n,rfl,rfl,n0,?_⟩;exact q _ _ (ahs _ (by lia)) (agY _ n0) ⟨ns.dropLast,by rw [ag,ait],⟨by rw [List.length_dropLast];have:=ok.few;lia⟩⟩ ((ay s1).trans But.upd)
theorem DeckAt.same {H H':Hp}{p:Addr}(x:DeckAt H p)(s:Same H H'):DeckAt H' p:=let ⟨ns,e,o⟩:=x;⟨ns,s _ _ e,o⟩
theorem DeckAt.ne {H:Hp}{p b:Addr}(x:DeckAt H p)(n:H b=none):b≠p:=fun z=>by
 obtain⟨_,e,_⟩:=x;rw [z,e] at n;cases n
theorem lh {nl:Nat}{ix:List Nat}{te:TE}{σ:L2.St}{H1:Hp}{D p:Addr}{Q:VK}{lo:Int}{n:Nat}{Pr:Nat->V->Prop}(nD:H1 D=none)(dk:DeckAt H1 p)(hl:n<=1000000)
 (hc:∀ x,((ko nl ix σ).set 0 (some x)).drop nl=ix.map fun j=>(σ[j]?).join)
 (ht:∀ (H:Hp) (i:Nat) (R:VK),i < n->But p H1 H->DeckAt H p->(∀ y H',Pr i y->DeckAt H' p->But p H H'->R y H')->te ((ko nl ix σ).set 0 (some (.int (lo+i)))) H R)
 (hd:∀ ys H,ys.length=n->(∀ i y,ys[i]? = some y->Pr i y)->H D=some (.lst ys)->But p H1 H->DeckAt H p->Q (.ref D) H):qV nl ix (gh 0) acE te σ (Itr lo n) H1 D Q:=by
 have lim:1000000 < sizeLine:=by decide
 have Dp:D≠p:=dk.ne nD;have s0:Same H1 (upd H1 D (.lst [])):=fun b u e=>by rw [ax (ai e nD)];exact e
 refine lq (fun i ys H=>ys.length=i/\(∀ j y,ys[j]? = some y->Pr j y)/\H D=some (.lst ys)/\But p H1 H/\DeckAt H p) ⟨rfl,fun j y e=>by simp at e,ag,fun b u _ e=>s0 b u e,dk.same s0⟩ (fun i ys H ⟨_,_,h,_⟩=>h) ?_ ?_
 ·rintro i ys H hi ⟨len,pr,hD,B,dk'⟩;refine cJ (hc _) (ht H i _ hi B dk' fun y H' py dk2 B2=>⟨B2 _ _ Dp hD,by lia,nx hi ⟨by simp [len],fun j z e=>?_,ag,fun b u nb e=>?_,?_⟩⟩)
  ·by_cases hj:j < ys.length
   ·rw [afp hj] at e;exact pr j z e
   ·rw [aff (by lia)] at e;have h0:j - ys.length=0:=by
     have:=(aeZ.mp e).1;simp at this;lia
    rw [h0] at e;cases e;rw [show j=i by lia];exact py
  ·rw [ax (ai e nD)];exact B2 b u nb (B b u nb e)
  ·obtain⟨ns,e,o⟩:=dk2;exact⟨ns,by rw [ax (ag1 Dp)];exact e,o⟩
 ·rintro ys H ⟨len,pr,hD,B,dk'⟩;exact hd ys H len pr hD B dk'
theorem qj:lettersS.cps.toList=List.range' 97 26:=by decide +kernel
theorem vW (r:Nat)(h:r < 26):atI lettersS.cps.toList (r:Int)=some (97+r):=bP (by rw [qj,List.getElem?_range' h];simp)
theorem ua:lettersS.length<=sizeLine:=by decide
def abG (l:List Nat):Prop:=1<=l.length/\l.length<=4/\∀ c∈l,97<=c/\c<=122
theorem acC {z:Str}(h:abG z.cps.toList):aP z:=by
 obtain⟨h1,h2,h3⟩:=h;have e:z.cps.toList.length=z.length:=afd;exact⟨by lia,by lia,h3⟩
def zI (z:Str):Bool:=decide (1<=z.length) && decide (z.length<=4) && z.cps.toList.all fun c=>decide (97<=c) && decide (c<=122)
theorem aaK {z:Str}(h:zI z=true):aP z:=by
 unfold zI at h;rw [afx,afx,agB,agB,agf] at h;refine⟨h.1.1,h.1.2,fun c hc=>?_⟩;have:=h.2 c hc;rw [afx,agB,agB] at this;exact this
theorem yJ {l:List Str}(h:l.all zI=true):∀ k∈l,aP k:=fun k hk=>aaK (agf.mp h k hk)
theorem aed {xs:List Str}{r:Int}(h0:0<=r)(h1:r < xs.length):∃ m∈xs,atI (xs.map V.str) r=some (.str m):=by
 obtain⟨j,rfl⟩:∃ j:Nat,r=(j:Int):=⟨r.toNat,by lia⟩;have hj:j < xs.length:=by lia
 exact⟨xs[j],afz hj,bP (by rw [afg,aeS hj];rfl)⟩
def words13:List Str:=["keys","room","open","back","new","hand","next","gone","all","buy","nth","most","best"]
def words5:List Str:=["show","none","yes","few","shut"]
def words8:List Str:=["abcd","abce","abcz","zz","zy","zbcd","keya","keyb"]
def words8b:List Str:=["a","b","ab","c","zz","abcd","ba","k"]
def iO:Sp:=fun vs H Q _=>∃ (p:Addr) (n:Int),vs=[.ref p,.int n]/\DeckAt H p/\0 < n/\n<=8/\∀ (z:Str) (H':Hp),aP z->DeckAt H' p->But p H H'->Q (.str z) H'
def xC:Sp:=fun vs H Q _=>∃ (p:Addr) (n m:Int),vs=[.ref p,.int n,.int m]/\DeckAt H p/\0 < n/\n<=8/\0 < m/\m<=20/\∀ (l:Addr) (ks:List Str) (H':Hp),H l=none->H' l=some (.lst (ks.map V.str))->ks.length<=20->(∀ k∈ks,aP k)->DeckAt H' p->But p H H'->Q (.ref l) H'
inductive WdI (p:Addr)(n:Int)(x3:Option V)(H:Hp)(i:Nat)(σ':L2.St)(H':Hp):Prop
 | mk (z:Str) (x5:Option V):σ'=[some (.ref p),some (.int n),some (.int 7),x3,some (.str z),x5]->z.cps.toList.length=i->(∀ c∈z.cps.toList,97<=c/\c<=122)->DeckAt H' p->But p H H'->WdI p n x3 H i σ' H'
theorem fm:∀ {ys:List V},(∀ y∈ys,∃ z,y=V.str z/\aP z)->∃ ss:List Str,ys=ss.map V.str/\∀ x∈ss,aP x
 | [],_=>⟨[],rfl,fun _ h=>nomatch h⟩
 | y::ys,h=>by
  obtain⟨ss,rfl,k⟩:=fm fun z hz=>h z (aeW _ hz);obtain⟨c,rfl,hc⟩:=h y aeX;refine⟨c::ss,rfl,fun x hx=>?_⟩;rcases aeY.mp hx with z | z
  ·rw [z];exact hc
  ·exact k x z
theorem c9:az ["deck","few","way","some","word","k"] ["deck","few"] (ak ju):=scM rfl rfl rfl rfl (by decide +kernel)
theorem sQ:az ["deck","few","most"] ["deck","few","most"] (ak gm):=scM rfl rfl rfl rfl (by decide +kernel)
theorem oU:(["k","deck","few"]:List Str).Nodup:=by decide +kernel
theorem zN {f fS:Addr}{fd fdS:FuncData}(F:Fun K "_law_kind" "_law_kind" ju f fd)(aw:FnOk P w K mg base CX0 1 fS fdS ["deck","many"] gK)(ar:Cal K mg "_law_take" ["deck","many"] fS fdS)(bf:mg "range" = none):FnOk P w K mg base CX0 2 f fd ["deck","few"] iO:=by
 refine F.ok c9 (fun vs H Q E h=>?_) (fun cdv A outer s H vs Q E hr h=>?_)
 ·obtain⟨p,n,rfl,_⟩:=h
  rfl
 ·obtain⟨p,n,rfl,dk,n0,n1,q⟩:=h;refine⟨_,(ah (aL (i:=2) c9.nd rfl (.inl rfl) (pcl aw ar hr rfl (ae (pv 0) (ae aq af))))
   (ah (cn (bO (aT kF (pv 2) aq (aS _))
    (@ah _ _ _ _ _ (@aL _ _ 3 _ _ _ _ c9.nd rfl (.inl rfl) (@bq _ _ _ _ (@bI _ _ _ _ _ (@au _ _ _ _) (@bI _ _ _ _ _ (@au _ _ _ _) (@bI _ _ _ _ _ (@au _ _ _ _) (@bI _ _ _ _ _ (@au _ _ _ _) (@bI _ _ _ _ _ (@au _ _ _ _) (@bI _ _ _ _ _ (@au _ _ _ _) (@bI _ _ _ _ _ (@au _ _ _ _) (@bI _ _ _ _ _ (@au _ _ _ _) (@bI _ _ _ _ _ (@au _ _ _ _) (@bI _ _ _ _ _ (@au _ _ _ _) (@bI _ _ _ _ _ (@au _ _ _ _) (@bI _ _ _ _ _ (@au _ _ _ _) (@bI _ _ _ _ _ (@au _ _ _ _) (@af _) rfl) rfl) rfl) rfl) rfl) rfl) rfl) rfl) rfl) rfl) rfl) rfl) rfl)) rfl (by first | exact .inl rfl | exact .inr rfl))
    (ao (aE (a7 aX (aZ dE (pv 3) (@bq _ _ _ _ (@bI _ _ _ _ _ (@au _ _ _ _) (@bI _ _ _ _ _ (@au _ _ _ _) (@bI _ _ _ _ _ (@au _ _ _ _) (@bI _ _ _ _ _ (@au _ _ _ _) (@bI _ _ _ _ _ (@au _ _ _ _) (@af _) rfl) rfl) rfl) rfl) rfl))) (pcl aw ar hr rfl (ae (pv 0) (ae aq af))) (fun _ _=>rfl))))) aO))
   (ah (bO (aT kF (pv 2) aq (aS _))
    (ao (aE (@a7 _ _ _ _ _ _ _ aX (@bq _ _ _ _ (@bI _ _ _ _ _ (@au _ _ _ _) (@bI _ _ _ _ _ (@au _ _ _ _) (@bI _ _ _ _ _ (@au _ _ _ _) (@bI _ _ _ _ _ (@au _ _ _ _) (@bI _ _ _ _ _ (@au _ _ _ _) (@bI _ _ _ _ _ (@au _ _ _ _) (@bI _ _ _ _ _ (@au _ _ _ _) (@bI _ _ _ _ _ (@au _ _ _ _) (@af _) rfl) rfl) rfl) rfl) rfl) rfl) rfl) rfl)) (pcl aw ar hr rfl (ae (pv 0) (ae aq af))) (fun _ _=>rfl)))) aO)
   (ah (cn (bO (aT kF (pv 2) aq (aS _))
    (ah (aL (i:=4) c9.nd rfl (.inl rfl) au)
    (ah (cn (gj afS rfl (cq rfl bf (ae (aZ kN aq (pcl aw ar hr rfl (ae (pv 0) (ae aq af)))) af)) (aA (i:=5) c9.nd rfl (.inl rfl))
     (ao (aL (i:=4) c9.nd rfl (.inl rfl) (aZ bz (pv 4) (a7 aa6 au (pcl aw ar hr rfl (ae (pv 0) (ae aq af))) (fun _ _=>rfl)))))))
    (ao (aE (pv 4))))) aO))
   (ao (aE (@a7 _ _ _ _ _ _ _ aX (@bq _ _ _ _ (@bI _ _ _ _ _ (@au _ _ _ _) (@bI _ _ _ _ _ (@au _ _ _ _) (@bI _ _ _ _ _ (@au _ _ _ _) (@bI _ _ _ _ _ (@au _ _ _ _) (@bI _ _ _ _ _ (@au _ _ _ _) (@bI _ _ _ _ _ (@au _ _ _ _) (@bI _ _ _ _ _ (@au _ _ _ _) (@bI _ _ _ _ _ (@au _ _ _ _) (@af _) rfl) rfl) rfl) rfl) rfl) rfl) rfl) rfl)) (pcl aw ar hr rfl (ae (pv 0) (ae (pv 1) af))) (fun _ _=>rfl)))))))),?_⟩
  have pick:∀ (ws:List Str) (l:Addr) (H1:Hp) (r:Int),H1 l=some (.lst (ws.map V.str))->0<=r->r < ws.length->(ws.all zI=true)->∃ m,aP m/\atI (ws.map V.str) r=some (.str m):=fun ws l H1 r _ a b c=>by
   obtain⟨m,hm,e⟩:=aed a b;exact⟨m,yJ c m hm,e⟩
  refine⟨_,rfl,p,16,rfl,dk,by decide,fun way H1 w0 w1 dk1 B1=>?_⟩;have last:∀ (H1:Hp) (l:Addr),DeckAt H1 p->But p H H1->True:=fun _ _ _ _=>trivial;refine⟨fun σ' H'=>∃ x3,σ'=[some (.ref p),some (.int n),some (.int way),x3,none,none]/\H'=H1,?_,?_⟩
  ·rintro σ' H' ⟨x3,rfl,rfl⟩;refine⟨_,rfl,rfl,_,rfl,lJ (fun _=>?_) (fun _=>?_)⟩
   ·refine⟨by show 8<=sizeLine;decide,fun l nl=>?_⟩;have s2:=aj (o:=.lst (words8.map V.str)) nl;have e2:(upd H' l (.lst (words8.map V.str))) l=some (.lst (words8.map V.str)):=ag;refine⟨_,rfl,p,8,rfl,dk1.same s2,by decide,fun r H3 r0 r1 dk3 B3=>?_⟩;obtain⟨m,mk,em⟩:=pick words8 l H3 r (B3 _ _ (dk1.ne nl) e2) r0 r1 (by decide +kernel);exact⟨l,_,_,.str m,rfl,rfl,aAA (B3 _ _ (dk1.ne nl) e2),em,q m _ mk dk3 (B1.trans ((ay s2).trans B3))⟩
   refine⟨fun σ' H''=>∃ x4 x5,σ'=[some (.ref p),some (.int n),some (.int way),x3,x4,x5]/\H''=H',?_,?_⟩
   ·rintro σ' H'' ⟨x4,x5,rfl,rfl⟩;refine⟨by show 8<=sizeLine;decide,fun l nl=>?_⟩;have s2:=aj (o:=.lst (words8b.map V.str)) nl;have e2:(upd H'' l (.lst (words8b.map V.str))) l=some (.lst (words8b.map V.str)):=ag;refine⟨_,rfl,_,rfl,p,n,rfl,dk1.same s2,n0,fun r H3 r0 r1 dk3 B3=>?_⟩;obtain⟨m,mk,em⟩:=pick words8b l H3 r (B3 _ _ (dk1.ne nl) e2) r0 (by show r < 8;lia) (by decide +kernel);exact⟨l,_,_,.str m,rfl,rfl,aAA (B3 _ _ (dk1.ne nl) e2),em,q m _ mk dk3 (B1.trans ((ay s2).trans B3))⟩
   refine⟨_,rfl,rfl,_,rfl,lJ (fun h7=>?_) (fun _=>⟨_,_,rfl,rfl⟩)⟩;have e7:way=7:=by
    have:=af4 h7;injection this
   subst e7;refine⟨fun σ' H''=>∃ i,1<=i/\i<=4/\WdI p n x3 H i σ' H'',?_,?_⟩
   ·rintro σ' H'' ⟨i,i1,i4,z,x5,rfl,len,cs,dk',B'⟩;exact⟨_,rfl,q z _ (acC ⟨by lia,by lia,cs⟩) dk' B'⟩
   refine⟨_,rfl,p,4,rfl,dk1,by decide,fun r H3 r0 r1 dk3 B3=>⟨1,r,rfl,rfl,1+r,rfl,by lia,by lia,?_⟩⟩;obtain⟨m,em⟩:∃ m:Nat,1+r=(m:Int):=⟨(1+r).toNat,by lia⟩;rw [em,afu];refine fZ (fun i σ' H'=>WdI p n x3 H i σ' H') ⟨_,_,rfl,by decide,fun c hc=>by simp [show (Str.ofString "").cps.toList=[] by decide] at hc,dk3,B1.trans B3⟩ ?_ (fun σ H' z=>⟨m,by lia,by lia,z⟩);rintro i σ H4 hi ⟨z,x5,rfl,len,cs,dk4,B4⟩;refine⟨_,rfl,_,rfl,p,26,rfl,dk4,by decide,fun r H5 r0 r1 dk5 B5=>?_⟩;obtain⟨k,rfl⟩:∃ k:Nat,r=(k:Int):=⟨r.toNat,by lia⟩;have el:z.cps.toList.length=z.length:=afd;refine⟨lettersS,_,97+k,rfl,rfl,ua,vW k (by lia),z,_,rfl,rfl,ag0 (bZ (by show z.length+1<=1000;lia)),?_⟩;refine⟨_,_,rfl,by rw [aV,aeV,len];rfl,fun c hc=>?_,dk5,B4.trans B5⟩;rw [aV] at hc;rcases afc.mp hc with y | y
   ·exact cs c y
   ·have:c=97+k:=by simpa using y
    lia
  refine⟨_,rfl,rfl,_,rfl,lJ (fun _=>?_) (fun _=>⟨_,rfl,rfl⟩)⟩;refine⟨by show 13<=sizeLine;decide,fun l nl=>?_⟩;have s2:=aj (o:=.lst (words13.map V.str)) nl;have e2:(upd H1 l (.lst (words13.map V.str))) l=some (.lst (words13.map V.str)):=ag;refine⟨_,rfl,by show 5<=sizeLine;decide,fun l5 nl5=>?_⟩;have s3:Same (upd H1 l (.lst (words13.map V.str))) (upd (upd H1 l (.lst (words13.map V.str))) l5 (.lst (words5.map V.str))):=aj nl5;refine⟨l,l5,_,_,rfl,rfl,s3 _ _ e2,ag,by show 18<=sizeLine;decide,fun l6 nl6=>?_⟩;have s4:=aj (o:=.lst ((words13++words5).map V.str)) nl6;have dk4:=((dk1.same s2).same s3).same s4;have n6:=((dk1.same s2).same s3).ne nl6;refine⟨_,rfl,p,18,rfl,dk4,by decide,fun r H3 r0 r1 dk3 B3=>?_⟩;obtain⟨m,mk,em⟩:=pick (words13++words5) l6 H3 r (B3 _ _ n6 ag) r0 r1 (by decide +kernel);exact⟨l6,_,_,.str m,rfl,rfl,aAA (B3 _ _ n6 ag),em,q m _ mk dk3 (B1.trans ((ay (s2.trans (s3.trans s4))).trans B3))⟩
end
def hid (S:List Addr)(H:Hp):Hp:=fun b=>if b∈S then none else H b
theorem aG {S:List Addr}{H:Hp}{b:Addr}{u:HO}(n:b ∉ S)(e:H b=some u):hid S H b=some u:=by unfold hid;rw [if_neg n];exact e
theorem aD {S:List Addr}{H:Hp}{b:Addr}{u:HO}(e:hid S H b=some u):b ∉ S/\H b=some u:=by
 unfold hid at e;by_cases h:b∈S
 ·rw [if_pos h] at e;cases e
 ·rw [if_neg h] at e;exact⟨h,e⟩
theorem gp {S:List Addr}{H:Hp}:Same (hid S H) H:=fun b u e=>(aD e).2
theorem ox {S:List Addr}{H H':Hp}(k:∀ b u,b ∉ S->H b=some u->H' b=some u):Same (hid S H) (hid S H'):=fun b u e=>aG (aD e).1 (k b u (aD e).1 (aD e).2)
theorem mK {p:Addr}{S:List Addr}{H H':Hp}(B:But p H H'):Same (hid (p::S) H) (hid (p::S) H'):=ox fun b u n e=>B b u (fun z=>n (by rw [z];exact aeX)) e
theorem adn {a:Addr}{o:HO}{S:List Addr}{H:Hp}(h:a∈S):Same (hid S H) (hid S (upd H a o)):=ox fun b u n e=>by rw [ax (show b≠a from fun z=>n (by rw [z];exact h))];exact e
theorem uK {S T:List Addr}{H:Hp}(h:∀ b∈T,b∈S):Same (hid S H) (hid T H):=fun b u e=>aG (fun z=>(aD e).1 (h b z)) (aD e).2
theorem RoomsAt.nil {H:Hp}:RoomsAt H [] []:=⟨rfl,fun i v r e=>by simp at e⟩
theorem RoomsAt.snoc {H:Hp}{vs:List V}{rs:List Rm}{v:V}{r:Rm}(x:RoomsAt H vs rs)(y:RoomAt H v r):RoomsAt H (vs++[v]) (rs++[r]):=by
 refine⟨by rw [aeV,aeV,x.1];rfl,fun i v' r' e1 e2=>?_⟩;by_cases h:i < vs.length
 ·rw [afp h] at e1;rw [afp (by rw [← x.1];exact h)] at e2;exact x.2 i v' r' e1 e2
 ·have hl:i < (vs++[v]).length:=(aeZ.mp e1).1;rw [aeV,ahI] at hl;have ei:i=vs.length:=by lia
  subst ei;rw [aff (ae4 _),agA] at e1;rw [x.1,aff (ae4 _),agA] at e2;cases e1;cases e2;exact y
theorem DeckAt.up {H:Hp}{p b:Addr}{o:HO}(x:DeckAt H p)(n:b≠p):DeckAt (upd H b o) p:=let ⟨ns,e,k⟩:=x;⟨ns,by rw [ax n.symm];exact e,k⟩
structure acX (most:Nat)(h:Hs):Prop where
 ok:bC h
 rl:h.2.length<=most
 kl:h.1.length<=20
 wl:∀ r∈h.2,r.2.length<=20
end K7
namespace L2
open PySem PySem.Spec PyProof.Rows
section
variable {X:Cx}{o e:Expr}{es:List Expr}{to:TE}{t:TA}{name:Str}{apos cpos:Pos}{T id:String}{r:V->List V->Hp->VK->Prop}{K:PySem.W.Frag}
theorem xH (hK:X.K=K)(pa:PlainAttrs T)(slot:Slot T name id)(hty:typeOf (.builtin id)=pure (.type "method_descriptor"))(hm:MtR X id r)(ho:PE X o to)(ha:PA X (e::es) t)
 (hbase:attributeBase o name X.env (eval o X.env)=eval o X.env:=by rfl)
 (hfew:((backTo cpos (starEach (e::es) X.env)).all (fun x=>!x.1) && (backToKw cpos (keywordEach [] X.env)).all (fun x=>x.1.isSome)
  && decide ((e::es).length+([]:List Keyword).length+(if ([]:List Keyword).isEmpty then 0 else 1) < 30))=true:=by rfl)
 (hline:(apos.endLine == cpos.line)=true:=by rfl)(hs:starEach (e::es) X.env=(false,eval e X.env)::starEach es X.env:=by rfl)(hplain:(backTo cpos (starEach es X.env)).any (·.1)=false:=by rfl) :
 PE X (.Call (.Attribute o name apos) (e::es) [] cpos) (tBM K T r to t):=by
 subst hK;exact dz pa slot hty hm ho ha hbase hfew hline hs hplain
end
end L2
namespace K7
open PySem L2 PyProof.Rows
section
variable {P:Program}{w:World}{K:PySem.W.Frag}{mg:Str->Option Value}{base:Heap}
theorem dD:az ["deck","most","locks","few","rooms","k","some"] ["deck","most","locks"] (ak fk):=scM rfl rfl rfl rfl (by decide +kernel)
theorem og:(["j","deck","few"]:List Str).Nodup:=by decide +kernel
end
end K7
namespace L2
open PySem PySem.Spec PyProof.Rows
end L2
namespace K7
open PySem L2 PyProof.Rows
def leB (a b:Str):Bool:=!Spec.ltCps b.cps.toList a.cps.toList
theorem leB_iff {a b:Str}:leB a b=true↔leS a b:=by unfold leB leS;rw [Bool.not_eq_true']
def bR (l:List Str):List Str:=l.mergeSort leB
theorem dU (l:List Str):(bR l).Perm l:=List.mergeSort_perm l leB
theorem yv (a b:Str):leS a b\/leS b a:=by
 rcases List.le_total a.cps.toList b.cps.toList with h | h
 ·exact .inl (leS_iff.mpr h)
 ·exact .inr (leS_iff.mpr h)
theorem jE (l:List Str):(bR l).Pairwise leS:=by
 have h:=List.pairwise_mergeSort (le:=leB) (fun a b c h1 h2=>leB_iff.mpr (rG (leB_iff.mp h1) (leB_iff.mp h2))) (fun a b=>by
  rw [Bool.or_eq_true,leB_iff,leB_iff];exact yv a b) l
 exact h.imp fun h=>leB_iff.mp h
theorem tI {l l':List Str}(pm:l'.Perm l)(so:sortedS l'=true):l'=bR l:=gR (b4 so) (jE l) (pm.trans (dU l).symm)
theorem sortS_mem {l:List Str}{x:Str}:x∈bR l↔x∈l:=(dU l).mem_iff
theorem fV (l:List Str):(bR l).length=l.length:=(dU l).length_eq
section
variable {P:Program}{w:World}{K:PySem.W.Frag}{mg:Str->Option Value}{base:Heap}
theorem RoomsAt.take {H:Hp}{vs:List V}{rs:List Rm}(x:RoomsAt H vs rs)(n:Nat):RoomsAt H (vs.take n) (rs.take n):=⟨by rw [afs,afs,x.1],fun i v r e1 e2=>by
 rw [aid] at e1 e2;split at e1
 ·rename_i h;rw [if_pos h] at e2;exact x.2 i v r e1 e2
 ·cases e1⟩
theorem RoomsAt.drop {H:Hp}{vs:List V}{rs:List Rm}(x:RoomsAt H vs rs)(n:Nat):RoomsAt H (vs.drop n) (rs.drop n):=⟨by rw [af2,af2,x.1],fun i v r e1 e2=>by
 rw [aia] at e1 e2;exact x.2 _ v r e1 e2⟩
theorem RoomsAt.app {H:Hp}{vs us:List V}{rs qs:List Rm}(x:RoomsAt H vs rs)(y:RoomsAt H us qs):RoomsAt H (vs++us) (rs++qs):=by
 refine⟨by rw [aeV,aeV,x.1,y.1],fun i v r e1 e2=>?_⟩;by_cases h:i < vs.length
 ·rw [afp h] at e1;rw [afp (by rw [← x.1];exact h)] at e2;exact x.2 i v r e1 e2
 ·rw [aff (by lia)] at e1;rw [aff (by rw [← x.1];lia),← x.1] at e2;exact y.2 _ v r e1 e2
theorem RoomsAt.one {H:Hp}{v:V}{r:Rm}(x:RoomAt H v r):RoomsAt H [v] [r]:=RoomsAt.snoc (vs:=[]) (rs:=[]) .nil x
theorem uH {α:Type}(l:List α)(n:Nat)(h:n < l.length)(x:α):l.set n x=l.take n++[x]++l.drop (n+1):=by
 rw [List.set_eq_take_append_cons_drop,if_pos h];simp
theorem RoomsAt.set {H:Hp}{vs:List V}{rs:List Rm}{v:V}{r:Rm}(x:RoomsAt H vs rs){n:Nat}(h:n < vs.length)(y:RoomAt H v r):RoomsAt H (vs.set n v) (rs.set n r):=by
 rw [uH vs n h,uH rs n (by rw [← x.1];exact h)];exact ((x.take n).app (.one y)).app (x.drop (n+1))
theorem ads {xs:List V}(k:Nat):uV xs none (some (k:Int))=xs.take k:=by
 unfold uV;rw [HT.sIx_none,HT.sIx_nat,ai0,afV];rcases Nat.le_total k xs.length with h | h
 ·rw [agn h]
 ·rw [Nat.min_eq_right h,afK,afI h]
theorem uJ {xs:List V}{k:Nat}(h:k<=xs.length):uV xs (some (k:Int)) none=xs.drop k:=by
 unfold uV;rw [HT.sIx_none,HT.sIx_nat,agn h];exact afI (by rw [af2];exact ae4 _)
structure sR (h:Hs):Prop where
 ok:bC h
 rl:h.2.length<=100
 kl:h.1.length<=400
 wl:∀ r∈h.2,r.2.length<=400
def RG (r:Rm):Prop:=gX r/\r.2.length<=400
theorem xG (xs:List V):uV xs (some (1:Int)) none=xs.drop 1:=by
 rcases Nat.lt_or_ge 0 xs.length with h | h
 ·exact uJ (k:=1) h
 ·rw [agi.mp (Nat.le_zero.mp h)];rfl
theorem pH {c:Nat}:∀ {a b x y:List Nat},c ∉ a->c ∉ b->a++c::x=b++c::y->a=b/\x=y
 | [],[],x,y,_,_,e=>⟨rfl,by simpa using e⟩
 | [],d::b,x,y,_,h,e=>by
  rw [agm,af3] at e;injection e with e1 e2
  exact absurd (e1▸aeX) h
 | d::a,[],x,y,h,_,e=>by
  rw [agm,af3] at e;injection e with e1 e2
  exact absurd (e1▸aeX) h
 | d::a,d'::b,x,y,h1,h2,e=>by
  rw [af3,af3] at e;injection e with e1 e2
  obtain⟨h3,h4⟩:=pH (fun m=>h1 (aeW _ m)) (fun m=>h2 (aeW _ m)) e2;exact⟨by rw [e1,h3],h4⟩
theorem d8 (z a:Str):Str.join z [a]=a:=by simp [Str.join]
theorem jC (z a b:Str)(r:List Str):Str.join z (a::b::r)=a++z++Str.join z (b::r):=rfl
theorem uL {c:Nat}:∀ {ps qs:List Str},ps≠[]->qs≠[]->(∀ p∈ps,c ∉ p.cps.toList)->(∀ q∈qs,c ∉ q.cps.toList)->Str.join ⟨#[c]⟩ ps=Str.join ⟨#[c]⟩ qs->ps=qs
 | [],_,h,_,_,_,_=>absurd rfl h
 | _::_,[],_,h,_,_,_=>absurd rfl h
 | [p],[q],_,_,_,_,e=>by rw [d8,d8] at e;rw [e]
 | [p],q::q'::t,_,_,hp,_,e=>by
  rw [d8,jC] at e;refine absurd ?_ (hp p aeX);rw [e,aV,aV];simp
 | p::p'::t,[q],_,_,_,hq,e=>by
  rw [d8,jC] at e;refine absurd ?_ (hq q aeX);rw [← e,aV,aV];simp
 | p::p'::t,q::q'::t',_,_,hp,hq,e=>by
  rw [jC,jC] at e;have e':=afH (fun s:Str=>s.cps.toList) e;simp only [aV,ae5] at e';obtain⟨h1,h2⟩:=pH (hp p aeX) (hq q aeX) e';rw [oH h1,uL (c:=c) (by simp) (by simp) (fun x hx=>hp x (aeW _ hx)) (fun x hx=>hq x (aeW _ hx)) (oH h2)]
theorem ql (z:Str)(ss:List Str):Txt.join z ss=Str.join z ss:=StrLaws.glued_eq_join z ss
theorem jG {c:Nat}{ps:List Str}(ne:ps≠[])(h:∀ p∈ps,c ∉ p.cps.toList):Txt.split (Txt.join ⟨#[c]⟩ ps) ⟨#[c]⟩=ps:=by
 refine uL (c:=c) (fun z=>?_) ne (StrLaws.split_free _ c) h ?_
 ·have:=split_pos (Txt.join ⟨#[c]⟩ ps) ⟨#[c]⟩;rw [z] at this;simp at this
 ·rw [StrLaws.join_split,ql]
theorem cf (z:Str):∀ ss:List Str,(Txt.join z ss).length<=(ss.map (·.length)).sum+ss.length * z.length:=by
 intro ss;rw [ql];have el:∀ s:Str,s.length=s.cps.toList.length:=fun s=>afd.symm
 induction ss with
 | nil =>
  have e0:(Str.join z []).length=0:=rfl;rw [e0];exact afh _
 | cons a r ih =>
  cases r with
  | nil=>rw [d8];simp
  | cons b t =>
   rw [jC];have e:(a++z++Str.join z (b::t)).length=a.length+z.length+(Str.join z (b::t)).length:=by
    rw [el,aV,aV,aeV,aeV,← el,← el,← el]
   rw [e,afl,agC,afn,Nat.succ_mul];lia
theorem bF:∀ {ks:List Str},(∀ k∈ks,aP k)->(ks.map (·.length)).sum<=4 * ks.length
 | [],_=>ae4 _
 | k::ks,h=>by
  have h1:=(h k aeX).2.1;have h2:=bF fun x hx=>h x (aeW _ hx);rw [afl,agC,afn];lia
def cBl:Str:=Str.ofString " "
def cPl:Str:=Str.ofString "+"
def cNl:Str:=Str.ofString "\n"
def cCo:Str:=Str.ofString ": "
def cDa:Str:=Str.ofString "-"
theorem cm:cBl=⟨#[32]⟩:=by decide +kernel
theorem gU:cPl=⟨#[43]⟩:=by decide +kernel
theorem rX:cNl=⟨#[10]⟩:=by decide +kernel
theorem qP:cCo=⟨#[58,32]⟩:=by decide +kernel
theorem vv:cDa=⟨#[45]⟩:=by decide +kernel
def bQ (ks:List Str):Str:=if ks=[] then cDa else Txt.join cBl (bR ks)
def eO (r:Rm):Str:=Txt.join cPl r.1++cCo++bQ r.2
def pR (h:Hs):Str:=Txt.join cNl (bQ h.1::h.2.map eO)
theorem xx:bR []=[]:=agi.mp (by rw [fV];rfl)
theorem vg {k:Str}(h:aP k){c:Nat}(hc:c < 97):c ∉ k.cps.toList:=fun m=>by have:=(h.2.2 c m).1;lia
theorem qA {z:Str}{ks:List Str}{c:Nat}(h:∀ k∈ks,c ∉ k.cps.toList)(hz:c ∉ z.cps.toList):c ∉ (Txt.join z ks).cps.toList:=fun m=>by
 rw [ql] at m;rcases (mem_join z c ks).mp m with ⟨t,ht,y⟩ | ⟨_,y⟩
 ·exact h t ht y
 ·exact hz y
theorem r6 {ks:List Str}(h:∀ k∈ks,aP k){c:Nat}(hc:c < 97)(h1:c≠32)(h2:c≠45):c ∉ (bQ ks).cps.toList:=by
 unfold bQ;by_cases e:ks=[]
 ·rw [if_pos e,vv];simpa using h2
 ·rw [if_neg e];exact qA (fun k hk=>vg (h k (sortS_mem.mp hk)) hc) (by rw [cm];simpa using h1)
theorem wN {r:Rm}(h:gX r):10 ∉ (eO r).cps.toList:=by
 unfold eO;rw [aV,aV];intro m;rcases afc.mp m with y | y
 ·rcases afc.mp y with y | y
  ·exact qA (fun k hk=>vg (h.lk k hk) (by decide)) (by rw [gU];simp) y
  ·rw [qP] at y;simp at y
 ·exact r6 h.kk (by decide) (by decide) (by decide) y
theorem ad9 {h:Hs}(ok:bC h):Txt.split (pR h) cNl=bQ h.1::h.2.map eO:=by
 unfold pR;rw [rX];refine jG (by simp) fun p hp=>?_;rcases aeY.mp hp with y | y
 ·rw [y];exact r6 ok.kk (by decide) (by decide) (by decide)
 ·obtain⟨r,hr,rfl⟩:=ai1.mp y;exact wN (ok.rs r hr)
theorem gW {ks:List Str}(h:∀ k∈ks,aP k):(bQ ks).length<=5 * ks.length+1:=by
 unfold bQ;by_cases e:ks=[]
 ·rw [if_pos e,vv];exact Nat.le_add_left _ _
 ·rw [if_neg e];have a:=cf cBl (bR ks);have b:=bF fun k hk=>h k (sortS_mem.mp hk);have c:cBl.length=1:=by rw [cm];rfl
  rw [c,fV] at a;rw [fV] at b;lia
theorem yM {r:Rm}(h:gX r)(w:r.2.length<=400):(eO r).length<=2100:=by
 have el:∀ s:Str,s.length=s.cps.toList.length:=fun s=>afd.symm;have a:=cf cPl r.1;have b:=bF h.lk;have c:cPl.length=1:=by rw [gU];rfl
 have d:=gW h.kk;have e:(eO r).length=(Txt.join cPl r.1).length+2+(bQ r.2).length:=by
  unfold eO;rw [el,aV,aV,aeV,aeV,← el,← el,← el,qP]
  rfl
 have l4:=h.l4;rw [c] at a;lia
theorem xg {h:Hs}(x:sR h):((bQ h.1::h.2.map eO).map (·.length)).sum+(bQ h.1::h.2.map eO).length * cNl.length<=300000:=by
 have c:cNl.length=1:=by rw [rX];rfl
 have k:=gW x.ok.kk;have kl:=x.kl;have rl:=x.rl;have s:∀ rs:List Rm,(∀ r∈rs,gX r/\r.2.length<=400)->((rs.map eO).map (·.length)).sum<=2100 * rs.length:=by
  intro rs
  induction rs with
  | nil=>intro _;exact ae4 _
  | cons r rs ih =>
   intro hr;have h1:=yM (hr r aeX).1 (hr r aeX).2;have h2:=ih fun q hq=>hr q (aeW _ hq);rw [afl,afl,agC,afn];lia
 have s':=s h.2 fun r hr=>⟨x.ok.rs r hr,x.wl r hr⟩;rw [c,afl,agC,afn,aeT];lia
def pW:Sp:=fun vs H Q _=>∃ (a:Addr) (ks:List Str),vs=[.ref a]/\H a=some (.lst (ks.map V.str))/\(∀ k∈ks,aP k)/\ks.length<=400/\∀ H',Same H H'->Q (.str (bQ ks)) H'
def xE:Sp:=fun vs H Q _=>∃ (v:V) (r:Rm),vs=[v]/\RoomAt H v r/\RG r/\∀ H',Same H H'->Q (.str (eO r)) H'
def yl:Sp:=fun vs H Q _=>∃ (v:V) (h:Hs),vs=[v]/\HouseAt H v h/\sR h/\∀ H',Same H H'->Q (.str (pR h)) H'
theorem rg:az ["keys"] ["keys"] (ak ji):=scM rfl rfl rfl rfl (by decide +kernel)
theorem iP:az ["room","locks","within"] ["room"] (ak iV):=scM rfl rfl rfl rfl (by decide +kernel)
theorem ic:az ["house","keys","rooms"] ["house"] (ak eX):=scM rfl rfl rfl rfl (by decide +kernel)
theorem nM:(["room"]:List Str).Nodup:=by decide +kernel
theorem aap {f:Addr}{fd:FuncData}(F:Fun K "show_keys" "show_keys" ji f fd)(aW:mg "sorted" = none):FnOk P w K mg base CX0 1 f fd ["keys"] pW:=by
 refine F.ok rg (fun vs H Q E h=>?_) (fun cdv A outer s H vs Q E hr h=>?_)
 ·obtain⟨a,ks,rfl,_⟩:=h
  rfl
 ·obtain⟨a,ks,rfl,ha,kk,kl,q⟩:=h;refine⟨_,(ao (aE (mD (qi (pv 0) (by intro _;rfl)) (dz afi afE afF fz au (ae (av eK rfl aW ag3 (ae (pv 0) af)) af)) au))),?_⟩;have lim:1000<=sizeLine:=by decide
  refine⟨_,rfl,!(ks.map V.str).isEmpty,?_,?_⟩
  ·exact .inl ⟨_,aAA ha,rfl⟩
  by_cases e:ks=[]
  ·subst e;refine km ?_;have:=q H (Same.refl H);unfold bQ at this;rw [if_pos rfl] at this;exact this
  ·rw [show (!(ks.map V.str).isEmpty)=true by cases ks with | nil=>exact absurd rfl e | cons _ _=>rfl];refine kW ?_;refine⟨rfl,_,rfl,a,ks,rfl,aAA ha,by lia,fun l ss' nl pm so=>?_⟩;rw [tI pm so];have z:=q _ (aj (o:=.lst ((bR ks).map V.str)) nl);unfold bQ at z;rw [if_neg e] at z;refine⟨cBl,l,bR ks,rfl,rfl,aAA ag,?_,z⟩;have b:=bF fun k hk=>kk k (sortS_mem.mp hk);have c:cBl.length=1:=by rw [cm];rfl
   have d:=fV ks;rw [c];lia
theorem aas {f fS:Addr}{fd fdS:FuncData}(F:Fun K "show_room" "show_room" iV f fd)(fP:FnOk P w K mg base CX0 1 fS fdS ["keys"] pW)(bV:Cal K mg "show_keys" ["keys"] fS fdS):FnOk P w K mg base CX0 2 f fd ["room"] xE:=by
 refine F.ok iP (fun vs H Q E h=>?_) (fun cdv A outer s H vs Q E hr h=>?_)
 ·obtain⟨v,r,rfl,_⟩:=h
  rfl
 ·obtain⟨v,r,rfl,⟨t,a,b,rfl,ht,ha,hb⟩,ok,q⟩:=h;refine⟨_,(ah (gv (pv 0) (gz rfl (aM (aA (i:=1) iP.nd rfl (.inl rfl)) (aM (aA (i:=2) iP.nd rfl (.inl rfl)) cU))))
   (ao (aE (aZ bz (aZ bz (dz afi afE afF fz au (ae (pv 1) af)) au) (pcl fP bV hr rfl (ae (pv 2) af)))))),?_⟩
  have lim:10000<=sizeLine:=by decide
  have l4:=ok.1.l4;have c1:cPl.length=1:=by rw [gU];rfl
  have c2:cCo.length=2:=by rw [qP];rfl
  have s1:=bF ok.1.lk;have s2:=cf cPl r.1;have s3:=gW ok.1.kk;have wl:=ok.2;have s4:(Txt.join cPl r.1++cCo).length=(Txt.join cPl r.1).length+2:=by
   have el:∀ s:Str,s.length=s.cps.toList.length:=fun s=>afd.symm;rw [el,aV,aeV,← el,← el,c2]
  rw [c1] at s2;refine⟨_,rfl,t,_,rfl,aAB ht,rfl,_,_,rfl,_,_,rfl,rfl,?_⟩;refine⟨rfl,_,rfl,cPl,a,r.1,rfl,rfl,aAA ha,by rw [c1];lia,_,cCo,rfl,rfl,by lia,?_⟩;exact⟨_,rfl,b,r.2,rfl,hb,ok.1.kk,wl,fun H' s'=>⟨_,_,rfl,rfl,by lia,q H' s'⟩⟩
theorem zx {f fQ fS fR:Addr}{fd fdQ fdS fdR:FuncData}(F:Fun K "show_house" "show_house" eX f fd)(bj:FnOk P w K mg base CX0 6 fQ fdQ ["thing"] wj)(aK:Cal K mg "require_house" ["thing"] fQ fdQ)(fP:FnOk P w K mg base CX0 1 fS fdS ["keys"] pW)(bV:Cal K mg "show_keys" ["keys"] fS fdS)(tY:FnOk P w K mg base CX0 2 fR fdR ["room"] xE)(j7:Cal K mg "show_room" ["room"] fR fdR):FnOk P w K mg base CX0 7 f fd ["house"] yl:=by
 refine F.ok ic (fun vs H Q E h=>?_) (fun cdv A outer s H vs Q E hr h=>?_)
 ·obtain⟨v,h,rfl,_⟩:=h
  rfl
 ·obtain⟨v,h,rfl,hh,hl,q⟩:=h;refine⟨_,(ah (bW (pcl bj aK hr rfl (ae (pv 0) af)))
   (ah (gv (pv 0) (gz rfl (aM (aA (i:=1) ic.nd rfl (.inl rfl)) (aM (aA (i:=2) ic.nd rfl (.inl rfl)) cU))))
   (ao (aE (dz afi afE afF fz au (ae (aZ dE (bq (ae (pcl fP bV (hr.mono (by decide:1<=6)) rfl (ae (pv 1) af)) af)) (mj (tg:=.Name "room" _) (outer:=ak (eX)) (N:=["house","keys","rooms"]) (N':=["room"]) (nl:=1) (ix:=[]) rfl rfl rfl (dy (pv 2))
    (fun _ _ _ _=>(aA (i:=0) nM rfl (.inl rfl) (.inr rfl))) (fun _ _ _ _=>dA)
    (fun _ _ _ _=>(pcl tY j7 (hr.mono (by decide:2<=6)) rfl (ae (pv 0) af))))) af)))))),?_⟩
  have lim:10000<=sizeLine:=by decide
  refine⟨_,rfl,v,h,rfl,hh,hl.ok,fun H1 s1=>?_⟩;obtain⟨t,a,r,vs,rfl,ht,ha,hrr,hR⟩:=hh.same s1;have rl:=hl.rl;have hlen:=hR.1;refine⟨_,rfl,t,_,rfl,aAB ht,rfl,_,_,rfl,_,_,rfl,rfl,?_⟩;refine⟨rfl,_,rfl,a,h.1,rfl,ha,hl.ok.kk,hl.kl,fun H2 s2=>?_⟩;refine⟨by show 1<=sizeLine;decide,fun l1 n1=>?_⟩;have s3:Same H2 (upd H2 l1 (.lst [.str (bQ h.1)])):=aj n1;have e3:(upd H2 l1 (.lst [.str (bQ h.1)])) l1=some (.lst [.str (bQ h.1)]):=ag;generalize upd H2 l1 (.lst [.str (bQ h.1)])=H3 at *;have hr3:=s3 _ _ (s2 _ _ hrr);have hR3:=(hR.same s2).same s3;dsimp only [aJ,cu];refine bM _ _ _ _ _ _ _ _ _ ?_;refine⟨_,rfl,r,rfl,⟨_,aAA hr3⟩,?_⟩;intro D nD;refine gc (xs:=vs) (fun i ys H4=>ys=((h.2.take i).map eO).map V.str/\i<=1000/\H4 D=some (.lst ys)/\Same H3 H4) ⟨rfl,by decide,ag,aj nD⟩ (fun i ys H4 ⟨_,_,h,_⟩=>h) (fun i ys H4 ⟨_,_,_,sm⟩=>aAA (sm r _ hr3)) ?_ ?_
  ·rintro i ys H4 x hx ⟨rfl,hi0,hD4,sm⟩;have hi:i < vs.length:=(aeZ.mp hx).1;have hi':i < h.2.length:=by lia
   have er:h.2[i]? = some h.2[i]:=aeS hi';refine cJ rfl ?_;refine⟨_,rfl,x,h.2[i],rfl,(hR3.2 i x _ hx er).same sm,⟨hl.ok.rs _ (afz hi'),hl.wl _ (afz hi')⟩,fun H5 s5=>?_⟩;refine⟨s5 D _ hD4,by rw [aeT,aeT,afs];lia,nx hi ⟨?_,by lia,ag,fun b u e=>?_⟩⟩
   ·rw [aii,er,afe,afe]
    rfl
   ·rw [ax (ai e nD)];exact s5 b u (sm b u e)
  ·rintro ys H4 ⟨rfl,_,hD4,sm⟩;rw [hlen,afK] at hD4;refine⟨l1,D,_,_,rfl,rfl,sm _ _ e3,hD4,by rw [aeT,aeT];show 1+_<=sizeLine;lia,fun l2 n2=>?_⟩;have z:=xg hl;refine⟨cNl,l2,bQ h.1::h.2.map eO,rfl,rfl,aAA (by rw [ag];rfl),by lia,?_⟩;exact q _ (s1.trans (s2.trans (s3.trans (sm.trans (aj n2)))))
def figS:Str := "0123456789"
theorem acr (c:Nat)(h1:48<=c)(h2:c<=57):(!(Builtin.Str.occurrences figS ⟨#[c]⟩ 0 figS.length 1).isEmpty)=true:=by
 have all:∀ k:_root_.Fin 10,(!(Builtin.Str.occurrences figS ⟨#[48+k.val]⟩ 0 figS.length 1).isEmpty)=true:=by decide +kernel
 have e:=all ⟨c - 48,by lia⟩;have e2:48+(c - 48)=c:=by lia
 simp only [e2] at e;exact e
def xh:Sp:=fun vs H Q _=>∃ (z:Str) (n:Nat),vs=[.str z]/\ace z n/\∀ H',Same H H'->Q (.bl true) H'
def mW:Sp:=fun vs H Q _=>∃ (t:Str) (zs:List Str) (ns:List Nat),vs=[.str t,.int (zs.length:Int)]/\t=Txt.join cBl zs/\zs≠[]/\zs.length<=2/\zs.length=ns.length/\(∀ (i:Nat) (z:Str) (n:Nat),zs[i]? = some z->ns[i]? = some n->ace z n)/\∀ l H',Same H H'->H l=none->H' l=some (.lst (ns.map fun (n:Nat)=>V.int (n:Int)))->Q (.ref l) H'
def kx (ns:List Nat):Str:=if ns=[] then "none" else Txt.join cBl (ns.map eI)
def tu:Sp:=fun vs H Q _=>∃ (a:Addr) (ns:List Nat),vs=[.ref a]/\H a=some (.lst (ns.map fun (n:Nat)=>V.int (n:Int)))/\ns.length<=1000/\(∀ n∈ns,n < 1000000000)/\∀ H',Same H H'->Q (.str (kx ns)) H'
theorem sq:az ["word"] ["word"] (ak gi):=scM rfl rfl rfl rfl (by decide +kernel)
theorem oY:(["sign"]:List Str).Nodup:=by decide +kernel
theorem iK:az ["text","many","words"] ["text","many"] (ak cj):=scM rfl rfl rfl rfl (by decide +kernel)
theorem gN:(["word"]:List Str).Nodup:=by decide +kernel
theorem oN:az ["numbers"] ["numbers"] (ak dj):=scM rfl rfl rfl rfl (by decide +kernel)
theorem kY:(["number"]:List Str).Nodup:=by decide +kernel
theorem aat {f:Addr}{fd:FuncData}{pE iR:Tok}(F:Fun K "is_number" "is_number" gi f fd)(k8:mg "FIGURES" = some (.str figS pE))(gg:mg "MOST_FIGURES" = some (.int 9 iR))(br:mg "len" = none)(nW:mg "all" = none):FnOk P w K mg base CX0 1 f fd ["word"] xh:=by
 refine F.ok sq (fun vs H Q E h=>?_) (fun cdv A outer s H vs Q E hr h=>?_)
 ·obtain⟨z,n,rfl,_⟩:=h
  rfl
 ·obtain⟨z,n,rfl,ok,q⟩:=h;refine⟨_,(ah (bO (PW.pt (oX (dq (qb uu uu aq (av lO rfl br afr (ae (pv 0) af)) (dm (v:=.int 9) rfl gg ⟨iR,rfl⟩))) (jW (dq (eN (av (jz rfl) rfl nW (by decide +kernel) (ae (mj (tg:=.Name "sign" _) (outer:=ak (gi)) (N:=["word"]) (N':=["sign"]) (nl:=1) (ix:=[]) rfl rfl rfl (aaZ (pv 0))
   (fun _ _ _ _=>(aA (i:=0) oY rfl (.inl rfl) (.inr rfl))) (fun _ _ _ _=>dA)
   (fun _ _ _ _=>(bN qT (pv 0) (dm (v:=.str figS) rfl k8 ⟨pE,rfl⟩) (by with_unfolding_all rfl)))) af)))))))
   (ao (aE pU)) aO)
   (ao (aE (acN (bN kF (pv 0) au (aS _)) (lG (bN rM (a7 aa6 (pv 0) aq (fun _ _=>rfl)) au (aS _))))))),?_⟩
  have zl:=ok.l9;have z1:=ok.l1;have zs:z.length<=sizeLine:=ag0 (bZ (by lia));refine⟨_,rfl,z,rfl,zs,1,_,rfl,rfl,true,afH V.bl (afm (by lia)),?_⟩;refine kW ?_;refine⟨_,9,rfl,rfl,true,afH V.bl (afm (by lia)),?_⟩;refine km ?_;dsimp only [o8,wt,adV,tB,tCB,aJ,cu];refine bM _ _ _ _ _ _ _ _ _ ?_;refine⟨_,rfl,z,rfl,?_⟩;intro D hD;refine uz (fun i ys H2=>ys=(List.replicate i true).map V.bl/\H2 D=some (.lst ys)/\Same H H2) ⟨rfl,ag,fun b u e=>by rw [ax (ai e hD)];exact e⟩ (fun i ys H2 ⟨_,h,_⟩=>h) ?_ ?_
  ·rintro i ys H2 c hc ⟨rfl,hD2,sm⟩;have hi:i < z.cps.size:=(aga.mp hc).1;have hz:z.length=z.cps.size:=rfl;have hm:c∈z.cps.toList:=by
    have:=aiZ hc;simpa using this
   refine cJ rfl ?_;refine⟨_,rfl,_,_,rfl,rfl,hD2,by rw [aeT,aft];exact bZ (by lia),nx hi ⟨?_,ag,fun b u e=>?_⟩⟩
   ·rw [acr c (ok.dg c hm).1 (ok.dg c hm).2,agD,afe]
    rfl
   ·rw [ax (ai e hD)];exact sm b u e
  ·rintro ys H2 ⟨rfl,hD2,sm⟩;refine⟨D,List.replicate z.cps.size true,rfl,aAA hD2,?_⟩;have e:(List.replicate z.cps.size true).all id=true:=by simp
   rw [e];refine⟨true,rfl,km ?_⟩;refine⟨_,rfl,rfl,_,rfl,lJ (fun h0=>q H2 sm) (fun h0=>?_)⟩;have nz:z.cps.toList[0]?≠some 48:=ok.ld.resolve_left fun e=>h0 (afm (afH V.str e));have el:z.length=z.cps.toList.length:=afd.symm;have h1:0 < z.cps.toList.length:=by lia
   obtain⟨c,hc⟩:∃ c,z.cps.toList[0]? = some c:=⟨_,aeS h1⟩;refine⟨_,rfl,z,0,c,rfl,rfl,zs,bP (j:=0) hc,rfl,?_⟩;have ne:¬ V.str ⟨#[c]⟩=V.str (Str.ofString "0"):=fun e=>by
    injection e with e
    have e':=afH (fun s:Str=>s.cps.toList) e;have:c=48:=by simpa using (show [c]=[48] from e')
    exact nz (by rw [hc,this])
   rw [afv ne];exact q H2 sm
theorem vO {f fN:Addr}{fd fdN:FuncData}(F:Fun K "read_numbers" "read_numbers" cj f fd)(tJ:FnOk P w K mg base CX0 1 fN fdN ["word"] xh)(j8:Cal K mg "is_number" ["word"] fN fdN)(br:mg "len" = none)(nW:mg "all" = none)(df:mg "int" = none):FnOk P w K mg base CX0 2 f fd ["text","many"] mW:=by
 refine F.ok iK (fun vs H Q E h=>?_) (fun cdv A outer s H vs Q E hr h=>?_)
 ·obtain⟨t,zs,ns,rfl,_⟩:=h
  rfl
 ·obtain⟨t,zs,ns,rfl,rfl,ne,l2,ll,ok,q⟩:=h;refine⟨_,(ah (aL (i:=2) iK.nd rfl (.inl rfl) (dz afi ahw ahx qu (pv 0) (ae au af)))
   (ah (bO (PW.pt (oX (aT rM (av aH rfl br afr (ae (pv 2) af)) (pv 1) (aS _)) (jW (dq (eN (av (jz rfl) rfl nW (by decide +kernel) (ae (mj (tg:=.Name "word" _) (outer:=ak (cj)) (N:=["text","many","words"]) (N':=["word"]) (nl:=1) (ix:=[]) rfl rfl rfl (dy (pv 2))
    (fun _ _ _ _=>(aA (i:=0) gN rfl (.inl rfl) (.inr rfl))) (fun _ _ _ _=>dA)
    (fun _ _ _ _=>(pcl tJ j8 hr rfl (ae (pv 0) af)))) af)))))))
    gQ aO)
   (ao (aE (mj (tg:=.Name "word" _) (outer:=ak (cj)) (N:=["text","many","words"]) (N':=["word"]) (nl:=1) (ix:=[]) rfl rfl rfl (dy (pv 2))
    (fun _ _ _ _=>(aA (i:=0) gN rfl (.inl rfl) (.inr rfl))) (fun _ _ _ _=>dA)
    (fun _ _ _ _=>(aR yu rfl df (by decide +kernel) (ae (pv 0) af)))))))),?_⟩
  have lim:1000000<=sizeLine:=by decide
  have len:(Txt.join cBl zs).length<=1000:=by
   have h:=cf cBl zs;have c1:cBl.length=1:=by rw [cm];rfl
   have hs:(zs.map (·.length)).sum<=9 * zs.length:=by
    have:∀ l:List Str,(∀ z∈l,z.length<=9)->(l.map (·.length)).sum<=9 * l.length:=fun l=>by
     induction l with
     | nil=>intro _;simp
     | cons z r ih =>
      intro hz;have:=hz z aeX;have:=ih fun y hy=>hz y (aeW _ hy);rw [afl,agC,afn];lia
    refine this zs fun z hz=>?_;obtain⟨i,e⟩:=afO.mp hz;have hi:i < zs.length:=(aeZ.mp e).1;exact (ok i z _ e (aeS (by lia))).l9
   rw [c1] at h;lia
  have sj:Txt.split (Txt.join cBl zs) cBl=zs:=by
   rw [cm];refine jG ne fun z hz hc=>?_;obtain⟨i,e⟩:=afO.mp hz;have hi:i < zs.length:=(aeZ.mp e).1;have:=((ok i z _ e (aeS (by lia))).dg 32 hc).1;lia
  refine⟨_,rfl,rfl,_,cBl,rfl,rfl,by rw [cm];rfl,by lia,fun l nl=>?_⟩;rw [sj];have s1:Same H (upd H l (.lst (zs.map V.str))):=aj nl;have e1:(upd H l (.lst (zs.map V.str))) l=some (.lst (zs.map V.str)):=ag;generalize upd H l (.lst (zs.map V.str))=H1 at *;refine⟨_,rfl,l,_,rfl,.inl (aAA e1),_,rfl,rfl,false,?_,?_⟩
  ·rw [aeT];simp
  refine km ?_;dsimp only [o8,wt,adV,tB,tCB,aJ,cu];refine bM _ _ _ _ _ _ _ _ _ ?_;refine⟨_,rfl,l,rfl,⟨_,aAA e1⟩,?_⟩;intro D nD;refine gc (xs:=zs.map V.str) (fun i ys H2=>ys=(List.replicate i true).map V.bl/\i<=1000/\H2 D=some (.lst ys)/\Same H1 H2) ⟨rfl,by decide,ag,aj nD⟩ (fun i ys H2 ⟨_,_,h,_⟩=>h) (fun i ys H2 ⟨_,_,_,sm⟩=>aAA (sm l _ e1)) ?_ ?_
  ·rintro i ys H2 x hx ⟨rfl,hi0,hD2,sm⟩;have hi:i < (zs.map V.str).length:=(aeZ.mp hx).1;have hi':i < zs.length:=by rw [aeT] at hi;exact hi
   rw [afg,aeS hi'] at hx;cases hx;refine cJ rfl ?_;refine⟨_,rfl,zs[i],_,rfl,ok i _ _ (aeS hi') (aeS (by lia)),fun H3 s3=>?_⟩;refine⟨s3 D _ hD2,by rw [aeT,aft];exact bZ (by lia),nx hi ⟨?_,by lia,ag,fun b u e=>?_⟩⟩
   ·rw [agD,afe];rfl
   ·rw [ax (ai e nD)];exact s3 b u (sm b u e)
  ·rintro ys H2 ⟨rfl,_,hD2,sm⟩;refine⟨D,List.replicate (zs.map V.str).length true,rfl,aAA hD2,?_⟩;rw [show (List.replicate (zs.map V.str).length true).all id=true by simp];refine⟨true,rfl,km ?_⟩;refine bM _ _ _ _ _ _ _ _ _ ?_;have e12:=sm _ _ e1;refine⟨_,rfl,l,rfl,⟨_,aAA e12⟩,?_⟩;intro D2 nD2;refine qk (F:=fun x=>match x with | .str z=>V.int ((intText? z).getD 0) | y=>y) e12 nD2 (by rw [aeT];lia) (fun x=>rfl) (fun G x R hx sG r=>?_) (fun H3 s3 hD3=>?_)
   ·obtain⟨z,hz,rfl⟩:=ai1.mp hx;obtain⟨i,e⟩:=afO.mp hz;have hi:i < zs.length:=(aeZ.mp e).1;have o:=ok i z _ e (aeS (by lia));refine⟨_,rfl,z,_,rfl,o.rd,by have:=o.l9;lia,?_⟩;dsimp only at r;rw [o.rd] at r;exact r
   ·refine q D2 H3 (s1.trans (sm.trans s3)) (s1.free (sm.free nD2)) ?_;rw [hD3,ahh];congr 2;refine ais fun i=>?_;rw [afg,afg];by_cases hi:i < zs.length
    ·rw [aeS hi,aeS (show i < ns.length by lia)];have o:=ok i _ _ (aeS hi) (aeS (show i < ns.length by lia));show some (V.int ((intText? zs[i]).getD 0))=_;rw [o.rd];rfl
    ·rw [ahL (by lia),ahL (by lia)];rfl
theorem z8 {f:Addr}{fd:FuncData}(F:Fun K "show_numbers" "show_numbers" dj f fd)(eS:mg "str" = none):FnOk P w K mg base CX0 1 f fd ["numbers"] tu:=by
 refine F.ok oN (fun vs H Q E h=>?_) (fun cdv A outer s H vs Q E hr h=>?_)
 ·obtain⟨a,ns,rfl,_⟩:=h
  rfl
 ·obtain⟨a,ns,rfl,ha,hl,hn,q⟩:=h;refine⟨_,(ao (aE (mD (qi (pv 0) (by intro _;rfl)) (dz afi afE afF fz au (ae (mj (tg:=.Name "number" _) (outer:=ak (dj)) (N:=["numbers"]) (N':=["number"]) (nl:=1) (ix:=[]) rfl rfl rfl (dy (pv 0))
   (fun _ _ _ _=>(aA (i:=0) kY rfl (.inl rfl) (.inr rfl))) (fun _ _ _ _=>dA)
   (fun _ _ _ _=>(aR cg rfl eS (by decide +kernel) (ae (pv 0) af)))) af)) au))),?_⟩
  have lim:1000000<=sizeLine:=by decide
  refine⟨_,rfl,!(ns.map fun (n:Nat)=>V.int (n:Int)).isEmpty,.inl ⟨_,aAA ha,rfl⟩,?_⟩;by_cases e:ns=[]
  ·subst e;refine km ?_;have z:=q H (Same.refl H);unfold kx at z;rw [if_pos rfl] at z;exact z
  ·rw [show (!(ns.map fun (n:Nat)=>V.int (n:Int)).isEmpty)=true by cases ns with | nil=>exact absurd rfl e | cons _ _=>rfl];refine kW ?_;refine⟨rfl,?_⟩;dsimp only [aJ,cu];refine bM _ _ _ _ _ _ _ _ _ ?_;refine⟨_,rfl,a,rfl,⟨_,aAA ha⟩,?_⟩;intro D nD;refine qk (F:=fun x=>match x with | .int i=>V.str (Str.ofString (toString i)) | y=>y) ha nD (by rw [aeT];lia) (fun x=>rfl) (fun G x R hx sG r=>?_) (fun H2 s2 hD=>?_)
   ·obtain⟨n,hn',rfl⟩:=ai1.mp hx;have hb:=hn n hn';refine⟨_,rfl,(n:Int),rfl,?_,r⟩;rw [agZ];rcases age n with z | z
    ·rw [z];decide
    ·exact ae9 ((ah2 (by lia)).mpr (ae9 hb (by decide:1000000000<=2 ^ 30))) (by decide)
   ·have hD':H2 D=some (.lst ((ns.map eI).map V.str)):=by rw [hD,ahh,ahh];rfl
    have z:=q H2 s2;unfold kx at z;rw [if_neg e] at z;refine⟨cBl,D,ns.map eI,rfl,rfl,aAA hD',?_,z⟩;have c1:cBl.length=1:=by rw [cm];rfl
    have hs:((ns.map eI).map (·.length)).sum<=9 * ns.length:=by
     have:∀ l:List Nat,(∀ n∈l,n < 1000000000)->((l.map eI).map (·.length)).sum<=9 * l.length:=fun l=>by
      induction l with
      | nil=>intro _;simp
      | cons n r ih =>
       intro hz;have:=(lZ (hz n aeX)).l9;have:=ih fun y hy=>hz y (aeW _ hy);rw [afl,afl,agC,afn];lia
     exact this ns hn
    rw [c1,aeT];lia
def wrK (ks:List Str):Str:=if ks=[] then cDa else Txt.join cBl ks
theorem tU {k:Str}{c:Nat}(h:aP k)(hc:c < 97):c ∉ k.cps.toList:=fun m=>by have:=(h.2.2 c m).1;lia
theorem aaI {ks:List Str}(h:∀ k∈ks,aP k)(ne:ks≠[]):Txt.join cBl ks≠cDa/\Txt.split (Txt.join cBl ks) cBl=ks:=by
 have e:Txt.split (Txt.join cBl ks) cBl=ks:=by rw [cm];exact jG ne fun k hk=>tU (h k hk) (by decide)
 refine⟨fun z=>?_,e⟩;rw [z] at e;have e':Txt.split cDa cBl=[cDa]:=by decide +kernel
 rw [e'] at e;have:=(h cDa (by rw [← e];exact List.mem_singleton_self _)).2.2 45 (by decide +kernel);lia
theorem lY {ks:List Str}(h:∀ k∈ks,aP k):(wrK ks).length<=5 * ks.length+1:=by
 unfold wrK;split
 ·have:cDa.length=1:=by decide +kernel
  lia
 ·have a:=cf cBl ks;have b:=bF h;have c1:cBl.length=1:=by rw [cm];rfl
  rw [c1] at a;lia
def uW:Sp:=fun vs H Q _=>∃ ks:List Str,vs=[.str (wrK ks)]/\(∀ k∈ks,aP k)/\ks.length<=400/\∀ l,H l=none->Q (.ref l) (upd H l (.lst (ks.map V.str)))
def tF:Sp:=fun vs H Q _=>∃ ks:List Str,vs=[.str (wrK ks)]/\(∀ k∈ks,aP k)/\ks.length<=400/\∀ l H',H l=none->Same H H'->H' l=some (.lst (ks.map V.str))->Q (.ref l) H'
def yG:Sp:=fun vs H Q _=>∃ ls:List Str,vs=[.str (Txt.join cPl ls)]/\(∀ k∈ls,aP k)/\1<=ls.length/\ls.length<=4/\∀ l H',H l=none->Same H H'->H' l=some (.lst ((bR ls).map V.str))->Q (.ref l) H'
theorem p6:az ["text"] ["text"] (ak iF):=scM rfl rfl rfl rfl (by decide +kernel)
theorem lU:az ["text","keys"] ["text"] (ak jq):=scM rfl rfl rfl rfl (by decide +kernel)
theorem kM:az ["text","locks"] ["text"] (ak iE):=scM rfl rfl rfl rfl (by decide +kernel)
theorem yo {f:Addr}{fd:FuncData}(F:Fun K "split_keys" "split_keys" iF f fd):FnOk P w K mg base CX0 1 f fd ["text"] uW:=by
 refine F.ok p6 (fun vs H Q E h=>?_) (fun cdv A outer s H vs Q E hr h=>?_)
 ·obtain⟨ks,rfl,_⟩:=h
  rfl
 ·obtain⟨ks,rfl,kk,kl,q⟩:=h;refine⟨_,(ao (aE (mD (aT kF (pv 0) au (aS _)) eJ (dz afi ahw ahx qu (pv 0) (ae au af))))),?_⟩;have len:=lY kk;refine⟨_,rfl,rfl,_,rfl,?_⟩;by_cases e:ks=[]
  ·subst e;have es:wrK []=cDa:=by unfold wrK;rw [if_pos rfl]
   rw [es];exact kW ⟨afh _,fun l nl=>q l nl⟩
  ·have rd:=aaI kk e;have es:wrK ks=Txt.join cBl ks:=by unfold wrK;rw [if_neg e]
   rw [es] at len ⊢;refine lJ (fun z=>absurd (by have:=af4 z;injection this) rd.1) (fun _=>?_);refine⟨_,rfl,rfl,_,cBl,rfl,rfl,by rw [cm];rfl,by lia,fun l nl=>?_⟩;rw [rd.2];exact q l nl
theorem zE {f fS fK:Addr}{fd fdS fdK:FuncData}(F:Fun K "read_keys" "read_keys" jq f fd)(qL:FnOk P w K mg base CX0 1 fS fdS ["text"] uW)(jk:Cal K mg "split_keys" ["text"] fS fdS)(t5:FnOk P w K mg base CX0 2 fK fdK ["thing"] nX)(dN:Cal K mg "are_kinds" ["thing"] fK fdK):FnOk P w K mg base CX0 3 f fd ["text"] tF:=by
 refine F.ok lU (fun vs H Q E h=>?_) (fun cdv A outer s H vs Q E hr h=>?_)
 ·obtain⟨ks,rfl,_⟩:=h
  rfl
 ·obtain⟨ks,rfl,kk,kl,q⟩:=h;refine⟨_,(ah (aL (i:=1) lU.nd rfl (.inl rfl) (pcl qL jk (hr.mono (by decide:1<=2)) rfl (ae (pv 0) af)))
   (ah (bO (dq (eN (pcl t5 dN hr rfl (ae (pv 1) af))))
    gQ aO)
   (ao (aE (pv 1))))),?_⟩
  refine⟨_,rfl,ks,rfl,kk,kl,fun l nl=>?_⟩;have s1:Same H (upd H l (.lst (ks.map V.str))):=aj nl;have e1:(upd H l (.lst (ks.map V.str))) l=some (.lst (ks.map V.str)):=ag;generalize upd H l (.lst (ks.map V.str))=H1 at *;refine⟨_,rfl,l,ks,rfl,e1,kk,by lia,fun H2 s2=>⟨true,rfl,km ?_⟩⟩;exact⟨_,rfl,q l H2 nl (s1.trans s2) (s2 _ _ e1)⟩
theorem yj {f fL:Addr}{fd fdL:FuncData}(F:Fun K "read_locks" "read_locks" iE f fd)(tS:FnOk P w K mg base CX0 3 fL fdL ["thing"] tG)(hJ:Cal K mg "are_locks" ["thing"] fL fdL)(aW:mg "sorted" = none):FnOk P w K mg base CX0 4 f fd ["text"] yG:=by
 refine F.ok kM (fun vs H Q E h=>?_) (fun cdv A outer s H vs Q E hr h=>?_)
 ·obtain⟨ls,rfl,_⟩:=h
  rfl
 ·obtain⟨ls,rfl,kk,l1,l4,q⟩:=h;refine⟨_,(ah (aL (i:=1) kM.nd rfl (.inl rfl) (av hG rfl aW ag3 (ae (dz afi ahw ahx qu (pv 0) (ae au af)) af)))
   (ah (bO (dq (eN (pcl tS hJ hr rfl (ae (pv 1) af))))
    gQ aO)
   (ao (aE (pv 1))))),?_⟩
  have a:=cf cPl ls;have b:=bF kk;have c1:cPl.length=1:=by rw [gU];rfl
  rw [c1] at a;have ne:ls≠[]:=fun z=>by rw [z] at l1;simp at l1
  have e:Txt.split (Txt.join cPl ls) cPl=ls:=by rw [gU];exact jG ne fun k hk=>tU (kk k hk) (by decide)
  refine⟨_,rfl,rfl,_,cPl,rfl,rfl,by rw [gU];rfl,by lia,fun l nl=>?_⟩;rw [e];have s1:Same H (upd H l (.lst (ls.map V.str))):=aj nl;have e1:(upd H l (.lst (ls.map V.str))) l=some (.lst (ls.map V.str)):=ag;generalize upd H l (.lst (ls.map V.str))=H1 at *;refine⟨l,ls,rfl,aAA e1,by lia,fun l2 ss' n2 pm so=>?_⟩;have es:=tI pm so;subst es;have s2:Same H1 (upd H1 l2 (.lst ((bR ls).map V.str))):=aj n2;have e2:(upd H1 l2 (.lst ((bR ls).map V.str))) l2=some (.lst ((bR ls).map V.str)):=ag;generalize upd H1 l2 (.lst ((bR ls).map V.str))=H2 at *;have sl:=fV ls;refine⟨_,rfl,l2,bR ls,rfl,e2,fun k hk=>kk k (sortS_mem.mp hk),by lia,by lia,jE ls,fun H3 s3=>⟨true,rfl,km ?_⟩⟩;exact⟨_,rfl,q l2 H3 (s1.free n2) (s1.trans (s2.trans s3)) (s3 _ _ e2)⟩
def qy (s:Stmt):List Stmt:=match s with
 | .ClassDef _ _ _ b _ _ _ _ _ _ _=>b
 | _=>[]
abbrev iN:Stmt:=(qy (top 105)).getD 0 (.Pass ⟨0,0,0,0⟩)
abbrev gZ:Stmt:=(qy (top 105)).getD 1 (.Pass ⟨0,0,0,0⟩)
abbrev dJ:Stmt:=(qy (top 105)).getD 2 (.Pass ⟨0,0,0,0⟩)
abbrev b5:Stmt:=(qy (top 11)).getD 0 (.Pass ⟨0,0,0,0⟩)
structure kK (K:PySem.W.Frag)(C:Addr):Prop where
 cls:Cls K C
 n1:NoAttr K C "house"
 n2:NoAttr K C "worths"
 n3:NoAttr K C "gone"
abbrev fs3 (v:V)(w g:Addr):List (Str×V):=[("house",v),("worths",.ref w),("gone",.ref g)]
def aQ (ns:List Nat):List V:=ns.map fun (n:Nat)=>V.int (n:Int)
inductive DeskAt (C:Addr)(H:Hp)(d wA:Addr)(h:Hs)(g:List Nat):Prop
 | mk (dx gA:Addr) (v:V) (ws:List V):H d=some (.ins C dx (fs3 v wA gA))->HouseAt (hid [d,wA] H) v h->H wA=some (.lst ws)->ws.length=h.2.length->hid [d,wA] H gA=some (.lst (aQ g))->DeskAt C H d wA h g
theorem DeskAt.same {C:Addr}{H H':Hp}{d wA:Addr}{h:Hs}{g:List Nat}(x:DeskAt C H d wA h g)(s:Same H H'):DeskAt C H' d wA h g:=by
 obtain⟨dx,gA,v,ws,h1,h2,h3,h4,h5⟩:=x;have s':Same (hid [d,wA] H) (hid [d,wA] H'):=ox fun b u _ e=>s b u e;exact⟨dx,gA,v,ws,s _ _ h1,h2.same s',s _ _ h3,h4,s' _ _ h5⟩
theorem DeskAt.all {C:Addr}{S:List Addr}{H:Hp}{d wA:Addr}{h:Hs}{g:List Nat}(x:DeskAt C (hid S H) d wA h g):DeskAt C H d wA h g:=x.same gp
def Bar (d wA:Addr)(H H':Hp):Prop:=∀ b u,b≠d->b≠wA->H b=some u->H' b=some u
def InH (S:List Addr)(H:Hp):Prop:=∀ b∈S,∃ u,H b=some u
def jQ (C:Addr)(ans:Hs->List Nat->Str)(ok:Hs->List Nat->Prop):Sp:=fun vs H Q _=>∃ (d wA:Addr) (h:Hs) (g:List Nat),vs=[.ref d]/\DeskAt C H d wA h g/\ok h g/\∀ H',Same H H'->Q (.str (ans h g)) H'
def kX (C:Addr):Sp:=fun vs H Q _=>∃ (d dx:Addr) (fs:List (Str×V)),vs=[.ref d]/\H d=some (.ins C dx fs)/\(fs=[]\/∃ v w g,fs=fs3 v w g)/\∀ H' wA,(∀ b u,b≠d->H b=some u->H' b=some u)->H wA=none->DeskAt C H' d wA ([],[]) []->(∀ S,InH S H->d ∉ S->DeskAt C (hid S H') d wA ([],[]) [])->Q .non H'
theorem yH {b x y:Addr}(h1:b≠x)(h2:b≠y):b ∉ [x,y]:=fun z=>by
 rcases aeY.mp z with e | e
 ·exact h1 e
 ·exact h2 (ae1.mp e)
theorem InH.off {S:List Addr}{H:Hp}{b:Addr}(x:InH S H)(n:H b=none):b ∉ S:=fun z=>by
 obtain⟨u,e⟩:=x b z;rw [n] at e;cases e
theorem aaG {C:Addr}{H:Hp}{S:List Addr}{d dx wA gA t l1 l2:Addr}(hd:H d=some (.ins C dx (fs3 (.ref t) wA gA)))(ht:H t=some (.tup [.ref l1,.ref l2]))(h1:H l1=some (.lst []))(h2:H l2=some (.lst []))(hw:H wA=some (.lst []))(hg:H gA=some (.lst []))
 (nS:∀ b∈[d,wA,gA,t,l1,l2],b ∉ S)(w1:l1≠wA)(w2:l2≠wA)(wg:gA≠wA):DeskAt C (hid S H) d wA ([],[]) []:=by
 have nd:∀ {b xs},H b=some (.lst xs)->b≠d:=fun e z=>by rw [z,hd] at e;cases e
 have tw:t≠wA:=fun z=>by rw [z,hw] at ht;cases ht
 have td:t≠d:=fun z=>by rw [z,hd] at ht;cases ht
 have i:∀ b∈[d,wA,gA,t,l1,l2],∀ u,H b=some u->hid S H b=some u:=fun b hb u e=>aG (nS b hb) e;refine⟨dx,gA,.ref t,[],i d (by simp) _ hd,⟨t,l1,l2,[],rfl,aG (yH td tw) (i t (by simp) _ ht),aG (yH (nd h1) w1) (i l1 (by simp) _ h1),aG (yH (nd h2) w2) (i l2 (by simp) _ h2),.nil⟩,i wA (by simp) _ hw,rfl,aG (yH (nd hg) wg) (i gA (by simp) _ hg)⟩
theorem qF:az ["self"] ["self"] (ak gZ):=scM rfl rfl rfl rfl (by decide +kernel)
theorem sL:az ["self"] ["self"] (ak iN):=scM rfl rfl rfl rfl (by decide +kernel)
theorem tD:az ["desk"] ["desk"] (ak kh):=scM rfl rfl rfl rfl (by decide +kernel)
theorem rH:az ["desk"] ["desk"] (ak jn):=scM rfl rfl rfl rfl (by decide +kernel)
theorem pY:az ["desk"] ["desk"] (ak iq):=scM rfl rfl rfl rfl (by decide +kernel)
theorem qO:az ["desk"] ["desk"] (ak jc):=scM rfl rfl rfl rfl (by decide +kernel)
theorem zK {f C:Addr}{fd:FuncData}(F:Fun K "begin" "Desk.begin" gZ f fd)(DC:kK K C):FnOk P w K mg base CX0 1 f fd ["self"] (kX C):=by
 refine F.ok qF (fun vs H Q E h=>?_) (fun cdv A outer s H vs Q E hr h=>?_)
 ·obtain⟨d,dx,fs,rfl,_⟩:=h
  rfl
 ·obtain⟨d,dx,fs,rfl,hd,hf,q⟩:=h;refine⟨_,(ah (jV (pv 0) adT rfl)
   (ah (jV (pv 0) eJ rfl)
   (ao (jV (pv 0) eJ rfl)))),?_⟩
  try dsimp only [gL,Cx.nox]
  have fl:fs.length<=3:=by
   rcases hf with rfl | ⟨v,w,g,rfl⟩
   ·exact afh _
   ·exact ae4 _
  have lim:3 < 1000:=by decide
  refine⟨afh _,fun l1 n1=>⟨afh _,fun l2 n2=>⟨by show 2<=sizeLine;decide,fun t nt=>?_⟩⟩⟩;have s1:Same H (upd H l1 (.lst [])):=aj n1;have e1:(upd H l1 (.lst [])) l1=some (.lst []):=ag;generalize upd H l1 (.lst [])=H1 at *;have s2:Same H1 (upd H1 l2 (.lst [])):=aj n2;have e2:(upd H1 l2 (.lst [])) l2=some (.lst []):=ag;generalize upd H1 l2 (.lst [])=H2 at *;have s3:Same H2 (upd H2 t (.tup [.ref l1,.ref l2])):=aj nt;have e3:(upd H2 t (.tup [.ref l1,.ref l2])) t=some (.tup [.ref l1,.ref l2]):=ag;have S3:Same H (upd H2 t (.tup [.ref l1,.ref l2])):=s1.trans (s2.trans s3);generalize upd H2 t (.tup [.ref l1,.ref l2])=H3 at *;have hd3:=S3 _ _ hd;refine⟨_,rfl,d,C,dx,fs,rfl,hd3,DC.cls,DC.n1,by lia,?_⟩;have dn:∀ {b u},H3 b=some u->(∀ C dx fs,u≠.ins C dx fs)->b≠d:=fun e n z=>by rw [z,hd3] at e;cases e;exact n _ _ _ rfl
  have f1:=s3 _ _ (s2 _ _ e1);have f2:=s3 _ _ e2;have d1:l1≠d:=dn f1 fun _ _ _ z=>nomatch z;have d2:l2≠d:=dn f2 fun _ _ _ z=>nomatch z;have dt:t≠d:=dn e3 fun _ _ _ z=>nomatch z;have B4:But d H3 (upd H3 d (.ins C dx (iI "house" (.ref t) fs))):=But.upd;have e4:(upd H3 d (.ins C dx (iI "house" (.ref t) fs))) d=some (.ins C dx (iI "house" (.ref t) fs)):=ag;generalize upd H3 d (.ins C dx (iI "house" (.ref t) fs))=H4 at *;refine⟨afh _,fun wA nw=>?_⟩;have s5:Same H4 (upd H4 wA (.lst [])):=aj nw;have e5:(upd H4 wA (.lst [])) wA=some (.lst []):=ag;have wd:wA≠d:=fun z=>by rw [z,e4] at nw;cases nw
  have w1:l1≠wA:=ai (B4 _ _ d1 f1) nw;have w2:l2≠wA:=ai (B4 _ _ d2 f2) nw;generalize upd H4 wA (.lst [])=H5 at *;refine⟨_,rfl,d,C,dx,_,rfl,s5 _ _ e4,DC.cls,DC.n2,by have:=fU "house" (.ref t) fs;lia,?_⟩;have B6:But d H5 (upd H5 d (.ins C dx (iI "worths" (.ref wA) (iI "house" (.ref t) fs)))):=But.upd;have e6:(upd H5 d (.ins C dx (iI "worths" (.ref wA) (iI "house" (.ref t) fs)))) d=some (.ins C dx (iI "worths" (.ref wA) (iI "house" (.ref t) fs))):=ag;generalize upd H5 d (.ins C dx (iI "worths" (.ref wA) (iI "house" (.ref t) fs)))=H6 at *;refine⟨afh _,fun gA ng=>?_⟩;have s7:Same H6 (upd H6 gA (.lst [])):=aj ng;have e7:(upd H6 gA (.lst [])) gA=some (.lst []):=ag;have gd:gA≠d:=fun z=>by rw [z,e6] at ng;cases ng
  have wg:gA≠wA:=(ai (B6 _ _ wd e5) ng).symm;generalize upd H6 gA (.lst [])=H7 at *;refine⟨_,rfl,d,C,dx,_,rfl,s7 _ _ e6,DC.cls,DC.n3,by have:=fU "house" (.ref t) fs;have:=fU "worths" (.ref wA) (iI "house" (.ref t) fs);lia,?_⟩;have B8:But d H7 (upd H7 d (.ins C dx (iI "gone" (.ref gA) (iI "worths" (.ref wA) (iI "house" (.ref t) fs))))):=But.upd;have e8:(upd H7 d (.ins C dx (iI "gone" (.ref gA) (iI "worths" (.ref wA) (iI "house" (.ref t) fs))))) d=some (.ins C dx (fs3 (.ref t) wA gA)):=by
   rw [ag];rcases hf with rfl | ⟨v,w,g,rfl⟩<;>rfl
  generalize upd H7 d (.ins C dx (iI "gone" (.ref gA) (iI "worths" (.ref wA) (iI "house" (.ref t) fs))))=H8 at *;have B38:But d H3 H8:=B4.trans ((ay s5).trans (B6.trans ((ay s7).trans B8)));have nt0:H t=none:=(s1.trans s2).free nt;have nw0:H wA=none:=by
   cases e:H wA with
   | none=>rfl
   | some u=>have:=B4 _ _ wd (S3 _ _ e);rw [nw] at this;cases this
  have ng0:H gA=none:=by
   cases e:H gA with
   | none=>rfl
   | some u=>have:=(B4.trans ((ay s5).trans B6)) _ _ gd (S3 _ _ e);rw [ng] at this;cases this
  have mk:∀ S,InH S H->d ∉ S->DeskAt C (hid S H8) d wA ([],[]) []:=fun S iS dS=>aaG e8 (B38 _ _ dt e3) (B38 _ _ d1 f1) (B38 _ _ d2 f2) (B8 _ _ wd (s7 _ _ (B6 _ _ wd e5))) (B8 _ _ gd e7) (fun b hb=>by
   simp only [aeY,afL,ahc] at hb;rcases hb with rfl | rfl | rfl | rfl | rfl | rfl
   ·exact dS
   ·exact iS.off nw0
   ·exact iS.off ng0
   ·exact iS.off nt0
   ·exact iS.off n1
   ·exact iS.off (s1.free n2)) w1 w2 wg
  exact q H8 wA (fun b u nb e=>B38 b u nb (S3 b u e)) nw0 (mk [] (fun b hb=>nomatch hb) (by simp)).all mk
theorem aaF {f fB C:Addr}{fd fdB:FuncData}(F:Fun K "__init__" "Desk.__init__" iN f fd)(DC:kK K C)(C_Desk:Cls K C)(je:wK K C "begin" fB)(jt:FnOk P w K mg base CX0 1 fB fdB ["self"] (kX C))(iQ:Binds K fdB ["self"] []):FnOk P w K mg base CX0 2 f fd ["self"] (kX C):=by
 refine F.ok sL (fun vs H Q E h=>?_) (fun cdv A outer s H vs Q E hr h=>?_)
 ·obtain⟨d,dx,fs,rfl,_⟩:=h
  rfl
 ·obtain⟨d,dx,fs,rfl,hd,hf,q⟩:=h;refine⟨_,(ao (bW (uT (pv 0) C_Desk je jt hr iQ .nil mn))),?_⟩;refine⟨_,rfl,d,dx,fs,rfl,hd,?_,d,dx,fs,rfl,hd,hf,q⟩;rcases hf with rfl | ⟨v,w,g,rfl⟩<;>rfl
def PutPost (C:Addr)(H:Hp)(d wA:Addr)(h:Hs)(g:List Nat)(h':Hs)(g':List Nat)(k:Hp->Prop):Prop:=∀ H' wA',Bar d wA H H'->(∀ S,InH S H->DeskAt C (hid S H) d wA h g->DeskAt C (hid S H') d wA' h' g')->k H'
def abc (C:Addr):Sp:=fun vs H Q _=>∃ (d wA:Addr) (h:Hs) (g:List Nat),vs=[.ref d]/\DeskAt C H d wA h g/\PutPost C H d wA h g ([],[]) [] fun H'=>Q (.str "ok") H'
theorem DeskAt.notin {C:Addr}{S:List Addr}{H:Hp}{d wA:Addr}{h:Hs}{g:List Nat}(x:DeskAt C (hid S H) d wA h g):d ∉ S/\wA ∉ S:=by
 obtain⟨dx,gA,v,ws,h1,h2,h3,h4,h5⟩:=x;exact⟨(aD h1).1,(aD h3).1⟩
theorem abx {f fB C:Addr}{fd fdB:FuncData}(F:Fun K "put_anew" "put_anew" kh f fd)(DC:kK K C)(C_Desk:Cls K C)(je:wK K C "begin" fB)(jt:FnOk P w K mg base CX0 1 fB fdB ["self"] (kX C))(iQ:Binds K fdB ["self"] []):FnOk P w K mg base CX0 2 f fd ["desk"] (abc C):=by
 refine F.ok tD (fun vs H Q E h=>?_) (fun cdv A outer s H vs Q E hr h=>?_)
 ·obtain⟨d,wA,h,g,rfl,_⟩:=h
  rfl
 ·obtain⟨d,wA,h,g,rfl,da,q⟩:=h;refine⟨_,(ah (bW (uT (pv 0) C_Desk je jt hr iQ .nil mn))
   (ao (aE au))),?_⟩
  obtain⟨dx,gA,v,ws,h1,h2,h3,h4,h5⟩:=da;refine⟨_,rfl,d,dx,_,rfl,h1,rfl,d,dx,_,rfl,h1,.inr ⟨v,wA,gA,rfl⟩,fun H' wA' k nw da' mk=>?_⟩;exact q H' wA' (fun b u n1 n2 e=>k b u n1 e) fun S iS x=>mk S iS x.notin.1
def u9 (h:Hs)(g:List Nat):Prop:=g.length<=1000/\∀ n∈g,n < 1000000000
theorem z4 {f fN C:Addr}{fd fdN:FuncData}(F:Fun K "tell_gone" "tell_gone" jn f fd)(DC:kK K C)(gG:FnOk P w K mg base CX0 1 fN fdN ["numbers"] tu)(b6:Cal K mg "show_numbers" ["numbers"] fN fdN):FnOk P w K mg base CX0 2 f fd ["desk"] (jQ C (fun _ g=>kx g) u9):=by
 refine F.ok rH (fun vs H Q E h=>?_) (fun cdv A outer s H vs Q E hr h=>?_)
 ·obtain⟨d,wA,h,g,rfl,_⟩:=h
  rfl
 ·obtain⟨d,wA,h,g,rfl,da,ok,q⟩:=h;refine⟨_,(ao (aE (pcl gG b6 hr rfl (ae (fu (pv 0) rfl) af)))),?_⟩;obtain⟨dx,gA,v,ws,h1,h2,h3,h4,h5⟩:=da;exact⟨_,rfl,d,C,dx,_,.ref gA,rfl,h1,DC.cls,DC.n3,rfl,gA,g,rfl,(aD h5).2,ok.1,ok.2,q⟩
def uh (h:Hs)(g:List Nat):Prop:=h.2.length<=1000
theorem yI {f C:Addr}{fd:FuncData}(F:Fun K "tell_rooms" "tell_rooms" iq f fd)(DC:kK K C)(eS:mg "str" = none)(br:mg "len" = none):FnOk P w K mg base CX0 1 f fd ["desk"] (jQ C (fun h _=>eI h.2.length) uh):=by
 refine F.ok pY (fun vs H Q E h=>?_) (fun cdv A outer s H vs Q E hr h=>?_)
 ·obtain⟨d,wA,h,g,rfl,_⟩:=h
  rfl
 ·obtain⟨d,wA,h,g,rfl,da,ok,q⟩:=h;refine⟨_,(ao (aE (aR cg rfl eS (by decide +kernel) (ae (av aH rfl br afr (ae (a7 bJ (fu (pv 0) rfl) aq (fun _ _=>rfl)) af)) af)))),?_⟩;obtain⟨dx,gA,v,ws,h1,⟨t,a,r,vs,rfl,ht,ha,hr,hR⟩,h3,h4,h5⟩:=da;have hl:vs.length<=1000:=by rw [hR.1];exact ok
  refine⟨_,rfl,d,C,dx,_,.ref t,rfl,h1,DC.cls,DC.n1,rfl,t,_,1,.ref r,rfl,rfl,aAB (aD ht).2,rfl,r,_,rfl,.inl (aAA (aD hr).2),_,rfl,?_,?_⟩
  ·rw [agZ];rcases age vs.length with z | z
   ·rw [z];decide
   ·exact ae9 ((ah2 (by lia)).mpr (agX hl (by decide:1000 < 2 ^ 10))) (by decide)
  ·rw [hR.1];exact q H (Same.refl H)
def cSe:Str:=Str.ofString "; "
def pV (h:Hs):Str:=Txt.join cSe (bQ h.1::h.2.map eO)
theorem aao {h:Hs}(ok:bC h):Txt.replace (pR h) cNl cSe=pV h:=by
 unfold pV;rw [rX,StrLaws.replace_one,← rX,ad9 ok,ql]
def vH (h:Hs)(g:List Nat):Prop:=sR h/\(pR h).length<=10000/\(pV h).length<=20000
theorem aam {f fH C:Addr}{fd fdH:FuncData}(F:Fun K "tell_show" "tell_show" jc f fd)(DC:kK K C)(rW:FnOk P w K mg base CX0 7 fH fdH ["house"] yl)(eP:Cal K mg "show_house" ["house"] fH fdH):FnOk P w K mg base CX0 8 f fd ["desk"] (jQ C (fun h _=>pV h) vH):=by
 refine F.ok qO (fun vs H Q E h=>?_) (fun cdv A outer s H vs Q E hr h=>?_)
 ·obtain⟨d,wA,h,g,rfl,_⟩:=h
  rfl
 ·obtain⟨d,wA,h,g,rfl,da,⟨hl,l1,l2⟩,q⟩:=h;refine⟨_,(ao (aE (zv rW hr rfl eP.mg eP.kp eP.b mn (pv 0) (by decide +kernel) (by decide) rfl))),?_⟩;obtain⟨dx,gA,v,ws,h1,h2,h3,h4,h5⟩:=da;have lim:20000<=sizeLine:=by decide
  have e:=aao hl.ok;refine⟨_,rfl,d,C,dx,_,v,rfl,h1,DC.cls,DC.n1,rfl,v,h,rfl,h2.same gp,hl,fun H' s'=>⟨pR h,rfl,l1,?_,?_⟩⟩
  ·show (Txt.replace (pR h) cNl cSe).length<=sizeLine;rw [e];lia
  ·show Q (.str (Txt.replace (pR h) cNl cSe)) H';rw [e];exact q H' s'
end
structure FunD (K:PySem.W.Frag)(x qual:Str)(st:Stmt)(T f:Addr)(fd:FuncData):Prop where
 ex:∃ (oc:Value) (od:Option Addr) (kV doc pm:Value) (an:Option Addr) (cdv ct:Value) (osl:Array (Option Value)),
  fd=fnOf x qual (eU st) (b9 st) (ak st) (.ref T) kV doc pm an cdv ct/\K.lookup f=some ⟨oc,od,.func fd,osl⟩/\codeIn K cdv qual=true
 kp:keepIn K (.ref f)=true
theorem fund_mk {K:PySem.W.Frag}{x qual:Str}{st:Stmt}{T f:Addr}{oc:Value}{od an:Option Addr}{osl:Array (Option Value)}{kV doc pm cdv ct:Value}(l:K.lookup f=some ⟨oc,od,.func (fnOf x qual (eU st) (b9 st) (ak st) (.ref T) kV doc pm an cdv ct),osl⟩)
 (c:codeIn K cdv qual=true)(k:keepIn K (.ref f)=true):FunD K x qual st T f (fnOf x qual (eU st) (b9 st) (ak st) (.ref T) kV doc pm an cdv ct):=⟨⟨oc,od,kV,doc,pm,an,cdv,ct,osl,rfl,l,c⟩,k⟩
end K7
namespace L2
open PySem PySem.Spec PyProof.Rows
theorem wz {X:Cx}:iw X (.type "str") (fun xs H Q=>(xs=[.non]\/∃ n:Nat,xs=[.int (n:Int)]/\n < 1000000)/\∀ z,Q (.str z) H):=by
 intro pins s σ H xs us Q I r h;obtain⟨rfl | ⟨n,rfl,hn⟩,q⟩:=h
 ·obtain⟨u,rfl,ru⟩:=kZ r;cases ru;exact PySem.P.str_of_none ⟨.str _,H,I.tok _,⟨_,rfl⟩,q _⟩
 ·obtain⟨u,rfl,t,rfl⟩:=kZ r;refine PySem.P.str_of_int ?_ ⟨.str _,H,I.tok _,⟨_,rfl⟩,q _⟩;rw [agZ];rcases age n with z | z
  ·rw [z];decide
  ·exact ae9 ((ah2 (by lia)).mpr (Nat.lt_trans hn (by decide:1000000 < 2 ^ 20))) (by decide)
end L2
namespace K7
open PySem L2 PyProof.Rows
theorem xr {a b:Str}(h:32 ∉ a.cps.toList):Txt.partition (a++cBl++b) cBl=(a,cBl,b):=by
 have cod:(a++cBl++b).cps.toList=a.cps.toList++([32]++b.cps.toList):=by rw [aV,aV,cm,ae5]
 have el:∀ s:Str,s.length=s.cps.toList.length:=fun s=>afd.symm;have l2:cBl.length=1:=by rw [cm];rfl
 have hat:StrLaws.At (a++cBl++b) cBl (a++cBl++b).length a.length:=by
  refine⟨by rw [l2,el (a++cBl++b),cod,el a];simp,?_⟩;rw [StrLaws.subAt_eq,cod,el a,ahG,l2,cm];simp
 rcases partition_whole (a++cBl++b) cBl with ⟨_,hn⟩ | ⟨i,e,hi,hm⟩
 ·exact absurd hat (hn _)
 ·have i1:i<=a.length:=Nat.le_of_not_lt fun z=>hm _ z hat
  have i2:¬ i < a.length:=fun z=>by
   have hs:=hi.2;rw [StrLaws.subAt_eq,cod,l2,cm,afj,agS (by rw [← el];lia)] at hs;have hl:i < a.cps.toList.length:=by rw [← el];exact z
   rw [afU hl,af3] at hs;injection hs with h1 _
   exact h (h1▸afz hl)
  have ei:i=a.length:=by lia
  subst ei;rw [e];congr 1
  ·refine oH ?_;rw [StrLaws.strSub_toList,afV,ai0,cod,el a,ahb]
  ·congr 1;refine oH ?_;rw [StrLaws.strSub_toList,l2,cod,el (a++cBl++b),cod];have e2:(a.cps.toList++([32]++b.cps.toList)).drop (a.length+1)=b.cps.toList:=by
    rw [← ae5,show a.length+1=(a.cps.toList++[32]).length by rw [aeV,← el];rfl,ahG]
   rw [e2];refine afI ?_;rw [aeV,aeV,← el,← el];show b.length<=a.length+(1+b.length) - (a.length+1);lia
def pZ (C:Addr):Sp:=fun vs H Q _=>∃ (e:Addr) (x:V),vs=[.ref e,x]/\H e=some (wm e C false)/\(x=.non\/∃ n:Nat,x=.int (n:Int)/\n < 1000000)/\Q .non (upd H e (wm e C true))
def yy (cT:Addr):Sp:=fun vs H Q E=>∃ (v:V) (h:Hs),vs=[v,.int 12]/\HouseAt H v h/\bC h/\(h.2.length<=12->∀ H',Same H H'->Q .non H')/\(12 < h.2.length->∀ H',Same H H'->E (.ref cT) none H')
section
variable {P:Program}{w:World}{K:PySem.W.Frag}{mg:Str->Option Value}{base:Heap}
theorem oW:az ["self","at"] ["self","at"] (ak b5):=scM rfl rfl rfl rfl (by decide +kernel)
theorem zS {f cS cK:Addr}{fd:FuncData}{bm:List Value}(F:Fun K "__init__" "NoStep.__init__" b5 f fd)(o:kT K cS f bm)(tp:yR K cK)(gH:mg "KeyroomError" = some (.ref cK))(eS:mg "str" = none)(na:findIn K (.ref cS) "at" = some none):FnOk P w K mg base CX0 1 f fd ["self","at"] (pZ cS):=by
 refine F.ok oW (fun vs H Q E h=>?_) (fun cdv A outer s H vs Q E hr h=>?_)
 ·obtain⟨e,x,rfl,_⟩:=h
  rfl
 ·obtain⟨e,x,rfl,he,hx,q⟩:=h;refine⟨_,(ah (bW (we tp o rfl gH (ae (pv 0) (ae (aR wz rfl eS (by decide +kernel) (ae (pv 1) af)) af)))) (ao (xy o na (pv 0) (pv 1) rfl))),?_⟩;refine⟨_,rfl,_,rfl,?_,fun z=>⟨e,.str z,rfl,he,_,rfl,_,rfl,e,rfl,he,q⟩⟩;rcases hx with rfl | ⟨n,rfl,hn⟩
  ·exact .inl rfl
  ·exact .inr ⟨n,rfl,hn⟩
theorem FunD.okR {x qual:Str}{st:Stmt}{T f:Addr}{fd:FuncData}{N ps:List Str}{k:Nat}{sp:Sp}(F:FunD K x qual st T f fd)(S:az N ps (ak st))(len:∀ vs H Q E,sp vs H Q E->vs.length=ps.length)
 (hbody:∀ (cdv:Value) (A:Around) (outer:List Env) (s:Shared) (H:Hp) (vs:List V) (Q:VK) (E:XK),Room k (A.deeper (envOfC qual (ak st) s.heap.objs.size f cdv))->sp vs H Q E →
  ∃ t,PSs (gL (CXr P w) P w K mg base N qual (ak st) f cdv A outer s H E) (b9 st) t/\t { nx:=fun _ H'=>Q .non H',rt:=Q } (L2.start N vs) H):FnOk P w K mg base (CXr P w) (k+1) f fd ps sp:=by
 obtain⟨oc,od,kV,doc,pm,an,cdv,ct,osl,rfl,lk,hcd⟩:=F.ex;exact acA lk hcd S len fun A outer s H vs Q E hr hsp=>hbody cdv A outer s H vs Q E hr hsp
theorem mh:az ["thing","most"] ["thing","most"] (ak cQ):=scM rfl rfl rfl rfl (by decide +kernel)
theorem acb {T f fQ cT:Addr}{fd fdQ:FuncData}{bmT:List Value}(F:FunD K "require_small" "require_small" cQ T f fd)(bj:FnOk P w K mg base CX0 6 fQ fdQ ["thing"] wj)(aK:Cal K mg "require_house" ["thing"] fQ fdQ)(br:mg "len" = none)(x_TooMany:pq K cT bmT)(nQ:mg "TooMany" = some (.ref cT)):FnOk P w K mg base (CXr P w) 7 f fd ["thing","most"] (yy cT):=by
 refine F.okR mh (fun vs H Q E h=>?_) (fun cdv A outer s H vs Q E hr h=>?_)
 ·obtain⟨v,h,rfl,_⟩:=h
  rfl
 ·obtain⟨v,h,rfl,hh,ok,k1,k2⟩:=h;refine⟨_,(ah (bW (pcl bj aK hr rfl (ae (pv 0) af)))
   (ao (bO (aT zi (av aH rfl br afr (ae (a7 bJ (pv 0) aq (fun _ _=>rfl)) af)) (pv 1) (aS _))
    (ao (qw x_TooMany rfl nQ (ae (abI (pv 1) (by decide) (by decide)) af))) aO))),?_⟩
  refine⟨_,rfl,v,h,rfl,hh,ok,fun H1 s1=>?_⟩;obtain⟨t,a,r,vs,rfl,ht,ha,hrr,hR⟩:=hh.same s1;refine⟨_,rfl,t,_,1,.ref r,rfl,rfl,aAB ht,rfl,r,_,rfl,.inl (aAA hrr),_,rfl,_,12,rfl,rfl,_,rfl,?_⟩;have hl:=hR.1;refine lJ (fun z=>?_) (fun z=>?_)
  ·have z':=af4 z;exact⟨_,rfl,12,rfl,by decide,fun tx=>⟨by show 1<=sizeLine;decide,k2 (by lia) H1 s1⟩⟩
  ·exact k1 (by have:=ahq (agI.mpr z);lia) H1 s1
theorem wq {T f:Addr}{fd:FuncData}{oc d:Value}{od:Option Addr}{n:Nat}{sl:Array (Option Value)}(F:FunD K "require_small" "require_small" cQ T f fd)(hT:K.lookup T=some ⟨oc,od,.seq #[d] n,sl⟩):Binds K fd ["thing","most"] [d]:=by
 obtain⟨_,_,kV,doc,pm,an,cdv,ct,osl,rfl,lk,hcd⟩:=F.ex;intro s us KX hl;have l1:us.length=1:=by simpa using hl
 match us,l1 with
 | [x],_=>exact BindsTo.of_defaults rfl (KX _ _ hT) rfl rfl rfl
theorem qx {S:List Addr}{d wA wA':Addr}{H H':Hp}(B:Bar d wA H H')(n:wA'=wA\/H wA'=none):Same (hid [d,wA] (hid S H)) (hid [d,wA'] (hid S H')):=fun b u e=>by
 obtain⟨n1,e1⟩:=aD e;obtain⟨n2,e2⟩:=aD e1;have bd:b≠d:=fun z=>n1 (by rw [z];exact aeX);have bw:b≠wA:=fun z=>n1 (by rw [z];exact aeW _ aeX);refine aG (yH bd fun z=>?_) (aG n2 (B b u bd bw e2));rcases n with q | q
 ·exact bw (z.trans q)
 ·rw [z,q] at e2;cases e2
def aa0 (C:Addr):Sp:=fun vs H Q _=>∃ (d wA:Addr) (h:Hs) (g:List Nat) (ks:List Str),vs=[.ref d,.str (wrK ks)]/\DeskAt C H d wA h g/\(∀ k∈ks,aP k)/\ks.length<=400/\PutPost C H d wA h g (ks,h.2) [] fun H'=>Q (.str "ok") H'
theorem tV:az ["desk","rest"] ["desk","rest"] (ak kn):=scM rfl rfl rfl rfl (by decide +kernel)
theorem abh {f fR C:Addr}{fd fdR:FuncData}(F:Fun K "put_keys" "put_keys" kn f fd)(DC:kK K C)(ki:FnOk P w K mg base CX0 3 fR fdR ["text"] tF)(d5:Cal K mg "read_keys" ["text"] fR fdR):FnOk P w K mg base CX0 4 f fd ["desk","rest"] (aa0 C):=by
 refine F.ok tV (fun vs H Q E h=>?_) (fun cdv A outer s H vs Q E hr h=>?_)
 ·obtain⟨d,wA,h,g,ks,rfl,_⟩:=h
  rfl
 ·obtain⟨d,wA,h,g,ks,rfl,da,kk,kl,q⟩:=h;refine⟨_,(ah (jV (pv 0) (cC (ae (pcl ki d5 hr rfl (ae (pv 1) af)) (ae (a7 bJ (fu (pv 0) rfl) aq (fun _ _=>rfl)) af))) rfl)
   (ah (jV (pv 0) eJ rfl)
   (ao (aE au)))),?_⟩
  obtain⟨dx,gA,v,ws,h1,⟨t0,a0,r0,vs0,rfl,ht,ha,hrr,hR⟩,h3,h4,h5⟩:=da;refine⟨_,rfl,ks,rfl,kk,kl,fun l H1 nl s1 hl=>?_⟩;refine⟨_,rfl,d,C,dx,_,.ref t0,rfl,s1 _ _ h1,DC.cls,DC.n1,rfl,t0,_,1,.ref r0,rfl,rfl,aAB (s1 _ _ (aD ht).2),rfl,by show 2<=sizeLine;decide,fun t nt=>?_⟩;have s2:Same H1 (upd H1 t (.tup [.ref l,.ref r0])):=aj nt;have e2:(upd H1 t (.tup [.ref l,.ref r0])) t=some (.tup [.ref l,.ref r0]):=ag;have S2:=s1.trans s2;generalize upd H1 t (.tup [.ref l,.ref r0])=H2 at *;refine⟨_,rfl,d,C,dx,_,rfl,S2 _ _ h1,DC.cls,DC.n1,by show 3 < 1000;decide,?_⟩;have B3:But d H2 (upd H2 d (.ins C dx (fs3 (.ref t) wA gA))):=But.upd;have e3:(upd H2 d (.ins C dx (fs3 (.ref t) wA gA))) d=some (.ins C dx (fs3 (.ref t) wA gA)):=ag
  change sU _ _ _ _ (upd H2 d (.ins C dx (fs3 (.ref t) wA gA)))
  generalize upd H2 d (.ins C dx (fs3 (.ref t) wA gA))=H3 at *;refine⟨afh _,fun g2 n2=>?_⟩;have s4:Same H3 (upd H3 g2 (.lst [])):=aj n2;have e4:(upd H3 g2 (.lst [])) g2=some (.lst []):=ag;have gd:g2≠d:=fun z=>by rw [z,e3] at n2;cases n2
  generalize upd H3 g2 (.lst [])=H4 at *;refine⟨_,rfl,d,C,dx,_,rfl,s4 _ _ e3,DC.cls,DC.n3,by show 3 < 1000;decide,?_⟩;have B5:But d H4 (upd H4 d (.ins C dx (fs3 (.ref t) wA g2))):=But.upd;have e5:(upd H4 d (.ins C dx (fs3 (.ref t) wA g2))) d=some (.ins C dx (fs3 (.ref t) wA g2)):=ag;show Q _ (upd H4 d (.ins C dx (fs3 (.ref t) wA g2)));generalize upd H4 d (.ins C dx (fs3 (.ref t) wA g2))=H5 at *;have B25:But d H2 H5:=B3.trans ((ay s4).trans B5);have ld:l≠d:=fun z=>by rw [z,h1] at nl;cases nl
  have nt0:H t=none:=s1.free nt;have td:t≠d:=fun z=>by rw [z,h1] at nt0;cases nt0
  have lw:l≠wA:=fun z=>by rw [z,h3] at nl;cases nl
  have tw:t≠wA:=fun z=>by rw [z,h3] at nt0;cases nt0
  have wd:wA≠d:=fun z=>by rw [z,h1] at h3;cases h3
  have ng0:H g2=none:=by
   cases e:H g2 with
   | none=>rfl
   | some u=>have:=B3 _ _ gd (S2 _ _ e);rw [n2] at this;cases this
  have gw:g2≠wA:=fun z=>by rw [z,h3] at ng0;cases ng0
  have Br:Bar d wA H H5:=fun b u n1 _ e=>B25 b u n1 (S2 b u e);refine q H5 wA Br fun S iS x=>?_;obtain⟨dx',gA',v',ws',x1,x2,x3,x4,x5⟩:=x;have x1':=(aD x1).2;rw [h1] at x1';cases x1';obtain⟨t',a',r',vs',ev,y1,y2,y3,y4⟩:=x2;cases ev;have k:=qx (S:=S) (wA':=wA) Br (.inl rfl);have y1':=(aD (aD y1).2).2;rw [(aD ht).2] at y1';cases y1';have nS:=x1;refine⟨dx,g2,.ref t,ws',aG (aD x1).1 e5,⟨t,l,r0,vs',rfl,aG (yH td tw) (aG (iS.off nt0) (B25 _ _ td e2)),aG (yH ld lw) (aG (iS.off nl) (B25 _ _ ld (s2 _ _ hl))),k _ _ y3,y4.same k⟩,aG (aD x3).1 (B25 _ _ wd (S2 _ _ (aD x3).2)),x4,aG (yH gd gw) (aG (iS.off ng0) (B5 _ _ gd e4))⟩
def aba (C cT:Addr):Sp:=fun vs H Q E=>∃ (d wA:Addr) (h:Hs) (g:List Nat) (ls ks:List Str),vs=[.ref d,.str (Txt.join cPl ls++cBl++wrK ks)]/\DeskAt C H d wA h g/\bC h/\h.2.length<=12/\(∀ k∈ls,aP k)/\1<=ls.length/\ls.length<=4/\(∀ k∈ks,aP k)/\ks.length<=400 ∧
 (h.2.length < 12->PutPost C H d wA h g (h.1,h.2++[(bR ls,ks)]) [] fun H'=>Q (.str "ok") H')/\(h.2.length=12->∀ H',Same H H'->E (.ref cT) none H')
theorem xI {k n:Nat}(h:k < n):ixN n (k:Int)=some k:=by
 unfold ixN;rw [if_pos (by lia),if_pos (by lia),afu]
theorem qa {H:Hp}{e:Addr}{o u:HO}(n:H e=none):Same H (rem (upd (upd H e o) e u) e):=fun b x g=>by
 have nb:b≠e:=ai g n;rw [uG nb,ax nb,ax nb];exact g
theorem cw:az ["desk","rest","locks","blank","within","room","keys","rooms","house"] ["desk","rest"] (ak kg):=scM rfl rfl rfl rfl (by decide +kernel)
theorem js:az ["desk","rest","number","worth"] ["desk","rest"] (ak i9):=scM rfl rfl rfl rfl (by decide +kernel)
theorem abY {f fL fR fS C cT:Addr}{fd fdL fdR fdS:FuncData}{tk:Tok}(F:Fun K "put_room" "put_room" kg f fd)(DC:kK K C)(ki:FnOk P w K mg base CX0 3 fR fdR ["text"] tF)(d5:Cal K mg "read_keys" ["text"] fR fdR)(rO:FnOk P w K mg base CX0 4 fL fdL ["text"] yG)(jl:Cal K mg "read_locks" ["text"] fL fdL)
 (oP:FnOk P w K mg base (CXr P w) 7 fS fdS ["thing","most"] (yy cT))(mS:mg "require_small" = some (.ref fS))(kS:keepIn K (.ref fS)=true)(bS:Binds K fdS ["thing","most"] [.int 12 tk]):FnOk P w K mg base (CXr P w) 8 f fd ["desk","rest"] (aba C cT):=by
 refine F.okR cw (fun vs H Q E h=>?_) (fun cdv A outer s H vs Q E hr h=>?_)
 ·obtain⟨d,wA,h,g,ls,ks,rfl,_⟩:=h
  rfl
 ·obtain⟨d,wA,h,g,ls,ks,rfl,da,hok,h12,lk,l1,l4,kk,kl,q1,q2⟩:=h;refine⟨_,(ah (gv (dz afi ah8 ah9 lE (pv 1) (ae au af)) (gz rfl (aM (aA (i:=2) cw.nd rfl (.inl rfl)) (aM (aA (i:=3) cw.nd rfl (.inl rfl)) (aM (aA (i:=4) cw.nd rfl (.inl rfl)) cU)))))
   (ah (aL (i:=5) cw.nd rfl (.inl rfl) (cC (ae (pcl rO jl (hr.mono (by decide:4<=7)) rfl (ae (pv 2) af)) (ae (pcl ki d5 (hr.mono (by decide:3<=7)) rfl (ae (pv 4) af)) af))))
   (ah (gv (fu (pv 0) rfl) (gz rfl (aM (aA (i:=6) cw.nd rfl (.inl rfl)) (aM (aA (i:=7) cw.nd rfl (.inl rfl)) cU))))
   (ah (aL (i:=8) cw.nd rfl (.inl rfl) (cC (ae (pv 6) (ae (aZ dE (pv 7) (bq (ae (pv 5) af))) af))))
   (ah (bW (fX oP hr rfl mS kS bS (dvs:=[.int 12]) (.cons ⟨tk,rfl⟩ .nil) (rL (E:=E) fun _ _ _ h=>h) (ae (pv 8) af)))
   (ah (jV (pv 0) (pv 8) rfl)
   (ah (jV (pv 0) (aZ dE (fu (pv 0) rfl) (bq (ae aq af))) rfl)
   (ah (jV (pv 0) eJ rfl)
   (ao (aE au)))))))))),?_⟩
  try dsimp only [gL]
  have lim:100000<=sizeLine:=by decide
  have a1:=cf cPl ls;have a2:=bF lk;have a3:cPl.length=1:=by rw [gU];rfl
  have a4:cBl.length=1:=by rw [cm];rfl
  have a5:=lY kk;rw [a3] at a1;have el:∀ x y:Str,(x++y).length=x.length+y.length:=fun x y=>by
   show (x.cps++y.cps).size=_;rw [agG];rfl
  have pb:Txt.partition (Txt.join cPl ls++cBl++wrK ks) cBl=(Txt.join cPl ls,cBl,wrK ks):=xr (qA (fun k hk=>tU (lk k hk) (by decide)) (by rw [gU];simp));obtain⟨dx,gA,v,ws,h1,⟨t0,a0,r0,vs0,rfl,ht,ha,hrr,hR⟩,h3,h4,h5⟩:=da;have hR1:=hR.1;refine⟨_,rfl,rfl,_,cBl,rfl,rfl,by rw [a4];rfl,by rw [el,el,a4];lia,fun tp ntp=>?_⟩;rw [pb];have s1:=aj (o:=.tup [.str (Txt.join cPl ls),.str cBl,.str (wrK ks)]) ntp;refine⟨tp,_,rfl,aAB ag,rfl,_,_,rfl,_,_,rfl,_,_,rfl,rfl,?_⟩;generalize upd H tp (.tup [.str (Txt.join cPl ls),.str cBl,.str (wrK ks)])=H1 at *;refine⟨_,rfl,ls,rfl,lk,l1,l4,fun lA H2 nl s2 hl=>?_⟩;refine⟨_,rfl,ks,rfl,kk,kl,fun kA H3 nk s3 hk=>⟨by show 2<=sizeLine;decide,fun rt nrt=>?_⟩⟩;have s4:Same H3 (upd H3 rt (.tup [.ref lA,.ref kA])):=aj nrt;have e4:(upd H3 rt (.tup [.ref lA,.ref kA])) rt=some (.tup [.ref lA,.ref kA]):=ag;have S4:=s1.trans (s2.trans (s3.trans s4));have hl4:=s4 _ _ (s3 _ _ hl);have hk4:=s4 _ _ hk;have nl0:H lA=none:=s1.free nl;have nk0:H kA=none:=(s1.trans s2).free nk;have nr0:H rt=none:=(s1.trans (s2.trans s3)).free nrt;generalize upd H3 rt (.tup [.ref lA,.ref kA])=H4 at *;refine⟨_,rfl,d,C,dx,_,.ref t0,rfl,S4 _ _ h1,DC.cls,DC.n1,rfl,t0,_,rfl,aAB (S4 _ _ (aD ht).2),rfl,_,_,rfl,_,_,rfl,rfl,?_⟩;refine⟨_,rfl,_,rfl,_,rfl,by show 1<=sizeLine;decide,fun l5 n5=>?_⟩;have s5:Same H4 (upd H4 l5 (.lst [.ref rt])):=aj n5;have e5:(upd H4 l5 (.lst [.ref rt])) l5=some (.lst [.ref rt]):=ag;have S5:=S4.trans s5;generalize upd H4 l5 (.lst [.ref rt])=H5 at *;refine⟨r0,l5,_,_,rfl,rfl,S5 _ _ (aD hrr).2,e5,by rw [hR1];show _+1<=sizeLine;lia,fun l6 n6=>⟨by show 2<=sizeLine;decide,fun t7 n7=>?_⟩⟩;have s6:Same H5 (upd H5 l6 (.lst (vs0++[.ref rt]))):=aj n6;have e6:(upd H5 l6 (.lst (vs0++[.ref rt]))) l6=some (.lst (vs0++[.ref rt])):=ag;have S6:=S5.trans s6;have n60:H l6=none:=S5.free n6;generalize upd H5 l6 (.lst (vs0++[.ref rt]))=H6 at *;have s7:Same H6 (upd H6 t7 (.tup [.ref a0,.ref l6])):=aj n7;have e7:(upd H6 t7 (.tup [.ref a0,.ref l6])) t7=some (.tup [.ref a0,.ref l6]):=ag;have S7:=S6.trans s7;have n70:H t7=none:=S6.free n7;generalize upd H6 t7 (.tup [.ref a0,.ref l6])=H7 at *;have S47:Same H4 H7:=s5.trans (s6.trans s7);have sl:=fV ls;have rok:gX (bR ls,ks):=⟨fun k hk=>lk k (sortS_mem.mp hk),by show 1<=(bR ls).length;lia,by show (bR ls).length<=4;lia,jE ls,kk,by show ks.length<=1000;lia⟩;have hh7:HouseAt H7 (.ref t7) (h.1,h.2++[(bR ls,ks)]):=⟨t7,a0,l6,_,rfl,e7,S7 _ _ (aD ha).2,s7 _ _ e6,RoomsAt.snoc ((hR.same gp).same S7) ⟨rt,lA,kA,rfl,S47 _ _ e4,S47 _ _ hl4,S47 _ _ hk4⟩⟩;have hok7:bC (h.1,h.2++[(bR ls,ks)]):=⟨hok.kk,hok.kl,fun r hr=>by
   rcases afc.mp hr with z | z
   ·exact hok.rs r z
   ·rw [ae1.mp z];exact rok,by show (h.2++[(bR ls,ks)]).length<=1000;rw [aeV];show _+1<=1000;lia⟩
  have len7:(h.2++[(bR ls,ks)]).length=h.2.length+1:=by rw [aeV];rfl
  refine⟨_,rfl,.ref t7,(h.1,h.2++[(bR ls,ks)]),rfl,hh7,hok7,fun le H8 s8=>?_,fun lt H8 s8=>q2 (by rw [len7] at lt;lia) H8 (S7.trans s8)⟩;have S8:=S7.trans s8;have s78:=s8;refine⟨_,rfl,_,rfl,d,C,dx,_,rfl,S8 _ _ h1,DC.cls,DC.n1,by show 3 < 1000;decide,?_⟩;have B9:But d H8 (upd H8 d (.ins C dx (fs3 (.ref t7) wA gA))):=But.upd;have e9:(upd H8 d (.ins C dx (fs3 (.ref t7) wA gA))) d=some (.ins C dx (fs3 (.ref t7) wA gA)):=ag
  change sU _ _ _ _ (upd H8 d (.ins C dx (fs3 (.ref t7) wA gA)))
  generalize upd H8 d (.ins C dx (fs3 (.ref t7) wA gA))=H9 at *;have wd:wA≠d:=fun z=>by rw [z,h1] at h3;cases h3
  refine⟨_,rfl,d,C,dx,_,.ref wA,rfl,e9,DC.cls,DC.n2,rfl,by show 1<=sizeLine;decide,fun lB nB=>?_⟩;have sB:Same H9 (upd H9 lB (.lst [.int 0])):=aj nB;have eB:(upd H9 lB (.lst [.int 0])) lB=some (.lst [.int 0]):=ag;generalize upd H9 lB (.lst [.int 0])=HB at *;have hw9:=sB _ _ (B9 _ _ wd (S8 _ _ h3));refine⟨wA,lB,_,_,rfl,rfl,hw9,eB,by rw [h4];show _+1<=sizeLine;lia,fun wB nwB=>?_⟩;have sC:Same HB (upd HB wB (.lst (ws++[.int 0]))):=aj nwB;have eC:(upd HB wB (.lst (ws++[.int 0]))) wB=some (.lst (ws++[.int 0])):=ag;have dB:HB d=some (.ins C dx (fs3 (.ref t7) wA gA)):=sB _ _ e9;have wBd:wB≠d:=fun z=>by rw [z,dB] at nwB;cases nwB
  generalize upd HB wB (.lst (ws++[.int 0]))=HC at *;refine⟨_,rfl,d,C,dx,_,rfl,sC _ _ dB,DC.cls,DC.n2,by show 3 < 1000;decide,?_⟩;have BD:But d HC (upd HC d (.ins C dx (fs3 (.ref t7) wB gA))):=But.upd;have eD:(upd HC d (.ins C dx (fs3 (.ref t7) wB gA))) d=some (.ins C dx (fs3 (.ref t7) wB gA)):=ag
  change sU _ _ _ _ (upd HC d (.ins C dx (fs3 (.ref t7) wB gA)))
  generalize upd HC d (.ins C dx (fs3 (.ref t7) wB gA))=HD at *;refine⟨afh _,fun g2 n2=>?_⟩;have sE:Same HD (upd HD g2 (.lst [])):=aj n2;have eE:(upd HD g2 (.lst [])) g2=some (.lst []):=ag;have gd:g2≠d:=fun z=>by rw [z,eD] at n2;cases n2
  have gwB:g2≠wB:=(ai (BD _ _ wBd eC) n2).symm;generalize upd HD g2 (.lst [])=HE at *;refine⟨_,rfl,d,C,dx,_,rfl,sE _ _ eD,DC.cls,DC.n3,by show 3 < 1000;decide,?_⟩;have BF:But d HE (upd HE d (.ins C dx (fs3 (.ref t7) wB g2))):=But.upd;have eF:(upd HE d (.ins C dx (fs3 (.ref t7) wB g2))) d=some (.ins C dx (fs3 (.ref t7) wB g2)):=ag;show Q _ (upd HE d (.ins C dx (fs3 (.ref t7) wB g2)));generalize upd HE d (.ins C dx (fs3 (.ref t7) wB g2))=HF at *;have B8C:But d H8 HC:=B9.trans (ay (sB.trans sC));have B8F:But d H8 HF:=B8C.trans (BD.trans ((ay sE).trans BF));have no:∀ {b},b≠d->∀ {H2:Hp},But d H8 H2->H2 b=none->H b=none:=fun {b} nb {H2} B n=>by
   cases e:H b with
   | none=>rfl
   | some u=>have:=B _ _ nb (S8 _ _ e);rw [n] at this;cases this
  have nwB0:H wB=none:=no wBd (B9.trans (ay sB)) nwB;have ng0:H g2=none:=no gd (B8C.trans BD) n2;have Br:Bar d wA H HF:=fun b u n1 _ e=>B8F b u n1 (S8 b u e);have nd:∀ {b},H b=none->b≠d:=fun n z=>by rw [z,h1] at n;cases n
  refine q1 (by rw [len7] at le;lia) HF wB Br fun S iS x=>?_;obtain⟨dx',gA',v',ws',x1,x2,x3,x4,x5⟩:=x;have x1':=(aD x1).2;rw [h1] at x1';cases x1';obtain⟨t',a',r',vs',ev,y1,y2,y3,y4⟩:=x2;cases ev;have k:=qx (S:=S) (wA':=wB) Br (.inr nwB0);have y1':=(aD (aD y1).2).2;rw [(aD ht).2] at y1';cases y1';have y3':=(aD (aD y3).2).2;rw [(aD hrr).2] at y3';cases y3';have S48:Same H4 H8:=S47.trans s8;have fr:∀ {b u},H b=none->b≠wB->H8 b=some u->hid [d,wB] (hid S HF) b=some u:=fun n nw e=>aG (yH (nd n) nw) (aG (iS.off n) (B8F _ _ (nd n) e));have ow:∀ {b u},H8 b=some u->b≠d->b≠wB:=fun e n=>ai ((B9.trans (ay sB)) _ _ n e) nwB;refine⟨dx,g2,.ref t7,ws++[.int 0],aG (aD x1).1 eF,⟨t7,a0,l6,_,rfl,fr n70 (ow (s8 _ _ e7) (nd n70)) (s8 _ _ e7),k _ _ y2,fr n60 (ow (s8 _ _ (s7 _ _ e6)) (nd n60)) (s8 _ _ (s7 _ _ e6)),RoomsAt.snoc (y4.same k) ⟨rt,lA,kA,rfl,fr nr0 (ow (S48 _ _ e4) (nd nr0)) (S48 _ _ e4),fr nl0 (ow (S48 _ _ hl4) (nd nl0)) (S48 _ _ hl4),fr nk0 (ow (S48 _ _ hk4) (nd nk0)) (S48 _ _ hk4)⟩⟩,aG (iS.off nwB0) (BF _ _ wBd (sE _ _ (BD _ _ wBd eC))),by rw [aeV,h4];show _=(h.2++[(bR ls,ks)]).length;rw [len7];rfl,aG (yH gd gwB) (aG (iS.off ng0) (BF _ _ gd eE))⟩
def aaV (C cS:Addr):Sp:=fun vs H Q E=>∃ (d wA:Addr) (h:Hs) (g:List Nat) (a b:Nat),vs=[.ref d,.str (Txt.join cBl [eI a,eI b])]/\DeskAt C H d wA h g/\h.2.length<=1000/\a < 1000000000/\b < 1000000000 ∧
 (a < h.2.length->PutPost C H d wA h g h g fun H'=>Q (.str "ok") H')/\(h.2.length<=a->∀ H',Same H H'->E (.ref cS) none H')
theorem ab2 {f fN fI C cS:Addr}{fd fdN fdI:FuncData}{bmS:List Value}(F:Fun K "put_worth" "put_worth" i9 f fd)(DC:kK K C)(gI:FnOk P w K mg base CX0 2 fN fdN ["text","many"] mW)(b7:Cal K mg "read_numbers" ["text","many"] fN fdN)(br:mg "len" = none)
 (o_NoStep:kT K cS fI bmS)(cz:FnOk P w K mg base CX0 1 fI fdI ["self","at"] (pZ cS))(cA:Binds K fdI ["self","at"] [])(gy:mg "NoStep" = some (.ref cS)):FnOk P w K mg base (CXr P w) 3 f fd ["desk","rest"] (aaV C cS):=by
 refine F.okR js (fun vs H Q E h=>?_) (fun cdv A outer s H vs Q E hr h=>?_)
 ·obtain⟨d,wA,h,g,a,b,rfl,_⟩:=h
  rfl
 ·obtain⟨d,wA,h,g,a,b,rfl,da,hl,ha,hb,q1,q2⟩:=h;refine⟨_,(ah (gv (pcl gI b7 hr rfl (ae (pv 1) (ae aq af))) (acJ rfl (aM (aA (i:=2) js.nd rfl (.inl rfl)) (aM (aA (i:=3) js.nd rfl (.inl rfl)) cU))))
   (ah (bO (aT zC (pv 2) (av aH rfl br afr (ae (fu (pv 0) rfl) af)) (aS _))
    (ao (kP o_NoStep cz hr cA rfl gy (ae md af))) aO)
   (ah (gv (pv 3) (xX (fu (pv 0) rfl) (pv 2) qv))
   (ao (aE au))))),?_⟩
  try dsimp only [gL]
  obtain⟨dx,gA,v,ws,h1,h2,h3,h4,h5⟩:=da;refine⟨_,rfl,_,[eI a,eI b],[a,b],rfl,rfl,by simp,by show 2<=2;decide,rfl,fun i z n e1 e2=>?_,fun l H1 s1 nl e1=>?_⟩
  ·match i with
   | 0=>cases e1;cases e2;exact lZ ha
   | 1=>cases e1;cases e2;exact lZ hb
   | i+2=>simp at e1
  refine⟨l,_,rfl,aAA e1,rfl,_,_,rfl,_,_,rfl,rfl,?_⟩;have wd:wA≠d:=fun z=>by rw [z,h1] at h3;cases h3
  refine⟨_,rfl,_,rfl,d,C,dx,_,.ref wA,rfl,s1 _ _ h1,DC.cls,DC.n2,rfl,wA,ws,rfl,.inl (aAA (s1 _ _ h3)),(a:Int),_,rfl,rfl,_,rfl,?_⟩;refine lJ (fun z=>?_) (fun z=>?_)
  ·have z':=af4 z;exact⟨by show 1<=1000;decide,fun e ne=>⟨e,.non,rfl,ag,.inl rfl,rfl,ag,q2 (by lia) _ (s1.trans (qa ne))⟩⟩
  ·have z':=ahq (agI.mpr z);have lt:a < ws.length:=by lia
   refine⟨_,rfl,_,rfl,d,C,dx,_,.ref wA,rfl,s1 _ _ h1,DC.cls,DC.n2,rfl,_,rfl,wA,ws,(a:Int),a,rfl,rfl,s1 _ _ h3,xI lt,?_⟩;refine q1 (by lia) _ wA (fun b u _ n e=>by rw [ax n];exact s1 _ _ e) fun S iS x=>?_;obtain⟨dx',gA',v',ws',x1,x2,x3,x4,x5⟩:=x;have Br:Bar d wA H (upd H1 wA (.lst (ws.set a (.int (b:Int))))):=fun b u _ n e=>by rw [ax n];exact s1 _ _ e
   have kk:=qx (S:=S) (wA':=wA) Br (.inl rfl);refine⟨dx',gA',v',ws.set a (.int (b:Int)),aG (aD x1).1 (by rw [ax wd.symm];exact s1 _ _ (aD x1).2),x2.same kk,aG (aD x3).1 ag,by rw [aiN];exact h4,kk _ _ x5⟩
end
def o1 (hand locks:List Str):Bool:=locks.all fun x=>decide (locks.count x<=hand.count x)
def o4 (hand:List Str)(r:Rm):List Str:=r.1.foldl List.erase hand++r.2
theorem jb (x:Str):∀ (l h:List Str),(l.foldl List.erase h).count x=h.count x - l.count x
 | [],h=>by simp
 | a::l,h=>by
  rw [ahn,jb x l,List.count_erase,List.count_cons];by_cases e:a=x
  ·subst e;simp;lia
  ·have:¬ x=a:=fun z=>e z.symm;simp [e,this]
theorem jD:∀ (l h:List Str),(l.foldl List.erase h).length<=h.length
 | [],h=>ae4 _
 | a::l,h=>by
  rw [ahn];exact afC (jD l _) (List.length_erase_le ..)
theorem aa5 {hand locks:List Str}(h:o1 hand locks=true){i:Nat}(hi:i < locks.length):locks[i]∈(locks.take i).foldl List.erase hand:=by
 unfold o1 at h;rw [agf] at h;have h1:=af4 (h locks[i] (afz hi));have h2:=jb locks[i] (locks.take i) hand;have e:locks=locks.take i++locks[i]::locks.drop (i+1):=by rw [← afU hi,afy]
 have h3:locks.count locks[i]=(locks.take i).count locks[i]+(1+(locks.drop (i+1)).count locks[i]):=by
  have:=afH (List.count locks[i]) e;rw [List.count_append,List.count_cons_self] at this;lia
 exact List.count_pos_iff.mp (by lia)
theorem y8 (hand:List Str)(r:Rm):(o4 hand r).length<=hand.length+r.2.length:=by
 unfold o4;rw [aeV];exact Nat.add_le_add_right (jD _ _) _
def aN (ks:List Str)(rs:List Rm)(order:List Nat):List Str:=order.foldl (fun hd i=>o4 hd ((rs[i]?).getD ([],[]))) ks
theorem j9 (ks:List Str)(rs:List Rm)(order:List Nat)(i:Nat):aN ks rs (order++[i])=o4 (aN ks rs order) ((rs[i]?).getD ([],[])):=by
 unfold aN;rw [aiu]
 rfl
theorem lg {ks:List Str}{rs:List Rm}(m:Nat)(hm:∀ r∈rs,r.2.length<=m):∀ (order:List Nat) (ks:List Str),(aN ks rs order).length<=ks.length+m * order.length
 | [],ks=>by simp [aN]
 | i::order,ks=>by
  have h1:=lg m hm (ks:=ks) order (o4 ks ((rs[i]?).getD ([],[])));have h2:=y8 ks ((rs[i]?).getD ([],[]));have h3:((rs[i]?).getD ([],[])).2.length<=m:=by
   cases e:rs[i]? with
   | none=>exact afh _
   | some r=>exact hm r (afY e)
  rw [afn,Nat.mul_succ];show (aN (o4 ks ((rs[i]?).getD ([],[]))) rs order).length<=_;lia
def gr (rs:List Rm)(hand:List Str)(order:List Nat):List Nat:=(List.range rs.length).filter fun i=>!decide (i∈order) && o1 hand ((rs[i]?).getD ([],[])).1
def jx (ks:List Str)(rs:List Rm)(order:List Nat):Prop:=∀ j i,order[j]? = some i->i < rs.length/\i ∉ order.take j/\o1 (aN ks rs (order.take j)) ((rs[i]?).getD ([],[])).1=true
end K7
namespace L2
open PySem PySem.Spec PyProof.Rows
theorem sP (K:PySem.W.Frag):kitOne K (.type "int") (.type "bool")=some false:=by
 first
  | rfl
  | (with_unfolding_all rfl)
end L2
namespace K7
open PySem L2 PyProof.Rows
def xP:Sp:=fun vs H Q _=>∃ n:Int,vs=[.int n]/\∀ H',Same H H'->Q (.bl true) H'
def vF:Sp:=fun vs H Q _=>∃ (a b:Addr) (hand locks:List Str),vs=[.ref a,.ref b]/\H a=some (.lst (hand.map V.str))/\H b=some (.lst (locks.map V.str))/\locks.length<=1000/\∀ H',Same H H'->Q (.bl (o1 hand locks)) H'
def qC:Sp:=fun vs H Q _=>∃ (a:Addr) (v:V) (hand:List Str) (r:Rm),vs=[.ref a,v]/\H a=some (.lst (hand.map V.str))/\RoomAt H v r/\o1 hand r.1=true/\hand.length+r.2.length<=sizeLine ∧
 ∀ (l:Addr) (H':Hp),Same H H'->H l=none->H' l=some (.lst ((o4 hand r).map V.str))->Q (.ref l) H'
section
variable {P:Program}{w:World}{K:PySem.W.Frag}{mg:Str->Option Value}{base:Heap}
theorem t6:az ["thing"] ["thing"] (ak j6):=scM rfl rfl rfl rfl (by decide +kernel)
theorem z9 {f:Addr}{fd:FuncData}(F:Fun K "is_whole" "is_whole" j6 f fd)(wZ:mg "bool" = none)(df:mg "int" = none)(aB:mg "isinstance" = none):FnOk P w K mg base CX0 1 f fd ["thing"] xP:=by
 refine F.ok t6 (fun vs H Q E h=>?_) (fun cdv A outer s H vs Q E hr h=>?_)
 ·obtain⟨n,rfl,_⟩:=h
  rfl
 ·obtain⟨n,rfl,k⟩:=h;refine⟨_,(ao (aE (jU (av bH rfl aB (by decide +kernel) (ae (pv 0) (ae (eW (v:=.ty "int") (u:=.type "int") rfl df (by decide +kernel) rfl) af))) (lG (aaR (av bH rfl aB (by decide +kernel) (ae (pv 0) (ae (eW (v:=.ty "bool") (u:=.type "bool") rfl wZ (by decide +kernel) rfl) af)))))))),?_⟩;refine⟨_,rfl,_,_,_,true,rfl,.int n,eG K _,true,rfl,kW ?_⟩;exact⟨_,rfl,_,_,_,false,rfl,.int n,sP K,false,rfl,k _ (Same.refl H)⟩
theorem yr:az ["hand","locks"] ["hand","locks"] (ak kq):=scM rfl rfl rfl rfl (by decide +kernel)
theorem tW:(["kind","hand","locks"]:List Str).Nodup:=by decide +kernel
theorem yB {f:Addr}{fd:FuncData}(F:Fun K "serves" "serves" kq f fd)(nW:mg "all" = none):FnOk P w K mg base CX0 1 f fd ["hand","locks"] vF:=by
 refine F.ok yr (fun vs H Q E h=>?_) (fun cdv A outer s H vs Q E hr h=>?_)
 ·obtain⟨a,b,hand,locks,rfl,_⟩:=h
  rfl
 ·obtain⟨a,b,hand,locks,rfl,ha,hb,hl,k⟩:=h;refine⟨_,(ao (aE (av (jz rfl) rfl nW (by decide +kernel) (ae (mj (tg:=.Name "kind" _) (outer:=ak (kq)) (N:=["hand","locks"]) (N':=["kind","hand","locks"]) (nl:=1) (ix:=[0,1]) rfl rfl rfl (dy (pv 1))
   (fun _ _ _ _=>(aA (i:=0) tW rfl (.inl rfl) (.inr rfl))) (fun _ _ _ _=>dA)
   (fun _ _ _ _=>(bN zC (xH (K:=K) rfl afk agP aht vh (pv 1) (ae (pv 0) af)) (xH (K:=K) rfl afk agP aht vh (pv 2) (ae (pv 0) af)) (aS _)))) af)))),?_⟩
  dsimp only [wt,tCB,aJ,cu];refine bM _ _ _ _ _ _ _ _ _ ?_;refine⟨_,rfl,b,rfl,⟨_,aAA hb⟩,?_⟩;intro D hD;refine gc (xs:=locks.map V.str) (fun i ys H'=>ys=((locks.take i).map fun x=>V.bl (decide (locks.count x<=hand.count x)))/\i<=1000/\H' D=some (.lst ys)/\Same H H') ⟨rfl,by decide,ag,fun b u e=>by rw [ax (ai e hD)];exact e⟩ (fun i ys H' ⟨_,_,h,_⟩=>h) (fun i ys H' ⟨_,_,_,s⟩=>aAA (s _ _ hb)) ?_ ?_
  ·rintro i ys H2 x hx ⟨rfl,hi0,hD2,s2⟩;have hi:=(aeZ.mp hx).1;have hi':=hi;rw [aeT] at hi';rw [afg,aeS hi'] at hx;cases hx;refine cJ rfl ?_;refine⟨_,rfl,.inl ⟨rfl,_,aAA (s2 _ _ ha)⟩,_,rfl,a,hand,locks[i],rfl,rfl,s2 _ _ ha,?_⟩;refine⟨_,rfl,.inl ⟨rfl,_,aAA (s2 _ _ hb)⟩,_,rfl,b,locks,locks[i],rfl,rfl,s2 _ _ hb,?_⟩;refine⟨_,_,rfl,rfl,hD2,by rw [aeT,afs];exact bZ (by lia),nx hi ⟨?_,(by lia:i+1<=1000),ag,fun b u e=>?_⟩⟩
   ·rw [afW,aeS hi',afe];have e1:decide (((locks.count locks[i]:Nat):Int)<=((hand.count locks[i]:Nat):Int))=decide (locks.count locks[i]<=hand.count locks[i]):=decide_eq_decide.mpr Int.ofNat_le;exact afH (fun z=>_++[V.bl z]) e1
   ·rw [ax (ai e hD)];exact s2 b u e
  ·rintro ys H2 ⟨rfl,_,hD2,s2⟩;rw [aeT,afK] at hD2;refine⟨D,locks.map (fun x=>decide (locks.count x<=hand.count x)),rfl,aAA (by rw [hD2,ahh];rfl),?_⟩;have e:(locks.map (fun x=>decide (locks.count x<=hand.count x))).all id=o1 hand locks:=by rw [aj6];rfl
   rw [e];exact k H2 s2
theorem cM:az ["hand","room","locks","within","rest","kind"] ["hand","room"] (ak gE):=scM rfl rfl rfl rfl (by decide +kernel)
theorem xc {f:Addr}{fd:FuncData}(F:Fun K "hand_behind" "hand_behind" gE f fd)(cZ:mg "list" = none):FnOk P w K mg base CX0 1 f fd ["hand","room"] qC:=by
 refine F.ok cM (fun vs H Q E h=>?_) (fun cdv A outer s H vs Q E hr h=>?_)
 ·obtain⟨a,v,hand,r,rfl,_⟩:=h
  rfl
 ·obtain⟨a,v,hand,r,rfl,ha,⟨t,b,c,rfl,ht,hb,hc⟩,hm,hl,k⟩:=h;refine⟨_,(ah (gv (pv 1) (gz rfl (aM (aA (i:=2) cM.nd rfl (.inl rfl)) (aM (aA (i:=3) cM.nd rfl (.inl rfl)) cU))))
   (ah (aL (i:=4) cM.nd rfl (.inl rfl) (aR de rfl cZ (by decide +kernel) (ae (pv 0) af)))
   (ah (cn (gj afS rfl (dy (pv 2)) (aA (i:=5) cM.nd rfl (.inl rfl))
    (ao (bW (dz afk aiv aiw sJ (pv 4) (ae (pv 5) af))))))
   (ao (aE (aZ dE (pv 4) (pv 3))))))),?_⟩
  refine⟨_,rfl,t,_,rfl,aAB ht,rfl,_,_,rfl,_,_,rfl,rfl,?_⟩;refine⟨_,rfl,a,_,rfl,.inl (aAA ha),fun l nl=>?_⟩;have s1:∀ o,Same H (upd H l o):=fun o b u e=>by rw [ax (ai e nl)];exact e
  refine⟨fun σ' H'=>∃ x5,σ'=[some (.ref a),some (.ref t),some (.ref b),some (.ref c),some (.ref l),x5]/\H' l=some (.lst ((r.1.foldl List.erase hand).map V.str))/\Same H H',?_,?_⟩
  ·rintro σ H2 ⟨x5,rfl,hl2,s2⟩;refine⟨_,rfl,_,rfl,l,c,_,_,rfl,rfl,hl2,s2 _ _ hc,?_,fun p np=>?_⟩
   ·rw [aeT,aeT];exact afC (Nat.add_le_add_right (jD _ _) _) hl
   ·refine k p _ (fun b u e=>?_) (s2.free np) (by rw [ag];unfold o4;rw [afe]);have:=s2 b u e;rw [ax (ai this np)];exact this
  ·refine⟨_,rfl,b,rfl,⟨_,aAA (s1 _ _ _ hb)⟩,?_⟩;refine kE (xs:=r.1.map V.str) (fun i σ' H'=>∃ x5,σ'=[some (.ref a),some (.ref t),some (.ref b),some (.ref c),some (.ref l),x5]/\H' l=some (.lst (((r.1.take i).foldl List.erase hand).map V.str))/\Same H H') ⟨_,rfl,ag,s1 _⟩ (fun i σ H' _ ⟨_,_,_,s⟩=>aAA (s _ _ hb)) ?_ ?_
   ·rintro i x σ H2 hx ⟨x5,rfl,hl2,s2⟩;have hi:=(aeZ.mp hx).1;rw [aeT] at hi;rw [afg,aeS hi] at hx;cases hx;refine⟨_,rfl,.inl ⟨rfl,_,aAA hl2⟩,_,rfl,l,_,r.1[i],rfl,rfl,hl2,aa5 hm hi,?_⟩;refine⟨_,rfl,?_,fun b u e=>?_⟩
    ·rw [ag,afW,aeS hi,aiu]
     rfl
    ·rw [ax (ai e nl)];exact s2 b u e
   ·rintro σ H2 ⟨x5,rfl,hl2,s2⟩;rw [aeT,afK] at hl2;exact⟨x5,rfl,hl2,s2⟩
end
end K7
namespace L2
open PySem PyProof.Rows
end L2
namespace K7
open PySem L2 PyProof.Rows
def dd:List Str->List Str
 | []=>[]
 | a::r=>if a∈dd r then dd r else a::dd r
def pend:List Nat->List Rm->Nat
 | m::ws,r::rs=>(if m=0 then 0 else r.2.length)+pend ws rs
 | _,_=>0
abbrev dF (ns:List Nat):List V:=ns.map fun i=>V.int (i:Nat)
theorem qH (i:Nat)(ns:List Nat):inV (.int i) (dF ns)=decide (i∈ns):=by
 unfold inV dF
 induction ns with
 | nil=>rfl
 | cons a r ih =>
  rw [afl,aix,ih];show ((a:Int) == (i:Int) || decide (i∈r))=_;by_cases e:a=i
  ·subst e;simp
  ·have e':¬ ((a:Int)=(i:Int)):=by lia
   have e2:¬ i=a:=fun z=>e z.symm;have:((a:Int) == (i:Int))=false:=by simpa using e'
   rw [this];simp [e2]
theorem oi (ns:List Nat):(dF ns).all i7=true:=by
 rw [aj6,agf];intro _ _
 rfl
def yh:Sp:=fun vs H Q _=>∃ (r a g:Addr) (n:Nat) (us:List V) (rs:List Rm) (hand:List Str) (gone:List Nat),vs=[.ref r,.ref a,.ref g,.int n]/\H r=some (.lst us)/\RoomsAt H us rs/\(∀ q∈rs,q.1.length<=1000)/\H a=some (.lst (hand.map V.str))/\H g=some (.lst (dF gone))/\n < rs.length ∧
 ∀ H',Same H H'->Q (.bl (!decide (n∈gone) && o1 hand ((rs[n]?).getD ([],[])).1)) H'
section
variable {P:Program}{w:World}{K:PySem.W.Frag}{mg:Str->Option Value}{base:Heap}
theorem wJ:az ["rooms","hand","gone","number"] ["rooms","hand","gone","number"] (ak lu):=scM rfl rfl rfl rfl (by decide +kernel)
theorem yY {xs:List V}{k:Nat}(h:k<=xs.length):uV xs none (some (k:Int))=xs.take k:=by
 unfold uV;rw [HT.sIx_none,HT.sIx_nat,ai0,afV,agn h]
def ug:Sp:=fun vs H Q _=>∃ (v:V) (o:Addr) (h:Hs) (order:List Nat),vs=[v,.ref o]/\HouseAt H v h/\bC h/\H o=some (.lst (dF order))/\jx h.1 h.2 order/\order.length<=200 ∧
 ∀ (l:Addr) (H':Hp),Same H H'->H l=none->H' l=some (.lst ((aN h.1 h.2 order).map V.str))->Q (.ref l) H'
def xb:Sp:=fun vs H Q _=>∃ (v:V) (o:Addr) (h:Hs) (order:List Nat),vs=[v,.ref o]/\HouseAt H v h/\bC h/\H o=some (.lst (dF order))/\jx h.1 h.2 order/\order.length<=200 ∧
 ∀ (l:Addr) (H':Hp),Same H H'->H l=none->H' l=some (.lst (dF (gr h.2 (aN h.1 h.2 order) order)))->Q (.ref l) H'
def xN:Sp:=fun vs H Q _=>∃ (v:V) (o:Addr) (h:Hs) (order:List Nat),vs=[v,.ref o]/\HouseAt H v h/\bC h/\H o=some (.lst (dF order))/\jx h.1 h.2 order/\order.length<=200 ∧
 ∀ (l:Addr) (ss:List Str) (H':Hp),Same H H'->H l=none->ss.Perm (aN h.1 h.2 order)->ss.Pairwise leS->H' l=some (.lst (ss.map V.str))->Q (.ref l) H'
theorem pJ {x:Str}:∀ (l h:List Str),x∈l.foldl List.erase h->x∈h
 | [],h,e=>e
 | a::l,h,e=>ai3 (pJ l _ (by rw [ahn] at e;exact e))
theorem o9 {rs:List Rm}(hr:∀ r∈rs,∀ k∈r.2,aP k):∀ (order:List Nat) (ks:List Str),(∀ k∈ks,aP k)->∀ k∈aN ks rs order,aP k
 | [],ks,hk,k,e=>hk k e
 | i::order,ks,hk,k,e=>by
  refine o9 hr order (o4 ks ((rs[i]?).getD ([],[]))) (fun x hx=>?_) k e;unfold o4 at hx;rcases afc.mp hx with q | q
  ·exact hk x (pJ _ _ q)
  ·cases e2:rs[i]? with
   | none=>rw [e2] at q;cases q
   | some r=>rw [e2] at q;exact hr r (afY e2) x q
theorem jI {h:Hs}(ok:bC h){order:List Nat}(ho:order.length<=200):(aN h.1 h.2 order).length<=201000:=by
 have:=lg (ks:=h.1) 1000 (fun r hr=>(ok.rs r hr).kl) order h.1;have:=ok.kl;lia
theorem aU:az ["house","order","keys","rooms","hand","at","number"] ["house","order"] (ak fh):=scM rfl rfl rfl rfl (by decide +kernel)
theorem aaa {f fS fB:Addr}{fd fdS fdB:FuncData}(F:Fun K "hand_after" "hand_after" fh f fd)(i5:FnOk P w K mg base CX0 2 fS fdS ["rooms","hand","gone","number"] yh)(dC:Cal K mg "is_step" ["rooms","hand","gone","number"] fS fdS)
 (hU:FnOk P w K mg base CX0 1 fB fdB ["hand","room"] qC)(cB:Cal K mg "hand_behind" ["hand","room"] fB fdB)(dZ:mg "enumerate" = none)(aB:mg "isinstance" = none)(cZ:mg "list" = none):FnOk P w K mg base CX0 3 f fd ["house","order"] ug:=by
 refine F.ok aU (fun vs H Q E h=>?_) (fun cdv A outer s H vs Q E hr h=>?_)
 ·obtain⟨v,o,h,order,rfl,_⟩:=h
  rfl
 ·obtain⟨v,o,h,order,rfl,⟨t,a,r,us,rfl,ht,ha,hr',hR⟩,ok,ho,hg,hol,k⟩:=h;refine⟨_,(ah (bO (dq (eN (av bH rfl aB (by decide +kernel) (ae (pv 1) (ae (eW (v:=.ty "list") (u:=.type "list") rfl cZ (by decide +kernel) rfl) af)))))
   gQ aO)
   (ah (gv (pv 0) (gz rfl (aM (aA (i:=2) aU.nd rfl (.inl rfl)) (aM (aA (i:=3) aU.nd rfl (.inl rfl)) cU))))
   (ah (aL (i:=4) aU.nd rfl (.inl rfl) (aR de rfl cZ (by decide +kernel) (ae (pv 2) af)))
   (ah (cn (gj afS rfl (yX rfl dZ (ae (pv 1) af)) (gz rfl (aM (aA (i:=5) aU.nd rfl (.inl rfl)) (aM (aA (i:=6) aU.nd rfl (.inl rfl)) cU)))
    (ah (bO (dq (eN (pcl i5 dC hr rfl (ae (pv 3) (ae (pv 4) (ae (d7 iy (pv 1) gJ (gB (pv 5))) (ae (pv 6) af)))))))
     gQ aO)
    (ao (aL (i:=4) aU.nd rfl (.inl rfl) (pcl hU cB (hr.mono (by decide:1<=2)) rfl (ae (pv 4) (ae (a7 aX (pv 3) (pv 6) (fun _ _=>rfl)) af))))))))
   (ao (aE (pv 4))))))),?_⟩
  refine⟨_,rfl,_,_,_,true,rfl,.lst ho,eG K _,true,rfl,km ?_⟩;refine⟨_,rfl,t,_,rfl,aAB ht,rfl,_,_,rfl,_,_,rfl,rfl,?_⟩;refine⟨_,rfl,a,_,rfl,.inl (aAA ha),fun l nl=>?_⟩;have s1:Same H (upd H l (.lst (h.1.map V.str))):=fun b u e=>by rw [ax (ai e nl)];exact e
  refine⟨fun σ' H'=>∃ (l:Addr) (x5 x6:Option V),σ'=[some (.ref t),some (.ref o),some (.ref a),some (.ref r),some (.ref l),x5,x6]/\H' l=some (.lst ((aN h.1 h.2 order).map V.str))/\H l=none/\Same H H',?_,?_⟩
  ·rintro σ H2 ⟨l,x5,x6,rfl,hl,nl,s2⟩;exact⟨_,rfl,k l H2 s2 nl hl⟩
  refine⟨_,rfl,o,rfl,⟨_,aAA (s1 _ _ ho)⟩,?_⟩;refine vq (xs:=dF order) (fun i σ' H'=>∃ (l:Addr) (x5 x6:Option V),σ'=[some (.ref t),some (.ref o),some (.ref a),some (.ref r),some (.ref l),x5,x6]/\H' l=some (.lst ((aN h.1 h.2 (order.take i)).map V.str))/\H l=none/\Same H H') ⟨l,_,_,rfl,ag,nl,s1⟩ (fun i σ H' _ ⟨_,_,_,_,_,_,s⟩=>aAA (s _ _ ho)) ?_ ?_
  ·rintro i x σ H2 T hx ⟨l2,x5,x6,rfl,hl2,nl2,s2⟩ nT;have hi:i < order.length:=by
    have:=(aeZ.mp hx).1;rw [aeT] at this;exact this
   obtain⟨n,hn⟩:∃ n,order[i]? = some n:=⟨_,aeS hi⟩;rw [afg,hn] at hx;cases hx;obtain⟨g1,g2,g3⟩:=hg i n hn;have sT:Same H2 (upd H2 T (.tup [.int (i:Int),.int ((n:Nat):Int)])):=fun b u e=>by rw [ax (ai e nT)];exact e
   refine⟨T,_,rfl,aAB ag,rfl,_,_,rfl,_,_,rfl,rfl,?_⟩;have hl3:=sT _ _ hl2;have s3:=s2.trans sT;generalize upd H2 T (.tup [.int (i:Int),.int ((n:Nat):Int)])=H3 at hl3 s3 ⊢;refine⟨_,rfl,_,rfl,_,rfl,_,rfl,_,rfl,o,_,rfl,aAA (s3 _ _ ho),fun c nc=>?_⟩;rw [yY (by rw [aeT];lia)];have ec:(dF order).take i=dF (order.take i):=aiz.symm;rw [ec];have s4:Same H3 (upd H3 c (.lst (dF (order.take i)))):=fun b u e=>by rw [ax (ai e nc)];exact e
   have hc4:(upd H3 c (.lst (dF (order.take i)))) c=some (.lst (dF (order.take i))):=ag;generalize upd H3 c (.lst (dF (order.take i)))=H4 at s4 hc4 ⊢;have s04:=s3.trans s4;refine⟨_,rfl,r,l2,c,n,us,h.2,aN h.1 h.2 (order.take i),order.take i,rfl,s04 _ _ hr',hR.same s04,fun q hq=>by have:=(ok.rs q hq).l4;lia,s4 _ _ hl3,hc4,g1,fun H5 s5=>?_⟩;refine⟨true,afH V.bl (by rw [afv g2,g3];rfl),km ?_⟩;have s05:=s04.trans s5;obtain⟨q,hq⟩:∃ q,h.2[n]? = some q:=⟨_,aeS g1⟩;obtain⟨v,hv⟩:∃ v,us[n]? = some v:=⟨_,aeS (by rw [hR.1];exact g1)⟩;have hrm:=(hR.2 n v q hv hq).same s05;have hf:=jI ok (order:=order.take i) (by rw [afs];lia);have hkl:=(ok.rs q (afY hq)).kl;rw [hq] at g3;refine⟨_,rfl,_,rfl,_,rfl,r,us,(n:Int),_,rfl,rfl,aAA (s05 _ _ hr'),bP hv,l2,v,aN h.1 h.2 (order.take i),q,rfl,s5 _ _ (s4 _ _ hl3),hrm,g3,afC (by lia:_<=202000) (by decide),fun l6 H6 s6 nl6 hl6=>?_⟩;refine⟨l6,_,_,rfl,?_,s05.free nl6,s05.trans s6⟩;rw [hl6,afW,hn];show _=some (HO.lst ((aN h.1 h.2 (order.take i++[n])).map V.str));rw [j9,hq]
   rfl
  ·rintro σ H2 ⟨l2,x5,x6,rfl,hl2,nl2,s2⟩;rw [aeT,afK] at hl2;exact⟨l2,x5,x6,rfl,hl2,nl2,s2⟩
theorem hZ:az ["house","order","hand","rooms"] ["house","order"] (ak eZ):=scM rfl rfl rfl rfl (by decide +kernel)
theorem oJ:(["number","rooms","hand","order"]:List Str).Nodup:=by decide +kernel
theorem aaC {f fR fA fS:Addr}{fd fdR fdA fdS:FuncData}(F:Fun K "next_rooms" "next_rooms" eZ f fd)(bj:FnOk P w K mg base CX0 6 fR fdR ["thing"] wj)(aK:Cal K mg "require_house" ["thing"] fR fdR)
 (eM:FnOk P w K mg base CX0 3 fA fdA ["house","order"] ug)(bx:Cal K mg "hand_after" ["house","order"] fA fdA)
 (i5:FnOk P w K mg base CX0 2 fS fdS ["rooms","hand","gone","number"] yh)(dC:Cal K mg "is_step" ["rooms","hand","gone","number"] fS fdS)(br:mg "len" = none)(bf:mg "range" = none):FnOk P w K mg base CX0 7 f fd ["house","order"] xb:=by
 refine F.ok hZ (fun vs H Q E h=>?_) (fun cdv A outer s H vs Q E hr h=>?_)
 ·obtain⟨v,o,h,order,rfl,_⟩:=h
  rfl
 ·obtain⟨v,o,h,order,rfl,hh,ok,ho,hg,hol,k⟩:=h;refine⟨_,(ah (bW (pcl bj aK hr rfl (ae (pv 0) af)))
   (ah (aL (i:=2) hZ.nd rfl (.inr rfl) (pcl eM bx (hr.mono (by decide:3<=6)) rfl (ae (pv 0) (ae (pv 1) af))))
   (ah (aL (i:=3) hZ.nd rfl (.inr rfl) (a7 bJ (pv 0) aq (fun _ _=>rfl)))
   (ao (aE (mj (tg:=.Name "number" _) (outer:=ak (eZ)) (N:=["house","order","hand","rooms"]) (N':=["number","rooms","hand","order"]) (nl:=1) (ix:=[3,2,1]) rfl rfl rfl (cq rfl bf (ae (av aH rfl br afr (ae (pv 3) af)) af))
    (fun _ _ _ _=>(aA (i:=0) oJ rfl (.inl rfl) (.inr rfl))) (fun _ _ _ _=>(yT (eN (pcl i5 dC (hr.mono (by decide:2<=6)) rfl (ae (pv 1) (ae (pv 2) (ae (pv 3) (ae (pv 0) af))))))))
    (fun _ _ _ _=>(pv 0)))))))),?_⟩
  refine⟨_,rfl,v,h,rfl,hh,ok,fun H1 s1=>?_⟩;refine⟨_,rfl,_,rfl,v,o,h,order,rfl,hh.same s1,ok,s1 _ _ ho,hg,hol,fun l H2 s2 nl hl=>?_⟩;have s02:=s1.trans s2;obtain⟨t,a,r,us,rfl,ht,ha,hr',hR⟩:=hh.same s02;have ho2:=s02 _ _ ho;refine⟨_,rfl,t,_,1,.ref r,rfl,rfl,aAB ht,rfl,?_⟩;have hul:us.length<=1000:=by rw [hR.1];exact ok.rl
  dsimp only [wt];refine bM _ _ _ _ _ _ _ _ _ ?_;refine⟨_,rfl,r,us,rfl,.inl (aAA hr'),((us.length:Nat):Int),rfl,by lia,by lia,?_⟩;rw [afu];intro D hD;refine lq (n:=us.length) (fun i ys H'=>ys=dF ((List.range i).filter fun i=>!decide (i∈order) && o1 (aN h.1 h.2 order) ((h.2[i]?).getD ([],[])).1)/\i<=1000/\H' D=some (.lst ys)/\Same H2 H') ⟨rfl,by decide,ag,fun b u e=>by rw [ax (ai e hD)];exact e⟩ (fun i ys H' ⟨_,_,h,_⟩=>h) ?_ ?_
  ·rintro i ys H3 hi ⟨rfl,hi0,hD3,s3⟩;rw [show (0+(i:Int))=((i:Nat):Int) by lia];have hi':i < h.2.length:=by rw [← hR.1];exact hi
   have hlen:(dF ((List.range i).filter fun i=>!decide (i∈order) && o1 (aN h.1 h.2 order) ((h.2[i]?).getD ([],[])).1)).length<=1000:=by
    rw [aeT];exact afC (ag4 _ _) (by rw [ahB];lia)
   refine wV rfl ?_;refine⟨_,rfl,_,rfl,_,rfl,_,rfl,r,l,o,i,us,h.2,aN h.1 h.2 order,order,rfl,s3 _ _ hr',hR.same s3,fun q hq=>by have:=(ok.rs q hq).l4;lia,s3 _ _ hl,s3 _ _ ho2,hi',fun H4 s4=>?_⟩;cases hm:(!decide (i∈order) && o1 (aN h.1 h.2 order) ((h.2[i]?).getD ([],[])).1) with
   | true =>
    refine⟨true,rfl,kW ?_⟩;refine⟨_,rfl,s4 _ _ hD3,bZ hlen,nx hi ⟨?_,by lia,ag,fun b u e=>?_⟩⟩
    ·rw [ah5,ahu,ahN,if_pos hm,List.filter_nil];unfold dF;rw [afe]
     rfl
    ·rw [ax (ai e hD)];exact s4 _ _ (s3 b u e)
   | false =>
    refine⟨false,rfl,km ?_⟩;refine nx hi ⟨?_,by lia,s4 _ _ hD3,s3.trans s4⟩;rw [ah5,ahu,ahN,if_neg (by rw [hm];exact ae2),List.filter_nil,afD]
  ·rintro ys H3 ⟨rfl,_,hD3,s3⟩;rw [hR.1] at hD3;exact k D H3 (s02.trans s3) (s02.free hD) hD3
theorem jT:az ["house","order"] ["house","order"] (ak d9):=scM rfl rfl rfl rfl (by decide +kernel)
theorem aaL {f fR fA:Addr}{fd fdR fdA:FuncData}(F:Fun K "keys_behind" "keys_behind" d9 f fd)(bj:FnOk P w K mg base CX0 6 fR fdR ["thing"] wj)(aK:Cal K mg "require_house" ["thing"] fR fdR)
 (eM:FnOk P w K mg base CX0 3 fA fdA ["house","order"] ug)(bx:Cal K mg "hand_after" ["house","order"] fA fdA)(aW:mg "sorted" = none):FnOk P w K mg base CX0 7 f fd ["house","order"] xN:=by
 refine F.ok jT (fun vs H Q E h=>?_) (fun cdv A outer s H vs Q E hr h=>?_)
 ·obtain⟨v,o,h,order,rfl,_⟩:=h
  rfl
 ·obtain⟨v,o,h,order,rfl,hh,ok,ho,hg,hol,k⟩:=h;refine⟨_,(ah (bW (pcl bj aK hr rfl (ae (pv 0) af)))
   (ao (aE (av eK rfl aW ag3 (ae (pcl eM bx (hr.mono (by decide:3<=6)) rfl (ae (pv 0) (ae (pv 1) af))) af))))),?_⟩
  refine⟨_,rfl,v,h,rfl,hh,ok,fun H1 s1=>?_⟩;refine⟨_,rfl,_,rfl,v,o,h,order,rfl,hh.same s1,ok,s1 _ _ ho,hg,hol,fun l H2 s2 nl hl=>?_⟩;have hf:=jI ok hol;refine⟨l,_,rfl,aAA hl,afC hf (by decide),fun l2 ss nl2 hp hs=>?_⟩;have s02:=s1.trans s2;exact k l2 ss _ (fun b u e=>by rw [ax (ai (s02 b u e) nl2)];exact s02 b u e) (s02.free nl2) hp (b4 hs) ag
theorem pA {a b:List Str}(pm:a.Perm b):bQ a=bQ b:=by
 have e:bR a=bR b:=gR (jE a) (jE b) ((dU a).trans (pm.trans (dU b).symm));unfold bQ;rw [e];by_cases h:a=[]
 ·subst h;rw [if_pos rfl,if_pos pm.symm.eq_nil]
 ·rw [if_neg h,if_neg fun z=>h (by rw [z] at pm;exact pm.eq_nil)]
def vn (h:Hs)(g:List Nat):Prop:=bC h/\jx h.1 h.2 g/\g.length<=200/\(aN h.1 h.2 g).length<=400/\∀ k∈aN h.1 h.2 g,aP k
def vG (h:Hs)(g:List Nat):Prop:=bC h/\jx h.1 h.2 g/\g.length<=200/\h.2.length<=1000
theorem sF:az ["desk"] ["desk"] (ak ja):=scM rfl rfl rfl rfl (by decide +kernel)
theorem rJ:az ["desk"] ["desk"] (ak jd):=scM rfl rfl rfl rfl (by decide +kernel)
theorem aaw {f fS fK C:Addr}{fd fdS fdK:FuncData}(F:Fun K "tell_hand" "tell_hand" ja f fd)(DC:kK K C)(fP:FnOk P w K mg base CX0 1 fS fdS ["keys"] pW)(bV:Cal K mg "show_keys" ["keys"] fS fdS)(gY:FnOk P w K mg base CX0 7 fK fdK ["house","order"] xN)(bK:Cal K mg "keys_behind" ["house","order"] fK fdK):FnOk P w K mg base CX0 8 f fd ["desk"] (jQ C (fun h g=>bQ (aN h.1 h.2 g)) vn):=by
 refine F.ok sF (fun vs H Q E h=>?_) (fun cdv A outer s H vs Q E hr h=>?_)
 ·obtain⟨d,wA,h,g,rfl,_⟩:=h
  rfl
 ·obtain⟨d,wA,h,g,rfl,da,⟨ok,go,gl,hl,hk⟩,q⟩:=h;refine⟨_,(ao (aE (pcl fP bV (hr.mono (by decide:1<=7)) rfl (ae (pcl gY bK hr rfl (ae (fu (pv 0) rfl) (ae (fu (pv 0) rfl) af))) af)))),?_⟩
  try dsimp only [gL,Cx.nox]
  obtain⟨dx,gA,v,ws,h1,h2,h3,h4,h5⟩:=da;refine⟨_,rfl,d,C,dx,_,v,rfl,h1,DC.cls,DC.n1,rfl,_,rfl,d,C,dx,_,.ref gA,rfl,h1,DC.cls,DC.n3,rfl,v,gA,h,g,rfl,h2.same gp,ok,(aD h5).2,go,gl,?_⟩;intro l ss H1 s1 nl pm so hl1;have pl:=pm.length_eq;refine⟨l,ss,rfl,hl1,fun k hk'=>hk k (pm.mem_iff.mp hk'),by lia,fun H2 s2=>?_⟩;rw [pA pm];exact q H2 (s1.trans s2)
theorem aag {f fS fK C:Addr}{fd fdS fdK:FuncData}(F:Fun K "tell_next" "tell_next" jd f fd)(DC:kK K C)(gG:FnOk P w K mg base CX0 1 fS fdS ["numbers"] tu)(b6:Cal K mg "show_numbers" ["numbers"] fS fdS)(r9:FnOk P w K mg base CX0 7 fK fdK ["house","order"] xb)(jf:Cal K mg "next_rooms" ["house","order"] fK fdK):FnOk P w K mg base CX0 8 f fd ["desk"] (jQ C (fun h g=>kx (gr h.2 (aN h.1 h.2 g) g)) vG):=by
 refine F.ok rJ (fun vs H Q E h=>?_) (fun cdv A outer s H vs Q E hr h=>?_)
 ·obtain⟨d,wA,h,g,rfl,_⟩:=h
  rfl
 ·obtain⟨d,wA,h,g,rfl,da,⟨ok,go,gl,hl⟩,q⟩:=h;refine⟨_,(ao (aE (pcl gG b6 (hr.mono (by decide:1<=7)) rfl (ae (pcl r9 jf hr rfl (ae (fu (pv 0) rfl) (ae (fu (pv 0) rfl) af))) af)))),?_⟩
  try dsimp only [gL,Cx.nox]
  obtain⟨dx,gA,v,ws,h1,h2,h3,h4,h5⟩:=da;refine⟨_,rfl,d,C,dx,_,v,rfl,h1,DC.cls,DC.n1,rfl,_,rfl,d,C,dx,_,.ref gA,rfl,h1,DC.cls,DC.n3,rfl,v,gA,h,g,rfl,h2.same gp,ok,(aD h5).2,go,gl,?_⟩;intro l H1 s1 nl hl1;have nx:∀ n∈gr h.2 (aN h.1 h.2 g) g,n < h.2.length:=fun n hn=>ahC.mp (ahi.mp hn).1;have nl2:(gr h.2 (aN h.1 h.2 g) g).length<=h.2.length:=by
   have:=ag4 (fun i=>!decide (i∈g) && o1 (aN h.1 h.2 g) ((h.2[i]?).getD ([],[])).1) (List.range h.2.length);rw [ahB] at this;exact this
  exact⟨l,_,rfl,hl1,by lia,fun n hn=>by have:=nx n hn;lia,fun H2 s2=>q H2 (s1.trans s2)⟩
theorem FnOk.wk {P:Program}{w:World}{K:PySem.W.Frag}{mg:Str->Option Value}{base:Heap}{CX:CXT}{k:Nat}{f:Addr}{fd:FuncData}{ps:List Str}{sp sp':Sp}(F:FnOk P w K mg base CX k f fd ps sp)(h:∀ vs H Q E,sp' vs H Q E->sp vs H Q E):FnOk P w K mg base CX k f fd ps sp' :=
 ⟨fun vs H Q E x=>F.len vs H Q E (h _ _ _ _ x),fun A outer s H args us vs Q E hr e hb r x=>F.run A outer s H args us vs Q E hr e hb r (h _ _ _ _ x)⟩
def eV (h:Hs)(g:List Nat)(n:Nat):Bool:=decide (n < h.2.length) && (!decide (n∈g) && o1 (aN h.1 h.2 g) ((h.2[n]?).getD ([],[])).1)
theorem nu {h:Hs}{g:List Nat}{n:Nat}(go:jx h.1 h.2 g)(s:eV h g n=true):jx h.1 h.2 (g++[n]):=by
 unfold eV at s;rw [afx,afx] at s;obtain⟨s1,s2,s3⟩:=s;intro j i e;by_cases hj:j < g.length
 ·rw [afp hj] at e;rw [agg (by lia)];exact go j i e
 ·have lt:=(aeZ.mp e).1;rw [aeV] at lt;have ej:j=g.length:=by
   have:lt=lt:=rfl;simp at lt;lia
  subst ej;rw [aff (ae4 _),agA] at e;cases e;rw [ahb];exact⟨af4 s1,by simpa using s2,s3⟩
theorem zo {h:Hs}{g:List Nat}(go:jx h.1 h.2 g)(k:Nat):jx h.1 h.2 (g.take k):=by
 intro j i e;rw [aid] at e;split at e
 ·rename_i hj;rw [ahE,agn (by lia)];exact go j i e
 ·cases e
theorem uO:∀ {n:Nat} {o:List Nat},o.Nodup->(∀ i∈o,i < n)->o.length<=n
 | 0,[],_,_=>ae4 _
 | 0,a::_,_,lt=>absurd (lt a (aeX ..)) (by lia)
 | n+1,o,nd,lt=>by
  have ih:=uO (n:=n) (o:=o.erase n) (nd.erase n) fun i hi=>by
   have:=lt i (ai3 hi);have:i≠n:=fun z=>by subst z;exact (nd.not_mem_erase) hi
   lia
  by_cases hn:n∈o
  ·rw [List.length_erase_of_mem hn] at ih;lia
  ·rw [List.erase_of_not_mem hn] at ih;lia
theorem h8 {h:Hs}{g:List Nat}(go:jx h.1 h.2 g):g.length<=h.2.length:=by
 refine uO (ag9.mpr fun i j hi hj lt e=>?_) fun i hi=>?_
 ·refine (go j g[j] (aeS hj)).2.1 (afO.mpr ⟨i,?_⟩);rw [aid,if_pos lt,aeS hi,e]
 ·obtain⟨j,e⟩:=afO.mp hi;exact (go j i e).1
def sV:Sp:=fun vs H Q _=>∃ (r a g:Addr) (n:Nat) (us:List V) (rs:List Rm) (hand:List Str) (gone:List Nat),vs=[.ref r,.ref a,.ref g,.int n]/\H r=some (.lst us)/\RoomsAt H us rs/\(∀ q∈rs,q.1.length<=1000)/\H a=some (.lst (hand.map V.str))/\H g=some (.lst (dF gone)) ∧
 ∀ H',Same H H'->Q (.bl (decide (n < rs.length) && (!decide (n∈gone) && o1 hand ((rs[n]?).getD ([],[])).1))) H'
def vD (cS:Addr):Sp:=fun vs H Q E=>∃ (v:V) (o:Addr) (h:Hs) (g:List Nat) (n:Nat),vs=[v,.ref o]/\HouseAt H v h/\bC h/\H o=some (.lst (dF (g++[n])))/\jx h.1 h.2 g/\g.length < 200 ∧
 (eV h g n=true->∀ (l:Addr) (H':Hp),Same H H'->H l=none->H' l=some (.lst ((aN h.1 h.2 (g++[n])).map V.str))->Q (.ref l) H')/\(eV h g n=false->∀ H',Same H H'->E (.ref cS) none H')
def xS (cS:Addr):Sp:=fun vs H Q E=>∃ (v:V) (o:Addr) (h:Hs) (g:List Nat) (n:Nat),vs=[v,.ref o]/\HouseAt H v h/\bC h/\H o=some (.lst (dF (g++[n])))/\jx h.1 h.2 g/\g.length < 200 ∧
 (eV h g n=true->∀ (l:Addr) (H':Hp),Same H H'->Q (.ref l) H')/\(eV h g n=false->∀ H',Same H H'->E (.ref cS) none H')
theorem zF {f fW fS:Addr}{fd fdW fdS:FuncData}(F:Fun K "is_step" "is_step" lu f fd)(wC:FnOk P w K mg base CX0 1 fW fdW ["thing"] xP)(k9:Cal K mg "is_whole" ["thing"] fW fdW)
 (aan:FnOk P w K mg base CX0 1 fS fdS ["hand","locks"] vF)(p7:Cal K mg "serves" ["hand","locks"] fS fdS)(br:mg "len" = none):FnOk P w K mg base CX0 2 f fd ["rooms","hand","gone","number"] sV:=by
 refine F.ok wJ (fun vs H Q E h=>?_) (fun cdv A outer s H vs Q E hr h=>?_)
 ·obtain⟨r,a,g,n,us,rs,hand,gone,rfl,_⟩:=h
  rfl
 ·obtain⟨r,a,g,n,us,rs,hand,gone,rfl,hr',hR,hl,ha,hg,k⟩:=h;refine⟨_,(ah (bO (PW.pt (oX (dq (eN (pcl wC k9 hr rfl (ae (pv 3) af)))) (jW (dq (qb uu yP aq (pv 3) (av aH rfl br afr (ae (pv 0) af)))))))
   (ao (aE pU)) aO)
   (ao (aE (jU (bN lQ (pv 3) (pv 2) rfl) (lG (pcl aan p7 hr rfl (ae (pv 1) (ae (a7 bJ (a7 aX (pv 0) (pv 3) (fun _ _=>rfl)) aq (fun _ _=>rfl)) af)))))))),?_⟩
  refine⟨_,rfl,(n:Int),rfl,fun H1 s1=>⟨true,rfl,km ?_⟩⟩;refine⟨_,rfl,0,_,rfl,rfl,true,afH V.bl (afm (by lia)),kW ?_⟩;by_cases hn:n < rs.length
  ·refine⟨_,rfl,r,us,rfl,.inl (aAA (s1 _ _ hr')),_,_,rfl,rfl,true,afH V.bl (afm (by have:=hR.1;lia)),km ?_⟩;refine⟨_,rfl,_,rfl,g,_,rfl,.inl (aAA (s1 _ _ hg)),rfl,oi gone,?_⟩;rw [afm hn] at k;by_cases hin:n∈gone
   ·refine⟨false,afH V.bl (by rw [if_pos rfl,qH,afm hin];rfl),km ?_⟩;have:=k H1 s1;rw [afm hin] at this;exact this
   ·refine⟨true,afH V.bl (by rw [if_pos rfl,qH,afv hin];rfl),kW ?_⟩;obtain⟨q,hq⟩:∃ q,rs[n]? = some q:=⟨_,aeS hn⟩;obtain⟨v,hv⟩:∃ v,us[n]? = some v:=⟨_,aeS (by rw [hR.1];exact hn)⟩;obtain⟨tt,aa,bb,rfl,q1,q2,q3⟩:=(hR.2 n v q hv hq).same s1;refine⟨_,rfl,_,rfl,_,rfl,r,us,(n:Int),_,rfl,rfl,aAA (s1 _ _ hr'),bP hv,tt,_,0,.ref aa,rfl,rfl,aAB q1,rfl,a,aa,hand,q.1,rfl,s1 _ _ ha,q2,hl q (afY hq),fun H2 s2=>?_⟩;have:=k H2 (s1.trans s2);rw [afv hin,hq] at this;exact this
  ·refine⟨_,rfl,r,us,rfl,.inl (aAA (s1 _ _ hr')),_,_,rfl,rfl,false,afH V.bl (afv (by have:=hR.1;lia)),kW ?_⟩;have:=k H1 s1;rw [afv hn] at this;exact this
theorem abH {f:Addr}{fd:FuncData}(F:FnOk P w K mg base CX0 2 f fd ["rooms","hand","gone","number"] sV):FnOk P w K mg base CX0 2 f fd ["rooms","hand","gone","number"] yh :=
 FnOk.wk F fun vs H Q E ⟨r,a,g,n,us,rs,hand,gone,e,h1,h2,h3,h4,h5,hn,k⟩=>⟨r,a,g,n,us,rs,hand,gone,e,h1,h2,h3,h4,h5,by rw [afm hn];exact k⟩
theorem acn {f fS fB fI cS:Addr}{fd fdS fdB fdI:FuncData}{bmS:List Value}(F:Fun K "hand_after" "hand_after" fh f fd)(i5:FnOk P w K mg base CX0 2 fS fdS ["rooms","hand","gone","number"] sV)(dC:Cal K mg "is_step" ["rooms","hand","gone","number"] fS fdS)
 (hU:FnOk P w K mg base CX0 1 fB fdB ["hand","room"] qC)(cB:Cal K mg "hand_behind" ["hand","room"] fB fdB)(dZ:mg "enumerate" = none)(aB:mg "isinstance" = none)(cZ:mg "list" = none)
 (o_NoStep:kT K cS fI bmS)(cz:FnOk P w K mg base CX0 1 fI fdI ["self","at"] (pZ cS))(cA:Binds K fdI ["self","at"] [])(gy:mg "NoStep" = some (.ref cS)):FnOk P w K mg base (CXr P w) 3 f fd ["house","order"] (vD cS):=by
 refine F.okR aU (fun vs H Q E h=>?_) (fun cdv A outer s H vs Q E hr h=>?_)
 ·obtain⟨v,o,h,g,n,rfl,_⟩:=h
  rfl
 ·obtain⟨v,o,h,g,n0,rfl,⟨t,a,r,us,rfl,ht,ha,hr',hR⟩,ok,ho,hg,hol,k1,k2⟩:=h;refine⟨_,(ah (bO (dq (eN (av bH rfl aB (by decide +kernel) (ae (pv 1) (ae (eW (v:=.ty "list") (u:=.type "list") rfl cZ (by decide +kernel) rfl) af)))))
   (ao (kP o_NoStep cz hr cA rfl gy (ae md af))) aO)
   (ah (gv (pv 0) (gz rfl (aM (aA (i:=2) aU.nd rfl (.inl rfl)) (aM (aA (i:=3) aU.nd rfl (.inl rfl)) cU))))
   (ah (aL (i:=4) aU.nd rfl (.inl rfl) (aR de rfl cZ (by decide +kernel) (ae (pv 2) af)))
   (ah (cn (gj PassesOwn.leaving rfl (yX rfl dZ (ae (pv 1) af)) (gz rfl (aM (aA (i:=5) aU.nd rfl (.inl rfl)) (aM (aA (i:=6) aU.nd rfl (.inl rfl)) cU)))
    (ah (bO (dq (eN (pcl i5 dC hr rfl (ae (pv 3) (ae (pv 4) (ae (d7 iy (pv 1) gJ (gB (pv 5))) (ae (pv 6) af)))))))
     (ao (kP o_NoStep cz hr cA rfl gy (ae (pv 5) af))) aO)
    (ao (aL (i:=4) aU.nd rfl (.inl rfl) (pcl hU cB (hr.mono (by decide:1<=2)) rfl (ae (pv 4) (ae (a7 aX (pv 3) (pv 6) (fun _ _=>rfl)) af))))))))
   (ao (aE (pv 4))))))),?_⟩
  try dsimp only [gL]
  refine⟨_,rfl,_,_,_,true,rfl,.lst ho,eG K _,true,rfl,km ?_⟩;refine⟨_,rfl,t,_,rfl,aAB ht,rfl,_,_,rfl,_,_,rfl,rfl,?_⟩;refine⟨_,rfl,a,_,rfl,.inl (aAA ha),fun l nl=>?_⟩;have s1:Same H (upd H l (.lst (h.1.map V.str))):=fun b u e=>by rw [ax (ai e nl)];exact e
  refine⟨fun σ' H'=>∃ (l:Addr) (x5 x6:Option V),σ'=[some (.ref t),some (.ref o),some (.ref a),some (.ref r),some (.ref l),x5,x6]/\H' l=some (.lst ((aN h.1 h.2 (g++[n0])).map V.str))/\H l=none/\Same H H'/\eV h g n0=true,?_,?_⟩
  ·rintro σ H2 ⟨l,x5,x6,rfl,hl,nl,s2,sb⟩;exact⟨_,rfl,k1 sb l H2 s2 nl hl⟩
  have gl:(g++[n0]).length=g.length+1:=by rw [aeV];rfl
  refine⟨_,rfl,o,rfl,⟨_,aAA (s1 _ _ ho)⟩,?_⟩;refine vq (xs:=dF (g++[n0])) (fun i σ' H'=>∃ (l:Addr) (x5 x6:Option V),σ'=[some (.ref t),some (.ref o),some (.ref a),some (.ref r),some (.ref l),x5,x6]/\H' l=some (.lst ((aN h.1 h.2 ((g++[n0]).take i)).map V.str))/\H l=none/\Same H H'/\(g.length < i->eV h g n0=true)) ⟨l,_,_,rfl,ag,nl,s1,fun z=>by lia⟩ (fun i σ H' _ ⟨_,_,_,_,_,_,s,_⟩=>aAA (s _ _ ho)) ?_ ?_
  ·rintro i x σ H2 T hx ⟨l2,x5,x6,rfl,hl2,nl2,s2,sb2⟩ nT;have hi:i < (g++[n0]).length:=by
    have:=(aeZ.mp hx).1;rw [aeT] at this;exact this
   obtain⟨n,hn⟩:∃ n,(g++[n0])[i]? = some n:=⟨_,aeS hi⟩;rw [afg,hn] at hx;cases hx;have sT:Same H2 (upd H2 T (.tup [.int (i:Int),.int ((n:Nat):Int)])):=fun b u e=>by rw [ax (ai e nT)];exact e
   refine⟨T,_,rfl,aAB ag,rfl,_,_,rfl,_,_,rfl,rfl,?_⟩;have hl3:=sT _ _ hl2;have s3:=s2.trans sT;generalize upd H2 T (.tup [.int (i:Int),.int ((n:Nat):Int)])=H3 at hl3 s3 ⊢;refine⟨_,rfl,_,rfl,_,rfl,_,rfl,_,rfl,o,_,rfl,aAA (s3 _ _ ho),fun c nc=>?_⟩;rw [yY (by rw [aeT];lia)];have ec:(dF (g++[n0])).take i=dF ((g++[n0]).take i):=aiz.symm;rw [ec];have s4:Same H3 (upd H3 c (.lst (dF ((g++[n0]).take i)))):=fun b u e=>by rw [ax (ai e nc)];exact e
   have hc4:(upd H3 c (.lst (dF ((g++[n0]).take i)))) c=some (.lst (dF ((g++[n0]).take i))):=ag;generalize upd H3 c (.lst (dF ((g++[n0]).take i)))=H4 at s4 hc4 ⊢;have s04:=s3.trans s4;refine⟨_,rfl,r,l2,c,n,us,h.2,aN h.1 h.2 ((g++[n0]).take i),(g++[n0]).take i,rfl,s04 _ _ hr',hR.same s04,fun q hq=>by have:=(ok.rs q hq).l4;lia,s4 _ _ hl3,hc4,fun H5 s5=>?_⟩;have s05:=s04.trans s5;have last:¬ i < g.length->i=g.length/\n=n0/\(g++[n0]).take i=g:=fun z=>by
    have e:i=g.length:=by lia
    subst e;rw [aff (ae4 _),agA] at hn;cases hn;exact⟨rfl,rfl,ahb⟩
   cases hb:(decide (n < h.2.length) && (!decide (n∈(g++[n0]).take i) && o1 (aN h.1 h.2 ((g++[n0]).take i)) ((h.2[n]?).getD ([],[])).1)) with
   | false =>
    have nl:¬ i < g.length:=fun z=>by
     rw [afp z] at hn;obtain⟨g1,g2,g3⟩:=hg i n hn;rw [agg (by lia),afm g1,afv g2,g3] at hb;cases hb
    obtain⟨ei,en,et⟩:=last nl;rw [en,et] at hb;refine⟨false,rfl,kW ?_⟩;exact⟨_,rfl,by show 1<=1000;decide,fun e ne=>⟨e,.int (i:Int),rfl,ag,.inr ⟨i,rfl,by lia⟩,rfl,ag,k2 hb _ (s05.trans (qa ne))⟩⟩
   | true =>
    refine⟨true,rfl,km ?_⟩;have hb2:=hb;rw [afx,afx] at hb2;obtain⟨g1,g2,g3⟩:=hb2;have g1:=af4 g1;obtain⟨q,hq⟩:∃ q,h.2[n]? = some q:=⟨_,aeS g1⟩;obtain⟨v,hv⟩:∃ v,us[n]? = some v:=⟨_,aeS (by rw [hR.1];exact g1)⟩;have hrm:=(hR.2 n v q hv hq).same s05;have hf:=jI ok (order:=(g++[n0]).take i) (by rw [afs];lia);have hkl:=(ok.rs q (afY hq)).kl;rw [hq] at g3;refine⟨_,rfl,_,rfl,_,rfl,r,us,(n:Int),_,rfl,rfl,aAA (s05 _ _ hr'),bP hv,l2,v,aN h.1 h.2 ((g++[n0]).take i),q,rfl,s5 _ _ (s4 _ _ hl3),hrm,g3,afC (by lia:_<=202000) (by decide),fun l6 H6 s6 nl6 hl6=>?_⟩;refine⟨l6,_,_,rfl,?_,s05.free nl6,s05.trans s6,fun z=>?_⟩
    ·rw [hl6,afW,hn];show _=some (HO.lst ((aN h.1 h.2 ((g++[n0]).take i++[n])).map V.str));rw [j9,hq]
     rfl
    ·obtain⟨ei,en,et⟩:=last (by lia);rw [en,et] at hb;exact hb
  ·rintro σ H2 ⟨l2,x5,x6,rfl,hl2,nl2,s2,sb2⟩;rw [aeT,afK] at hl2;exact⟨l2,x5,x6,rfl,hl2,nl2,s2,sb2 (by rw [aeT];lia)⟩
theorem ach {f fR fA cS:Addr}{fd fdR fdA:FuncData}(F:Fun K "keys_behind" "keys_behind" d9 f fd)(bj:FnOk P w K mg base CX0 6 fR fdR ["thing"] wj)(aK:Cal K mg "require_house" ["thing"] fR fdR)
 (eM:FnOk P w K mg base (CXr P w) 3 fA fdA ["house","order"] (vD cS))(bx:Cal K mg "hand_after" ["house","order"] fA fdA)(aW:mg "sorted" = none):FnOk P w K mg base (CXr P w) 7 f fd ["house","order"] (xS cS):=by
 refine F.okR jT (fun vs H Q E h=>?_) (fun cdv A outer s H vs Q E hr h=>?_)
 ·obtain⟨v,o,h,g,n,rfl,_⟩:=h
  rfl
 ·obtain⟨v,o,h,g,n0,rfl,hh,ok,ho,hg,hol,k1,k2⟩:=h;refine⟨_,(ah (bW (pcl bj aK hr rfl (ae (pv 0) af)))
   (ao (aE (av eK rfl aW ag3 (ae (fX eM (hr.mono (by decide:3<=6)) rfl bx.mg bx.kp bx.b .nil (rL (E:=E) fun _ _ _ h=>h) (ae (pv 0) (ae (pv 1) af))) af))))),?_⟩
  have lim:1000000<=sizeLine:=by decide
  refine⟨_,rfl,v,h,rfl,hh,ok,fun H1 s1=>?_⟩;refine⟨_,rfl,_,rfl,v,o,h,g,n0,rfl,hh.same s1,ok,s1 _ _ ho,hg,hol,fun z l H2 s2 nl hl=>?_,fun z H2 s2=>k2 z H2 (s1.trans s2)⟩;have hf:=jI ok (order:=g++[n0]) (by rw [aeV];show g.length+1<=200;lia);exact⟨l,_,rfl,aAA hl,by lia,fun l2 ss' n2 pm so=>k1 z l2 _ ((s1.trans s2).trans (aj n2))⟩
def aaX (C cS:Addr):Sp:=fun vs H Q E=>∃ (d wA:Addr) (h:Hs) (g:List Nat) (n:Nat),vs=[.ref d,.str (eI n)]/\DeskAt C H d wA h g/\bC h/\jx h.1 h.2 g/\g.length < 200/\n < 1000000000 ∧
 (eV h g n=true->PutPost C H d wA h g h (g++[n]) fun H'=>Q (.str "ok") H')/\(eV h g n=false->∀ H',Same H H'->E (.ref cS) none H')
def abf (C cS:Addr):Sp:=fun vs H Q E=>∃ (d wA:Addr) (h:Hs) (g:List Nat),vs=[.ref d]/\DeskAt C H d wA h g/\g.length<=200 ∧
 (g≠[]->PutPost C H d wA h g h g.dropLast fun H'=>Q (.str "ok") H')/\(g=[]->∀ H',Same H H'->E (.ref cS) none H')
theorem vi {C:Addr}{H H1:Hp}{d dx wA gA g2:Addr}{v:V}{h:Hs}{g g':List Nat}{k:Hp->Prop}(h1:H d=some (.ins C dx (fs3 v wA gA)))(h3:∃ ws,H wA=some (.lst ws))(s1:Same H H1)(n2:H g2=none)(e2:H1 g2=some (.lst (aQ g')))(q:PutPost C H d wA h g h g' k):k (upd H1 d (.ins C dx (fs3 v wA g2))):=by
 have Br:Bar d wA H (upd H1 d (.ins C dx (fs3 v wA g2))):=fun b u n1 _ e=>by rw [ax n1];exact s1 b u e
 have gd:g2≠d:=fun z=>by rw [z,h1] at n2;cases n2
 obtain⟨ws,h3⟩:=h3;have gw:g2≠wA:=fun z=>by rw [z,h3] at n2;cases n2
 refine q _ wA Br fun S iS x=>?_;obtain⟨dx',gA',v',ws',x1,x2,x3,x4,x5⟩:=x;have x1':=(aD x1).2;rw [h1] at x1';cases x1';have kk:=qx (S:=S) (wA':=wA) Br (.inl rfl);have wd:wA≠d:=fun z=>by rw [z,h1] at h3;cases h3
 exact⟨dx,g2,v,ws',aG (aD x1).1 ag,x2.same kk,aG (aD x3).1 (by rw [ax wd];exact s1 _ _ (aD x3).2),x4,aG (yH gd gw) (aG (iS.off n2) (by rw [ax gd];exact e2))⟩
theorem uM (xs:List V):uV xs none (some (-1))=xs.dropLast:=by
 unfold uV;rw [HT.sIx_none,ai0,afV,ai4];congr 1;cases xs with
 | nil=>rfl
 | cons a r =>
  unfold HT.sIx;simp;lia
theorem lR:az ["desk","rest","order"] ["desk","rest"] (ak jv):=scM rfl rfl rfl rfl (by decide +kernel)
theorem vQ:az ["desk"] ["desk"] (ak lD):=scM rfl rfl rfl rfl (by decide +kernel)
theorem abP {f fN fK C cS:Addr}{fd fdN fdK:FuncData}(F:Fun K "open_room" "open_room" jv f fd)(DC:kK K C)(gI:FnOk P w K mg base CX0 2 fN fdN ["text","many"] mW)(b7:Cal K mg "read_numbers" ["text","many"] fN fdN)
 (gY:FnOk P w K mg base (CXr P w) 7 fK fdK ["house","order"] (xS cS))(bK:Cal K mg "keys_behind" ["house","order"] fK fdK):FnOk P w K mg base (CXr P w) 8 f fd ["desk","rest"] (aaX C cS):=by
 refine F.okR lR (fun vs H Q E h=>?_) (fun cdv A outer s H vs Q E hr h=>?_)
 ·obtain⟨d,wA,h,g,n,rfl,_⟩:=h
  rfl
 ·obtain⟨d,wA,h,g,n,rfl,da,ok,go,gl,hn,q1,q2⟩:=h;refine⟨_,(ah (aL (i:=2) lR.nd rfl (.inl rfl) (aZ dE (fu (pv 0) rfl) (pcl gI b7 (hr.mono (by decide:2<=7)) rfl (ae (pv 1) (ae aq af)))))
   (ah (bW (fX gY hr rfl bK.mg bK.kp bK.b .nil (rL (E:=E) fun _ _ _ h=>h) (ae (fu (pv 0) rfl) (ae (pv 2) af))))
   (ah (jV (pv 0) (pv 2) rfl)
   (ao (aE au))))),?_⟩
  try dsimp only [gL]
  have lim:100000<=sizeLine:=by decide
  obtain⟨dx,gA,v,ws,h1,h2,h3,h4,h5⟩:=da;have oL:(aQ g).length=g.length:=aeT _;refine⟨_,rfl,d,C,dx,_,.ref gA,rfl,h1,DC.cls,DC.n3,rfl,?_⟩;refine⟨_,rfl,eI n,[eI n],[n],rfl,(by rw [ql,d8]),by simp,by show 1<=2;decide,rfl,fun i z m e1 e2=>?_,fun l H1 s1 nl e1=>?_⟩
  ·match i with
   | 0=>cases e1;cases e2;exact lZ hn
   | i+1=>simp at e1
  refine⟨gA,l,_,_,rfl,rfl,s1 _ _ (aD h5).2,e1,by rw [oL];show g.length+1<=sizeLine;lia,fun o no=>?_⟩;rw [show aQ g++List.map (fun (n:Nat)=>V.int (n:Int)) [n]=aQ (g++[n]) from (afe ..).symm];have s2:Same H1 (upd H1 o (.lst (aQ (g++[n])))):=aj no;have e2:(upd H1 o (.lst (aQ (g++[n])))) o=some (.lst (aQ (g++[n]))):=ag;have S2:=s1.trans s2;have no0:=s1.free no;generalize upd H1 o (.lst (aQ (g++[n])))=H2 at *;refine⟨_,rfl,d,C,dx,_,v,rfl,S2 _ _ h1,DC.cls,DC.n1,rfl,_,rfl,v,o,h,g,n,rfl,(h2.same gp).same S2,ok,e2,go,gl,fun z l3 H3 s3=>?_,fun z H3 s3=>q2 z H3 (S2.trans s3)⟩;refine⟨_,rfl,_,rfl,d,C,dx,_,rfl,s3 _ _ (S2 _ _ h1),DC.cls,DC.n3,by show 3 < 1000;decide,?_⟩;exact vi h1 ⟨_,h3⟩ (S2.trans s3) no0 (s3 _ _ e2) (q1 z)
theorem abW {f fI C cS:Addr}{fd fdI:FuncData}{bmS:List Value}(F:Fun K "go_back" "go_back" lD f fd)(DC:kK K C)(o_NoStep:kT K cS fI bmS)(cz:FnOk P w K mg base CX0 1 fI fdI ["self","at"] (pZ cS))(cA:Binds K fdI ["self","at"] [])(gy:mg "NoStep" = some (.ref cS)):FnOk P w K mg base (CXr P w) 3 f fd ["desk"] (abf C cS):=by
 refine F.okR vQ (fun vs H Q E h=>?_) (fun cdv A outer s H vs Q E hr h=>?_)
 ·obtain⟨d,wA,h,g,rfl,_⟩:=h
  rfl
 ·obtain⟨d,wA,h,g,rfl,da,gl,q1,q2⟩:=h;refine⟨_,(ah (bO (dq (qi (fu (pv 0) rfl) (by intro _;rfl)))
   (ao (kP o_NoStep cz hr cA rfl gy (ae md af))) aO)
   (ah (jV (pv 0) (d7 iy (fu (pv 0) rfl) gJ (gB (yt qM aq))) rfl)
   (ao (aE au)))),?_⟩
  try dsimp only [gL]
  have lim:100000<=sizeLine:=by decide
  obtain⟨dx,gA,v,ws,h1,h2,h3,h4,h5⟩:=da;refine⟨_,rfl,d,C,dx,_,.ref gA,rfl,h1,DC.cls,DC.n3,rfl,!(aQ g).isEmpty,.inl ⟨_,aAA (aD h5).2,rfl⟩,?_⟩;by_cases e:g=[]
  ·subst e;refine kW ?_;exact⟨by show 1<=1000;decide,fun e ne=>⟨e,.non,rfl,ag,.inl rfl,rfl,ag,q2 rfl _ (qa ne)⟩⟩
  ·rw [show (!(aQ g).isEmpty)=true by cases g with | nil=>exact absurd rfl e | cons _ _=>rfl];refine km ?_;refine⟨_,rfl,d,C,dx,_,.ref gA,rfl,h1,DC.cls,DC.n3,rfl,1,rfl,-1,rfl,gA,_,rfl,aAA (aD h5).2,fun g2 n2=>?_⟩;rw [uM,show (aQ g).dropLast=aQ g.dropLast from ait.symm];have s2:Same H (upd H g2 (.lst (aQ g.dropLast))):=aj n2;have e2:(upd H g2 (.lst (aQ g.dropLast))) g2=some (.lst (aQ g.dropLast)):=ag;generalize upd H g2 (.lst (aQ g.dropLast))=H2 at *;refine⟨_,rfl,d,C,dx,_,rfl,s2 _ _ h1,DC.cls,DC.n3,by show 3 < 1000;decide,?_⟩;exact vi h1 ⟨_,h3⟩ s2 n2 e2 (q1 e)
end
def cF (f0 f1 f2 f3 f4 f5 f6 f7 f8 f9 fa fb fc:Addr):List (Key×V):=[(.inr "back",.ref f0),(.inr "new",.ref f1),(.inr "hand",.ref f2),(.inr "next",.ref f3),(.inr "gone",.ref f4),(.inr "all",.ref f5),(.inr "first",.ref f6),(.inr "buy",.ref f7),(.inr "orders",.ref f8),(.inr "most",.ref f9),(.inr "best",.ref fa),(.inr "show",.ref fb),(.inr "rooms",.ref fc)]
def lz (g0 g1 g2 g3 g4:Addr):List (Key×V):=[(.inr "keys",.ref g0),(.inr "room",.ref g1),(.inr "worth",.ref g2),(.inr "open",.ref g3),(.inr "nth",.ref g4)]
theorem gf {k:Key}{v:V}{r:List (Key×V)}:kU ((k,v)::r) k=some v:=by
 unfold kU;rw [List.find?_cons_of_pos (by simp)]
 rfl
theorem aI {k k':Key}{v:V}{r:List (Key×V)}(h:k'≠k):kU ((k',v)::r) k=kU r k:=by
 unfold kU;rw [List.find?_cons_of_neg (by simpa using h)]
theorem bg {a b:Str}(h:a.cps.toList≠b.cps.toList):(Sum.inr a:Key)≠.inr b:=fun e=>by
 injection e with e
 exact h (by rw [e])
section
variable {f0 f1 f2 f3 f4 f5 f6 f7 f8 f9 fa fb fc g0 g1 g2 g3 g4:Addr}
theorem acd {z:Str}(h:32∈z.cps.toList):kU (cF f0 f1 f2 f3 f4 f5 f6 f7 f8 f9 fa fb fc) (.inr z)=none:=by
 have ne:∀ a:Str,32 ∉ a.cps.toList->(Sum.inr a:Key)≠.inr z:=fun a ha=>bg fun e=>ha (by rw [e];exact h);unfold cF;rw [aI (ne _ (by decide +kernel)),aI (ne _ (by decide +kernel)),aI (ne _ (by decide +kernel)),aI (ne _ (by decide +kernel)),aI (ne _ (by decide +kernel)),aI (ne _ (by decide +kernel)),aI (ne _ (by decide +kernel)),aI (ne _ (by decide +kernel)),aI (ne _ (by decide +kernel)),aI (ne _ (by decide +kernel)),aI (ne _ (by decide +kernel)),aI (ne _ (by decide +kernel)),aI (ne _ (by decide +kernel))]
 rfl
theorem acV:kU (cF f0 f1 f2 f3 f4 f5 f6 f7 f8 f9 fa fb fc) (.inr "new")=some (.ref f1):=by
 unfold cF;rw [aI (bg (by decide +kernel)),gf]
theorem abD:kU (cF f0 f1 f2 f3 f4 f5 f6 f7 f8 f9 fa fb fc) (.inr "hand")=some (.ref f2):=by
 unfold cF;rw [aI (bg (by decide +kernel)),aI (bg (by decide +kernel)),gf]
theorem abj:kU (cF f0 f1 f2 f3 f4 f5 f6 f7 f8 f9 fa fb fc) (.inr "next")=some (.ref f3):=by
 unfold cF;rw [aI (bg (by decide +kernel)),aI (bg (by decide +kernel)),aI (bg (by decide +kernel)),gf]
theorem acx:kU (cF f0 f1 f2 f3 f4 f5 f6 f7 f8 f9 fa fb fc) (.inr "gone")=some (.ref f4):=by
 unfold cF;rw [aI (bg (by decide +kernel)),aI (bg (by decide +kernel)),aI (bg (by decide +kernel)),aI (bg (by decide +kernel)),gf]
theorem abV:kU (cF f0 f1 f2 f3 f4 f5 f6 f7 f8 f9 fa fb fc) (.inr "show")=some (.ref fb):=by
 unfold cF;rw [aI (bg (by decide +kernel)),aI (bg (by decide +kernel)),aI (bg (by decide +kernel)),aI (bg (by decide +kernel)),aI (bg (by decide +kernel)),aI (bg (by decide +kernel)),aI (bg (by decide +kernel)),aI (bg (by decide +kernel)),aI (bg (by decide +kernel)),aI (bg (by decide +kernel)),aI (bg (by decide +kernel)),gf]
theorem aaJ:kU (cF f0 f1 f2 f3 f4 f5 f6 f7 f8 f9 fa fb fc) (.inr "rooms")=some (.ref fc):=by
 unfold cF;rw [aI (bg (by decide +kernel)),aI (bg (by decide +kernel)),aI (bg (by decide +kernel)),aI (bg (by decide +kernel)),aI (bg (by decide +kernel)),aI (bg (by decide +kernel)),aI (bg (by decide +kernel)),aI (bg (by decide +kernel)),aI (bg (by decide +kernel)),aI (bg (by decide +kernel)),aI (bg (by decide +kernel)),aI (bg (by decide +kernel)),gf]
theorem acB:kU (lz g0 g1 g2 g3 g4) (.inr "keys")=some (.ref g0):=by
 unfold lz;rw [gf]
theorem acw:kU (lz g0 g1 g2 g3 g4) (.inr "room")=some (.ref g1):=by
 unfold lz;rw [aI (bg (by decide +kernel)),gf]
theorem acu:kU (cF f0 f1 f2 f3 f4 f5 f6 f7 f8 f9 fa fb fc) (.inr "back")=some (.ref f0):=by
 unfold cF;rw [gf]
theorem abC:kU (lz g0 g1 g2 g3 g4) (.inr "open")=some (.ref g3):=by
 unfold lz;rw [aI (bg (by decide +kernel)),aI (bg (by decide +kernel)),aI (bg (by decide +kernel)),gf]
theorem zO:kU (lz g0 g1 g2 g3 g4) (.inr "worth")=some (.ref g2):=by
 unfold lz;rw [aI (bg (by decide +kernel)),aI (bg (by decide +kernel)),gf]
end
inductive Say (C cT cS:Addr)(H:Hp)(d wA:Addr)(h:Hs)(g:List Nat)(Q:VK)(E:XK):Str->Prop
 | keys (ks:List Str):(∀ k∈ks,aP k)->ks.length<=400->PutPost C H d wA h g (ks,h.2) [] (fun H'=>Q (.str "ok") H')->Say C cT cS H d wA h g Q E ("keys" ++ cBl++wrK ks)
 | room (ls ks:List Str):bC h->h.2.length<=12->(∀ k∈ls,aP k)->1<=ls.length->ls.length<=4->(∀ k∈ks,aP k)->ks.length<=400->(h.2.length < 12->PutPost C H d wA h g (h.1,h.2++[(bR ls,ks)]) [] fun H'=>Q (.str "ok") H')->(h.2.length=12->∀ H',Same H H'->E (.ref cT) none H')->Say C cT cS H d wA h g Q E ("room" ++ cBl++(Txt.join cPl ls++cBl++wrK ks))
 | worth (a b:Nat):h.2.length<=1000->a < 1000000000->b < 1000000000->(a < h.2.length->PutPost C H d wA h g h g fun H'=>Q (.str "ok") H')->(h.2.length<=a->∀ H',Same H H'->E (.ref cS) none H')->Say C cT cS H d wA h g Q E ("worth" ++ cBl++Txt.join cBl [eI a,eI b])
 | «open» (n:Nat):bC h->jx h.1 h.2 g->g.length < 200->n < 1000000000->(eV h g n=true->PutPost C H d wA h g h (g++[n]) fun H'=>Q (.str "ok") H')->(eV h g n=false->∀ H',Same H H'->E (.ref cS) none H')->Say C cT cS H d wA h g Q E ("open" ++ cBl++eI n)
 | back:g.length<=200->(g≠[]->PutPost C H d wA h g h g.dropLast fun H'=>Q (.str "ok") H')->(g=[]->∀ H',Same H H'->E (.ref cS) none H')->Say C cT cS H d wA h g Q E "back"
 | new:PutPost C H d wA h g ([],[]) [] (fun H'=>Q (.str "ok") H')->Say C cT cS H d wA h g Q E "new"
 | hand:vn h g->(∀ H',Same H H'->Q (.str (bQ (aN h.1 h.2 g))) H')->Say C cT cS H d wA h g Q E "hand"
 | next:vG h g->(∀ H',Same H H'->Q (.str (kx (gr h.2 (aN h.1 h.2 g) g))) H')->Say C cT cS H d wA h g Q E "next"
 | gone:u9 h g->(∀ H',Same H H'->Q (.str (kx g)) H')->Say C cT cS H d wA h g Q E "gone"
 | shown:vH h g->(∀ H',Same H H'->Q (.str (pV h)) H')->Say C cT cS H d wA h g Q E "show"
 | rooms:uh h g->(∀ H',Same H H'->Q (.str (eI h.2.length)) H')->Say C cT cS H d wA h g Q E "rooms"
theorem PutPost.up {C:Addr}{H H':Hp}{d wA:Addr}{h h':Hs}{g g':List Nat}{k:Hp->Prop}(x:PutPost C H d wA h g h' g' k)(s:Same H H'):PutPost C H' d wA h g h' g' k:=fun H2 wA' B mk=>x H2 wA' (fun b u n1 n2 e=>B b u n1 n2 (s b u e)) fun S iS da=>mk S (fun b hb=>let ⟨u,e⟩:=iS b hb;⟨u,s b u e⟩) (da.same (ox fun b u _ e=>s b u e))
def aaB (C cT cS:Addr):Sp:=fun vs H Q E=>∃ (d wA:Addr) (h:Hs) (g:List Nat) (row:Str),vs=[.ref d,.str row]/\DeskAt C H d wA h g/\row.length<=100000/\Say C cT cS H d wA h g Q E row
section
variable {P:Program}{w:World}{K:PySem.W.Frag}{mg:Str->Option Value}{base:Heap}
theorem dR:az ["self","row","deed","word","blank","rest","long_deed"] ["self","row"] (ak dJ):=scM rfl rfl rfl rfl (by decide +kernel)
theorem ade {f C cT cS dS dL f0 f1 f2 f3 f4 f5 f6 f7 f8 f9 fa fb fc g0 g1 g2 g3 g4 cR:Addr}{fd d0 d1 d2 d3 d4 db dc e0 e1 e2 e3:FuncData}{bmR:List Value}(F:Fun K "say" "Desk.say" dJ f fd)(kd_SHORT_ROWS:rP P w K dS (cF f0 f1 f2 f3 f4 f5 f6 f7 f8 f9 fa fb fc))(lW:mg "SHORT_ROWS" = some (.ref dS))(kd_LONG_ROWS:rP P w K dL (lz g0 g1 g2 g3 g4))(mL:mg "LONG_ROWS" = some (.ref dL))
 (x_NoRow:pq K cR bmR)(qB:mg "NoRow" = some (.ref cR))(aB:mg "isinstance" = none)(eS:mg "str" = none)
 (G1:FnOk P w K mg base CX0 2 f1 d1 ["desk"] (abc C))(c1:Cal K mg "put_anew" ["desk"] f1 d1)(G2:FnOk P w K mg base CX0 8 f2 d2 ["desk"] (jQ C (fun h g=>bQ (aN h.1 h.2 g)) vn))(c2:Cal K mg "tell_hand" ["desk"] f2 d2)(G3:FnOk P w K mg base CX0 8 f3 d3 ["desk"] (jQ C (fun h g=>kx (gr h.2 (aN h.1 h.2 g) g)) vG))(c3:Cal K mg "tell_next" ["desk"] f3 d3)
 (G4:FnOk P w K mg base CX0 2 f4 d4 ["desk"] (jQ C (fun _ g=>kx g) u9))(c4:Cal K mg "tell_gone" ["desk"] f4 d4)(Gb:FnOk P w K mg base CX0 8 fb db ["desk"] (jQ C (fun h _=>pV h) vH))(cb:Cal K mg "tell_show" ["desk"] fb db)(Gc:FnOk P w K mg base CX0 1 fc dc ["desk"] (jQ C (fun h _=>eI h.2.length) uh))(cc:Cal K mg "tell_rooms" ["desk"] fc dc)
 (L0:FnOk P w K mg base CX0 4 g0 e0 ["desk","rest"] (aa0 C))(k0:Cal K mg "put_keys" ["desk","rest"] g0 e0)(L1:FnOk P w K mg base (CXr P w) 8 g1 e1 ["desk","rest"] (aba C cT))(k1:Cal K mg "put_room" ["desk","rest"] g1 e1)(L2:FnOk P w K mg base (CXr P w) 3 g2 e2 ["desk","rest"] (aaV C cS))(k2:Cal K mg "put_worth" ["desk","rest"] g2 e2)
 (G0:FnOk P w K mg base (CXr P w) 3 f0 d0 ["desk"] (abf C cS))(c0:Cal K mg "go_back" ["desk"] f0 d0)(L3:FnOk P w K mg base (CXr P w) 8 g3 e3 ["desk","rest"] (aaX C cS))(k3:Cal K mg "open_room" ["desk","rest"] g3 e3):FnOk P w K mg base (CXr P w) 9 f fd ["self","row"] (aaB C cT cS):=by
 refine F.okR dR (fun vs H Q E h=>?_) (fun cdv A outer s H vs Q E hr h=>?_)
 ·obtain⟨d,wA,h,g,row,rfl,_⟩:=h
  rfl
 ·obtain⟨d,wA,h,g,row,rfl,da,rl,sy⟩:=h;refine⟨_,(ah (bO (dq (eN (av bH rfl aB (by decide +kernel) (ae (pv 1) (ae (eW (v:=.ty "str") (u:=.type "str") rfl eS (by decide +kernel) rfl) af)))))
   (ao (qw x_NoRow rfl qB (ae au af))) aO)
   (ah (cn (bO (aa4 (adC kd_SHORT_ROWS (pv 1) rfl lW))
    (ah (aL (i:=2) dR.nd rfl (.inl rfl) (yD kd_SHORT_ROWS rfl lW (pv 1) (fun _ _=>rfl)))
    (ao (aE (uQ (pv 2) (rL (E:=E) fun _ _ _ h=>h) (ae (pv 0) af))))) aO))
   (ah (gv (dz afi ah8 ah9 lE (pv 1) (ae au af)) (gz rfl (aM (aA (i:=3) dR.nd rfl (.inl rfl)) (aM (aA (i:=4) dR.nd rfl (.inl rfl)) (aM (aA (i:=5) dR.nd rfl (.inl rfl)) cU)))))
   (ah (bO (aa4 (xt kd_LONG_ROWS (pv 3) rfl mL))
    (ao (qw x_NoRow rfl qB (ae au af))) aO)
   (ah (aL (i:=6) dR.nd rfl (.inl rfl) (yD kd_LONG_ROWS rfl mL (pv 3) (fun _ _=>rfl)))
   (ao (aE (uQ (pv 6) (rL (E:=E) fun _ _ _ h=>h) (ae (pv 0) (ae (pv 5) af)))))))))),?_⟩
  have lim:100000<=sizeLine:=by decide
  have key:(∃ (fx:Addr) (sp:Sp),kU (cF f0 f1 f2 f3 f4 f5 f6 f7 f8 f9 fa fb fc) (.inr row)=some (.ref fx)/\xU (gL (CXr P w) P w K mg base ["self","row","deed","word","blank","rest","long_deed"] "Desk.say" (ak dJ) f cdv A outer s H E) (CXr P w) fx sp/\sp [.ref d] H Q E) ∨
   (∃ (wd rest:Str) (gx:Addr) (sp:Sp),row=wd++cBl++rest/\32 ∉ wd.cps.toList/\kU (lz g0 g1 g2 g3 g4) (.inr wd)=some (.ref gx)/\xU (gL (CXr P w) P w K mg base ["self","row","deed","word","blank","rest","long_deed"] "Desk.say" (ak dJ) f cdv A outer s H E) (CXr P w) gx sp/\∀ H',Same H H'->sp [.ref d,.str rest] H' Q E):=by
   have r:∀ {k:Nat},k<=8->Room k (A.deeper (envOfC "Desk.say" (ak dJ) s.heap.objs.size f cdv)):=fun h=>hr.mono h;cases sy with
   | keys ks kk kl q=>exact .inr ⟨"keys",wrK ks,g0,_,rfl,by decide +kernel,acB,⟨4,e0,_,L0.up,r (by decide),k0.kp,k0.b⟩,fun H' s'=>⟨d,wA,h,g,ks,rfl,da.same s',kk,kl,q.up s'⟩⟩
   | room ls ks hok h12 lk l1 l4 kk kl q1 q2=>exact .inr ⟨"room",_,g1,_,rfl,by decide +kernel,acw,⟨8,e1,_,L1,r (by decide),k1.kp,k1.b⟩,fun H' s'=>⟨d,wA,h,g,ls,ks,rfl,da.same s',hok,h12,lk,l1,l4,kk,kl,fun z=>(q1 z).up s',fun z H2 s2=>q2 z H2 (s'.trans s2)⟩⟩
   | worth a b hl ha hb q1 q2=>exact .inr ⟨"worth",_,g2,_,rfl,by decide +kernel,zO,⟨3,e2,_,L2,r (by decide),k2.kp,k2.b⟩,fun H' s'=>⟨d,wA,h,g,a,b,rfl,da.same s',hl,ha,hb,fun z=>(q1 z).up s',fun z H2 s2=>q2 z H2 (s'.trans s2)⟩⟩
   | «open» n hok go gl hn q1 q2=>exact .inr ⟨"open",_,g3,_,rfl,by decide +kernel,abC,⟨8,e3,_,L3,r (by decide),k3.kp,k3.b⟩,fun H' s'=>⟨d,wA,h,g,n,rfl,da.same s',hok,go,gl,hn,fun z=>(q1 z).up s',fun z H2 s2=>q2 z H2 (s'.trans s2)⟩⟩
   | back gl q1 q2=>exact .inl ⟨f0,_,acu,⟨3,d0,_,G0,r (by decide),c0.kp,c0.b⟩,d,wA,h,g,rfl,da,gl,q1,q2⟩
   | new q=>exact .inl ⟨f1,_,acV,⟨2,d1,_,G1.up,r (by decide),c1.kp,c1.b⟩,d,wA,h,g,rfl,da,q⟩
   | hand ok q=>exact .inl ⟨f2,_,abD,⟨8,d2,_,G2.up,r (by decide),c2.kp,c2.b⟩,d,wA,h,g,rfl,da,ok,q⟩
   | next ok q=>exact .inl ⟨f3,_,abj,⟨8,d3,_,G3.up,r (by decide),c3.kp,c3.b⟩,d,wA,h,g,rfl,da,ok,q⟩
   | gone ok q=>exact .inl ⟨f4,_,acx,⟨2,d4,_,G4.up,r (by decide),c4.kp,c4.b⟩,d,wA,h,g,rfl,da,ok,q⟩
   | shown ok q=>exact .inl ⟨fb,_,abV,⟨8,db,_,Gb.up,r (by decide),cb.kp,cb.b⟩,d,wA,h,g,rfl,da,ok,q⟩
   | rooms ok q=>exact .inl ⟨fc,_,aaJ,⟨1,dc,_,Gc.up,r (by decide),cc.kp,cc.b⟩,d,wA,h,g,rfl,da,ok,q⟩
  refine⟨_,rfl,_,_,_,true,rfl,.str _,eG K _,true,rfl,?_⟩;refine km ?_;rcases key with ⟨fx,sp,e,ce,hq⟩ | ⟨wd,rest,gx,sp,er,n32,e,ce,hq⟩
  ·refine⟨fun _ _=>False,fun _ _ z=>z.elim,?_⟩;refine⟨_,rfl,.inr row,rfl,true,by rw [e];rfl,kW ?_⟩;exact⟨_,rfl,.inr row,_,rfl,e,_,rfl,fx,sp,rfl,ce,_,rfl,hq⟩
  ·have m32:32∈row.cps.toList:=by
    rw [er,aV,aV,cm];simp
   have en:=acd (f0:=f0) (f1:=f1) (f2:=f2) (f3:=f3) (f4:=f4) (f5:=f5) (f6:=f6) (f7:=f7) (f8:=f8) (f9:=f9) (fa:=fa) (fb:=fb) (fc:=fc) m32;refine⟨fun σ' H'=>σ'=[some (.ref d),some (.str row),none,none,none,none,none]/\H'=H,?_,?_⟩
   ·rintro σ' H' ⟨rfl,rfl⟩;refine⟨_,rfl,rfl,row,cBl,rfl,rfl,by rw [cm];rfl,by lia,fun tp ntp=>?_⟩;have pb:Txt.partition row cBl=(wd,cBl,rest):=by rw [er];exact xr n32
    rw [pb];have s1:=aj (o:=.tup [.str wd,.str cBl,.str rest]) ntp;refine⟨tp,_,rfl,aAB ag,rfl,_,_,rfl,_,_,rfl,_,_,rfl,rfl,?_⟩;refine⟨_,rfl,.inr wd,rfl,false,by rw [e];rfl,km ?_⟩;exact⟨_,rfl,.inr wd,_,rfl,e,_,rfl,gx,sp,rfl,ce,_,rfl,_,rfl,hq _ s1⟩
   ·refine⟨_,rfl,.inr row,rfl,false,by rw [en];rfl,km ?_⟩;exact⟨rfl,rfl⟩
end
end K7
namespace L2
open PySem PySem.Spec PyProof.Rows
theorem uC {P:Program}{w:World}{X:Cx}:iX (CXr P w) X E0:=fun _ _ _ _ _ _ _ h=>by
 obtain⟨_,_,_,_,_,_,_,_,_,_,_,_,_,_,_,q⟩:=h;exact q.elim
end L2
namespace K7
open PySem L2 PyProof.Rows
structure HouseS (h:Hs):Prop where
 ok:bC h
 rl:h.2.length<=12
 kl:h.1.length<=20
 wl:∀ r∈h.2,r.2.length<=20
theorem HouseS.l {h:Hs}(x:HouseS h):sR h:=⟨x.ok,by have:=x.rl;lia,by have:=x.kl;lia,fun r hr=>by have:=x.wl r hr;lia⟩
theorem rD {h:Hs}(x:HouseS h):((bQ h.1::h.2.map eO).map (·.length)).sum<=3500:=by
 have k0:=gW x.ok.kk;have kl:=x.kl;have rl:=x.rl;have one:∀ r∈h.2,(eO r).length<=240:=fun r hr=>by
  have ok:=x.ok.rs r hr;have wl:=x.wl r hr;have a:=cf cPl r.1;have b:=bF ok.lk;have c1:cPl.length=1:=by rw [gU];rfl
  have c2:cCo.length=2:=by rw [qP];rfl
  have l4:=ok.l4;have k:=gW ok.kk;have el:∀ x y:Str,(x++y).length=x.length+y.length:=fun x y=>by
   show (x.cps++y.cps).size=_;rw [agG];rfl
  unfold eO;rw [el,el,c2];rw [c1] at a;lia
 have sum:∀ l:List Rm,(∀ r∈l,(eO r).length<=240)->((l.map eO).map (·.length)).sum<=240 * l.length:=fun l=>by
  induction l with
  | nil=>intro _;simp
  | cons r l ih =>
   intro hz;have:=hz r aeX;have:=ih fun y hy=>hz y (aeW _ hy);rw [afl,afl,agC,afn];lia
 have s:=sum h.2 one;rw [afl,agC];lia
theorem yi {h:Hs}{g:List Nat}(x:HouseS h):vH h g:=by
 have s:=rD x;have rl:=x.rl;have n:(bQ h.1::h.2.map eO).length<=13:=by rw [afn,aeT];lia
 have a:=cf cNl (bQ h.1::h.2.map eO);have b:=cf cSe (bQ h.1::h.2.map eO);have c1:cNl.length=1:=by rw [rX];rfl
 have c2:cSe.length=2:=by decide +kernel
 rw [c1] at a;rw [c2] at b;exact⟨x.l,by unfold pR;lia,by unfold pV;lia⟩
theorem wX {h:Hs}{g:List Nat}(x:HouseS h)(go:jx h.1 h.2 g):vG h g:=⟨x.ok,go,by have:=h8 go;have:=x.rl;lia,by have:=x.rl;lia⟩
theorem yU {h:Hs}{g:List Nat}(x:HouseS h)(go:jx h.1 h.2 g):vn h g:=by
 have g1:=h8 go;have rl:=x.rl;have kl:=x.kl;have l:=lg (ks:=h.1) 20 x.wl g h.1;refine⟨x.ok,go,by lia,?_,o9 (fun r hr=>(x.ok.rs r hr).kk) g h.1 x.ok.kk⟩;have:20 * g.length<=20 * 12:=Nat.mul_le_mul_left _ (by lia);lia
theorem yZ {h:Hs}{g:List Nat}(x:HouseS h)(go:jx h.1 h.2 g):u9 h g:=by
 have g1:=h8 go;have rl:=x.rl;exact⟨by lia,fun n hn=>by
  obtain⟨j,e⟩:=afO.mp hn;have:=(go j n e).1;lia⟩
def jr (j:Nat):List V:=[.bl (decide (0=j)),.bl (decide (1=j)),.bl (decide (2=j)),.bl (decide (3=j)),.bl (decide (4=j))]
def words5r:List Str:=["NoRow","NoStep","NoPlain","NoNumber","TooMany"]
theorem aeH:∀ j,j < 5->(((jr j).countP fun y=>eqV y (.bl true):Nat):Int)=1:=by
 intro j hj
 match j,hj with
 | 0,_=>rfl
 | 1,_=>rfl
 | 2,_=>rfl
 | 3,_=>rfl
 | 4,_=>rfl
theorem adk (j:Nat):(jr j).all i7=true:=rfl
theorem at5:∀ j,j < 5->∀ m (hm:m < (jr j).length),eqV ((jr j)[m]) (.bl true)=decide (m=j):=by
 intro j hj m hm;have hm':m < 5:=hm
 match m,hm' with
 | 0,_=>show eqV (.bl (decide (0=j))) (.bl true)=_;cases decide (0=j)<;>rfl
 | 1,_=>show eqV (.bl (decide (1=j))) (.bl true)=_;cases decide (1=j)<;>rfl
 | 2,_=>show eqV (.bl (decide (2=j))) (.bl true)=_;cases decide (2=j)<;>rfl
 | 3,_=>show eqV (.bl (decide (3=j))) (.bl true)=_;cases decide (3=j)<;>rfl
 | 4,_=>show eqV (.bl (decide (4=j))) (.bl true)=_;cases decide (4=j)<;>rfl
theorem aee {c0 c1 c2 c3:Addr}:∀ us,Vals [.ref c0,.ref c1,.ref c2,.ref c3] us->us=[c0,c1,c2,c3].map Value.ref:=by
 intro us h;cases h with | cons a h=>cases h with | cons b h=>cases h with | cons c h=>cases h with | cons d h =>
  cases h;cases a;cases b;cases c;cases d
  rfl
structure adB (K:PySem.W.Frag)(cK C:Addr)(j:Nat)(cs os:List Addr):Prop where
 own:∀ i c,cs[i]? = some c->kitOne K (.ref C) (.ref c)=some (decide (i=j))
 no:kitAny K (.ref C) (os.map Value.ref)=some false
 ve:kitOne K (.ref C) (.type "ValueError")=some true
 att:∃ bm,k7 K C bm
 un:yd K cK (.ref C)
theorem ifF {c:Bool}{A B:Prop}(h:c=false)(b:B):if c=true then A else B:=by subst h;exact b
def zR (Q:VK):VK:=fun v H'=>v=.str "ok" ∧ ∀ H2,Same H' H2->Q (.str "ok") H2
def ab8 (cT cS:Addr)(Q:VK):XK:=fun cls _ H'=>(cls=.ref cT/\∀ H2,Same H' H2->Q (.str "TooMany") H2)\/(cls=.ref cS/\∀ H2,Same H' H2->Q (.str "NoStep") H2)
def abe (C cT cS:Addr):Sp:=fun vs H Q _=>∃ (d wA:Addr) (h:Hs) (g:List Nat) (row:Str),vs=[.ref d,.str row]/\DeskAt C H d wA h g/\row.length<=100000/\Say C cT cS H d wA h g (zR Q) (ab8 cT cS Q) row
theorem Say.mono {C cT cS:Addr}{H:Hp}{d wA:Addr}{h:Hs}{g:List Nat}{Q Q':VK}{E E':XK}{row:Str}(x:Say C cT cS H d wA h g Q E row)(a:∀ v H',Q v H'->Q' v H')(b:∀ c o H',E c o H'->E' c o H'):Say C cT cS H d wA h g Q' E' row:=by
 have pp:∀ {h' g' z},PutPost C H d wA h g h' g' (fun H'=>Q (.str z) H')->PutPost C H d wA h g h' g' (fun H'=>Q' (.str z) H'):=fun y H' wA' B mk=>a _ _ (y H' wA' B mk);cases x with
 | keys ks kk kl q=>exact .keys ks kk kl (pp q)
 | room ls ks hok h12 lk l1 l4 kk kl q1 q2=>exact .room ls ks hok h12 lk l1 l4 kk kl (fun z=>pp (q1 z)) fun z H' s=>b _ _ _ (q2 z H' s)
 | worth x y hl ha hb q1 q2=>exact .worth x y hl ha hb (fun z=>pp (q1 z)) fun z H' s=>b _ _ _ (q2 z H' s)
 | «open» n hok go gl hn q1 q2=>exact .«open» n hok go gl hn (fun z=>pp (q1 z)) fun z H' s=>b _ _ _ (q2 z H' s)
 | back gl q1 q2=>exact .back gl (fun z=>pp (q1 z)) fun z H' s=>b _ _ _ (q2 z H' s)
 | new q=>exact .new (pp q)
 | hand ok q=>exact .hand ok fun H' s=>a _ _ (q H' s)
 | next ok q=>exact .next ok fun H' s=>a _ _ (q H' s)
 | gone ok q=>exact .gone ok fun H' s=>a _ _ (q H' s)
 | shown ok q=>exact .shown ok fun H' s=>a _ _ (q H' s)
 | rooms ok q=>exact .rooms ok fun H' s=>a _ _ (q H' s)
section
variable {P:Program}{w:World}{K:PySem.W.Frag}{mg:Str->Option Value}{base:Heap}
theorem bT:az ["desk","row","caught","found","kinds","e"] ["desk","row"] (ak iY):=scM rfl rfl rfl rfl (by decide +kernel)
theorem abz {f fY C cH cP cS cT cO cN cI cX cR cK:Addr}{fd fdY:FuncData}{bmK:List Value}(F:Fun K "_law_said" "_law_said" iY f fd)(C_Desk:Cls K C)(dH:wK K C "say" fY)(dW:FnOk P w K mg base (CXr P w) 9 fY fdY ["self","row"] (aaB C cT cS))(dP:Binds K fdY ["self","row"] [])
 (gH:mg "KeyroomError" = some (.ref cK))(x_KeyroomError:pq K cK bmK)(clT:adB K cK cT 4 [cR,cS,cP,cN,cT] [cH,cI,cO,cX])(clS:adB K cK cS 1 [cR,cS,cP,cN,cT] [cH,cI,cO,cX])
 (xm:mg "NoHouse" = some (.ref cH))(zg:mg "NoPlain" = some (.ref cP))(gy:mg "NoStep" = some (.ref cS))(nQ:mg "TooMany" = some (.ref cT))(yL:mg "NoOrder" = some (.ref cO))
 (vR:mg "NoNumber" = some (.ref cN))(aai:mg "NoKind" = some (.ref cI))(zG:mg "NoText" = some (.ref cX))(qB:mg "NoRow" = some (.ref cR))(aB:mg "isinstance" = none)(jg:mg "ValueError" = none)(df:mg "int" = none)(eS:mg "str" = none):FnOk P w K mg base CX0 10 f fd ["desk","row"] (abe C cT cS):=by
 refine F.ok bT (fun vs H Q E h=>?_) (fun cdv A outer s H vs Q E hr h=>?_)
 ·obtain⟨d,wA,h,g,row,rfl,_⟩:=h
  rfl
 ·obtain⟨d,wA,h,g,row,rfl,da,rl,sy⟩:=h;refine⟨_,(ah (aL (i:=2) bT.nd rfl (.inl rfl) md)
   (ah (aL (i:=3) bT.nd rfl (.inl rfl) au)
   (ah (abq (i:=5) rfl rfl rfl gH x_KeyroomError bT.nd rfl rfl
    (fun pins xe Eh hx=>ao (aL (i:=3) bT.nd rfl (.inl rfl) (zX (E:=Eh) (pv 0) C_Desk dH dW hr dP (fun _ σ H s ev s' I h=>hx σ H s ev s' I.untried h) (ae (pv 1) af))))
    (fun a=>ao (aL (i:=2) bT.nd rfl (.inl rfl) (pv 5))))
   (ah (bO (aT acS (pv 2) md (aS _))
    (ao (aE (a7 aX (bq (ae (pv 3) (ae au af))) (aR cG rfl df (by decide +kernel) (ae (acN (aaR (av bH rfl aB (by decide +kernel) (ae (pv 3) (ae (eW (v:=.ty "str") (u:=.type "str") rfl eS (by decide +kernel) rfl) af)))) (lG (bN oM (d7 acH (pv 3) gJ (gB aq)) (bq (ae au (ae au af))) rfl))) af)) (fun _ _=>rfl)))) aO)
   (ah (aL (i:=4) bT.nd rfl (.inl rfl) (bq (ae (av c8 rfl aB (by decide +kernel) (ae (pv 2) (ae (dm (v:=.ref cR) rfl qB rfl) af))) (ae (av c8 rfl aB (by decide +kernel) (ae (pv 2) (ae (dm (v:=.ref cS) rfl gy rfl) af))) (ae (av c8 rfl aB (by decide +kernel) (ae (pv 2) (ae (dm (v:=.ref cP) rfl zg rfl) af))) af)))))
   (ah (aL (i:=4) bT.nd rfl (.inl rfl) (aZ dE (pv 4) (bq (ae (av c8 rfl aB (by decide +kernel) (ae (pv 2) (ae (dm (v:=.ref cN) rfl vR rfl) af))) (ae (av c8 rfl aB (by decide +kernel) (ae (pv 2) (ae (dm (v:=.ref cT) rfl nQ rfl) af))) af)))))
   (ah (bO (PW.pt (oX (eN (av pQ rfl aB (by decide +kernel) (ae (pv 2) (ae (cC (ae (dm (v:=.ref cH) rfl xm rfl) (ae (dm (v:=.ref cI) rfl aai rfl) (ae (dm (v:=.ref cO) rfl yL rfl) (ae (dm (v:=.ref cX) rfl zG rfl) af))))) af)))) (jW (dq (eN (av c8 rfl aB (by decide +kernel) (ae (pv 2) (ae (eW (v:=.ty "ValueError") (u:=.type "ValueError") rfl jg (by decide +kernel) rfl) af))))))))
    (ao (aE au)) aO)
   (ah (bO (aT rM (dz afk agP aht zm (pv 4) (ae pU af)) aq (aS _))
    (ao (aE au)) aO)
   (ao (aE (@a7 _ _ _ _ _ _ _ aX (@bq _ _ _ _ (@bI _ _ _ _ _ (@au _ _ _ _) (@bI _ _ _ _ _ (@au _ _ _ _) (@bI _ _ _ _ _ (@au _ _ _ _) (@bI _ _ _ _ _ (@au _ _ _ _) (@bI _ _ _ _ _ (@au _ _ _ _) (@af _) rfl) rfl) rfl) rfl) rfl)) (dz afk aiy PySem.F.type_list_index y9 (pv 4) (ae pU af)) (fun _ _=>rfl)))))))))))),?_⟩
  try dsimp only [gL,Cx.nox]
  have da0:=da;obtain⟨dx,gA,v,ws,h1,h2,h3,h4,h5⟩:=da;refine⟨_,rfl,d,dx,_,rfl,h1,rfl,_,rfl,d,wA,h,g,row,rfl,da0,rl,sy.mono ?_ ?_⟩
  ·rintro _ H1 ⟨rfl,q⟩;refine⟨_,rfl,rfl,_,rfl,kW ?_⟩;refine⟨_,rfl,by show 2<=sizeLine;decide,fun l nl=>?_⟩;have s2:Same H1 (upd H1 l (.lst [.str "ok",.str "odd"])):=aj nl;have e2:(upd H1 l (.lst [.str "ok",.str "odd"])) l=some (.lst [.str "ok",.str "odd"]):=ag;generalize upd H1 l (.lst [.str "ok",.str "odd"])=H2 at *;refine⟨_,rfl,_,_,_,true,rfl,.str _,eG K _,true,rfl,false,rfl,km ?_⟩;refine⟨_,rfl,(2:Int),rfl,"ok",rfl,by decide,by show 2<=sizeLine;decide,fun l2 n2=>?_⟩;have s3:=aj (o:=.lst [.str "No",.str "To"]) n2;refine⟨l2,_,rfl,.inl (aAA ag),rfl,rfl,?_⟩;rw [show inV (V.str (Txt.slice ("ok" : Str) none (some (2:Int)))) [V.str "No",V.str "To"]=false by decide +kernel];exact .inr ⟨false,rfl,l,_,0,.str "ok",rfl,rfl,aAA (s3 _ _ e2),rfl,q _ (s2.trans s3)⟩
  ·rintro cls o H1 hcl;obtain⟨Cx,j,hj,nm,rfl,cl,enm,q⟩:∃ (Cx:Addr) (j:Nat) (hj:j < 5) (nm:Str),cls=.ref Cx/\adB K cK Cx j [cR,cS,cP,cN,cT] [cH,cI,cO,cX]/\(words5r.map V.str)[j]? = some (.str nm)/\∀ H2,Same H1 H2->Q (.str nm) H2:=by
    rcases hcl with ⟨rfl,q⟩ | ⟨rfl,q⟩
    ·exact⟨cT,4,by decide,"TooMany",rfl,clT,rfl,q⟩
    ·exact⟨cS,1,by decide,"NoStep",rfl,clS,rfl,q⟩
   refine⟨cl.un,fun a na=>?_⟩;obtain⟨bm,att⟩:=cl.att;have s2:=aj (o:=yF a (.ref Cx)) na;have e2:(upd H1 a (yF a (.ref Cx))) a=some (yF a (.ref Cx)):=ag;generalize upd H1 a (yF a (.ref Cx))=H2 at *;refine⟨_,rfl,_,rfl,rfl,false,rfl,ifF rfl ?_⟩;refine⟨_,rfl,a,Cx,bm,.ref cR,.ref cR,_,rfl,fun u h=>h,e2,att,cl.own 0 _ rfl,?_⟩;refine⟨_,rfl,a,Cx,bm,.ref cS,.ref cS,_,rfl,fun u h=>h,e2,att,cl.own 1 _ rfl,?_⟩;refine⟨_,rfl,a,Cx,bm,.ref cP,.ref cP,_,rfl,fun u h=>h,e2,att,cl.own 2 _ rfl,by show 3<=sizeLine;decide,fun l1 n1=>?_⟩;have s3:Same H2 (upd H2 l1 (.lst [.bl (decide (0=j)),.bl (decide (1=j)),.bl (decide (2=j))])):=aj n1;have e3:(upd H2 l1 (.lst [.bl (decide (0=j)),.bl (decide (1=j)),.bl (decide (2=j))])) l1=some (.lst [.bl (decide (0=j)),.bl (decide (1=j)),.bl (decide (2=j))]):=ag;have a3:=s3 _ _ e2;generalize upd H2 l1 (.lst [.bl (decide (0=j)),.bl (decide (1=j)),.bl (decide (2=j))])=H3 at *;refine⟨_,rfl,_,rfl,a,Cx,bm,.ref cN,.ref cN,_,rfl,fun u h=>h,a3,att,cl.own 3 _ rfl,?_⟩;refine⟨_,rfl,a,Cx,bm,.ref cT,.ref cT,_,rfl,fun u h=>h,a3,att,cl.own 4 _ rfl,by show 2<=sizeLine;decide,fun l2 n2=>?_⟩;have s4:Same H3 (upd H3 l2 (.lst [.bl (decide (3=j)),.bl (decide (4=j))])):=aj n2;have e4:(upd H3 l2 (.lst [.bl (decide (3=j)),.bl (decide (4=j))])) l2=some (.lst [.bl (decide (3=j)),.bl (decide (4=j))]):=ag;generalize upd H3 l2 (.lst [.bl (decide (3=j)),.bl (decide (4=j))])=H4 at *;refine⟨l1,l2,_,_,rfl,rfl,s4 _ _ e3,e4,by show 5<=sizeLine;decide,fun l3 n3=>?_⟩;have s5:Same H4 (upd H4 l3 (.lst (jr j))):=aj n3;have e5:(upd H4 l3 (.lst (jr j))) l3=some (.lst (jr j)):=ag;have a5:=s5 _ _ (s4 _ _ a3);have S5:=s2.trans (s3.trans (s4.trans s5))
   change sU _ _ _ _ (upd H4 l3 (.lst (jr j)))
   generalize upd H4 l3 (.lst (jr j))=H5 at *;refine⟨_,rfl,by show 4<=sizeLine;decide,fun p np=>?_⟩;have s6:Same H5 (upd H5 p (.tup [.ref cH,.ref cI,.ref cO,.ref cX])):=aj np;have e6:(upd H5 p (.tup [.ref cH,.ref cI,.ref cO,.ref cX])) p=some (.tup [.ref cH,.ref cI,.ref cO,.ref cX]):=ag;have a6:=s6 _ _ a5;have k6:=s6 _ _ e5;have S6:=S5.trans s6;generalize upd H5 p (.tup [.ref cH,.ref cI,.ref cO,.ref cX])=H6 at *;refine⟨a,p,Cx,bm,_,_,false,rfl,e6,aee,a6,att,cl.no,false,rfl,ifF rfl ?_⟩;refine⟨_,rfl,a,Cx,bm,.ty "ValueError",.type "ValueError",_,rfl,fun u h=>h,a6,att,cl.ve,true,rfl,ifF rfl ?_⟩;refine⟨_,rfl,.inl ⟨rfl,_,.inl (.inl k6)⟩,l3,jr j,_,rfl,rfl,k6,rfl,adk j,rfl,?_⟩;rw [aeH j hj];refine⟨false,rfl,ifF rfl ?_⟩;refine⟨by show 5<=sizeLine;decide,fun l6 n6=>?_⟩;have s7:=aj (o:=.lst (words5r.map V.str)) n6;refine⟨_,rfl,.inl ⟨rfl,_,.inl (.inl (s7 _ _ k6))⟩,l3,jr j,_,j,hj,rfl,rfl,s7 _ _ k6,rfl,adk j,?_,?_,?_⟩
   ·exact (at5 j hj j hj).trans (by simp)
   ·intro m hm hmj;exact (at5 j hj m hm).trans (by simp;lia)
   ·exact⟨l6,words5r.map V.str,_,.str nm,rfl,rfl,.inl (.inl ag),bP enm,q _ (S6.trans s7)⟩
theorem yO {X:Cx}{K:PySem.W.Frag}{A:Around}{tk:TE}{σ:L2.St}{H:Hp}{Q:VK}{a:Addr}{ks:List Str}(hu:A.units+1 < cLine)(hk:∀ G R,Same H G->R (.ref a) G->tk σ G R)(ha:H a=some (.lst (ks.map V.str)))(kk:∀ k∈ks,aP k)(kl:ks.length<=400)(q:∀ H',Same H H'->Q (.str (wrK ks)) H') :
 tBM K "str" (adg (X:=X)) (tC (V.str (Str.ofString " "))) (aJ (tOp acG tk (tOp adP (oR (aJ (tC (V.str (Str.ofString "-"))) cu)) (tCB (fun xs H Q=>(∃ i,xs=[V.int i]/\Q (V.int i) H)\/∃ k,xs=[V.bl k]/\Q (V.int (if k=true then 1 else 0)) H) (aJ (tOp (z5 A false) tk (oR cu)) cu)))) cu) σ H Q:=by
 have lim:100000<=sizeLine:=by decide
 refine⟨rfl,hk _ _ (Same.refl _) ?_⟩;refine⟨by show 1<=sizeLine;decide,fun l2 n2=>?_⟩;have s2:Same H (upd H l2 (.lst [.str cDa])):=aj n2;have e2:(upd H l2 (.lst [.str cDa])) l2=some (.lst [.str cDa]):=ag;generalize hH2:upd H l2 (.lst [.str cDa])=H2 at *;have hH2':upd H l2 (.lst [V.str (Str.ofString "-")])=H2:=hH2;rw [hH2'];refine hk _ _ s2 ?_;refine⟨afh _,fun l3 n3=>?_⟩;have s3:Same H2 (upd H2 l3 (.lst [])):=aj n3;have e3:(upd H2 l3 (.lst [])) l3=some (.lst []):=ag;generalize upd H2 l3 (.lst [])=H3 at *;have S3:Same H H3:=s2.trans s3;refine jy (S3 _ _ ha) (SeesAll.strs _) (ir kk) e3 hu (.inr ⟨_,rfl,?_⟩);obtain⟨c,ec,hc⟩:∃ c:Nat,(if (ks.map V.str).isEmpty=true then (1:Int) else 0)=(c:Int)/\c=if ks=[] then 1 else 0:=by
  cases ks with
  | nil=>exact⟨1,rfl,rfl⟩
  | cons _ _=>exact⟨0,rfl,by simp⟩
 have c1:c<=1:=by rw [hc];split<;>lia
 refine⟨l2,(c:Int),[.str cDa],rfl,afH V.int ec,s3 _ _ e2,by lia,by lia,by rw [afu];show 1 * c<=sizeLine;lia,fun l4 n4=>?_⟩;rw [afu];have s4:Same H3 (upd H3 l4 (.lst (List.replicate c [V.str cDa]).flatten)):=aj n4;have e4:(upd H3 l4 (.lst (List.replicate c [V.str cDa]).flatten)) l4=some (.lst (List.replicate c [V.str cDa]).flatten):=ag;generalize upd H3 l4 (.lst (List.replicate c [V.str cDa]).flatten)=H4 at *;have fl:(List.replicate c [V.str cDa]).flatten=(List.replicate c cDa).map V.str:=by
  rcases (show c=0\/c=1 by lia) with z | z<;>rw [z]<;>rfl
 rw [fl] at e4;refine⟨a,l4,_,_,rfl,rfl,s4 _ _ (S3 _ _ ha),e4,by rw [aeT,aeT,aft];lia,fun l5 n5=>?_⟩;rw [← afe];have b:=bF kk;have cb:cBl.length=1:=by rw [cm];rfl
 have cd:cDa.length=1:=by rw [vv];rfl
 refine⟨cBl,l5,ks++List.replicate c cDa,rfl,rfl,aAA ag,?_,?_⟩
 ·rw [afe,ai5,aeV,aft,cb,aie,ahy,cd];lia
 ·have z:=q _ (S3.trans (s4.trans (aj (o:=.lst ((ks++List.replicate c cDa).map V.str)) n5)));have e:Txt.join cBl (ks++List.replicate c cDa)=wrK ks:=by
   unfold wrK;by_cases k0:ks=[]
   ·rw [hc,if_pos k0,if_pos k0,k0,ql];exact d8 _ _
   ·rw [hc,if_neg k0,if_neg k0];simp
  rw [e];exact z
abbrev abb (ks:List Str):Str := "keys" ++ cBl++wrK ks
abbrev acD (ls ks:List Str):Str := "room" ++ cBl++(Txt.join cPl ls++cBl++wrK ks)
theorem abv (z:Str):(Str.ofString "keys " : Str)++z=Str.ofString "keys" ++ cBl++z:=by
 rw [show (Str.ofString "keys " : Str)=Str.ofString "keys" ++ cBl by decide +kernel]
theorem iU (a b c:Str):a++b++c=a++(b++c):=oH (by rw [aV,aV,aV,aV,ae5])
theorem abr (x z:Str):(Str.ofString "room " : Str)++x++Str.ofString " " ++ z=Str.ofString "room" ++ cBl++(x++cBl++z):=by
 rw [show (Str.ofString "room " : Str)=Str.ofString "room" ++ cBl by decide +kernel];show (Str.ofString "room" ++ cBl++x)++cBl++z=_;rw [iU _ x cBl,iU _ (x++cBl) z]
structure xj (h:Hs)(rows:List Str):Prop where
 len:rows.length=h.2.length+1
 first:rows[0]? = some (abb h.1)
 next:∀ i r,h.2[i]? = some r->∃ ls,ls.Perm r.1/\rows[i+1]? = some (acD ls r.2)
def rN:Sp:=fun vs H Q _=>∃ (p:Addr) (v:V) (h:Hs),vs=[.ref p,v]/\DeckAt H p/\HouseAt (hid [p] H) v h/\bC h/\h.2.length<=12/\h.1.length<=20/\(∀ r∈h.2,r.2.length<=20)/\∀ (l:Addr) (rows:List Str) (H':Hp),H l=none->But p H H'->DeckAt H' p->H' l=some (.lst (rows.map V.str))->xj h rows->Q (.ref l) H'
inductive RwI (p l:Addr)(v:V)(h:Hs)(H:Hp)(i:Nat)(σ:L2.St)(H':Hp):Prop
 | mk (rows:List Str) (x3 x4 x5 x6:Option V):σ=[some (.ref p),some v,some (.ref l),x3,x4,x5,x6]->But p H H'->DeckAt H' p->H' l=some (.lst (rows.map V.str))->xj (h.1,h.2.take i) rows->RwI p l v h H i σ H'
theorem bA:az ["deck","house","rows","locks","keys","by","some"] ["deck","house"] (ak dv):=scM rfl rfl rfl rfl (by decide +kernel)
theorem acf {f fT:Addr}{fd fdT:FuncData}(F:Fun K "_law_house_rows" "_law_house_rows" dv f fd)(aw:FnOk P w K mg base CX0 1 fT fdT ["deck","many"] gK)(ar:Cal K mg "_law_take" ["deck","many"] fT fdT)(df:mg "int" = none)(br:mg "len" = none):FnOk P w K mg base CX0 2 f fd ["deck","house"] rN:=by
 refine F.ok bA (fun vs H Q E h=>?_) (fun cdv A outer s H vs Q E hr h=>?_)
 ·obtain⟨p,v,h,rfl,_⟩:=h
  rfl
 ·obtain⟨p,v,h,rfl,dk,hh,ok,rl,kl,wl,q⟩:=h;have hu:=tT hr;refine⟨_,(ah (aL (i:=2) bA.nd rfl (.inl rfl) (bq (ae (aZ bz au (dz afi afE afF fz au (ae (aZ dE (a7 bJ (pv 1) aq (fun _ _=>rfl)) (aZ qW (bq (ae au af)) (aR cG rfl df (by decide +kernel) (ae (bN kQ (a7 bJ (pv 1) aq (fun _ _=>rfl)) eJ (aS _)) af)))) af))) af)))
   (ah (cn (gj afS rfl (dy (a7 bJ (pv 1) aq (fun _ _=>rfl))) (gz rfl (aM (aA (i:=3) bA.nd rfl (.inl rfl)) (aM (aA (i:=4) bA.nd rfl (.inl rfl)) cU)))
    (ah (aL (i:=5) bA.nd rfl (.inl rfl) (pcl aw ar hr rfl (ae (pv 0) (ae (av aH rfl br afr (ae (pv 3) af)) af))))
    (ah (aL (i:=6) bA.nd rfl (.inl rfl) (dz afi afE afF fz au (ae (aZ dE (d7 iy (pv 3) (gB (pv 5)) gJ) (d7 iy (pv 3) gJ (gB (pv 5)))) af)))
    (ao (bW (dz afk afZ af0 dw (pv 2) (ae (aZ bz (aZ bz (aZ bz au (pv 6)) au) (dz afi afE afF fz au (ae (aZ dE (pv 4) (aZ qW (bq (ae au af)) (aR cG rfl df (by decide +kernel) (ae (bN kQ (pv 4) eJ (aS _)) af)))) af))) af))))))))
   (ao (aE (pv 2))))),?_⟩
  try dsimp only [gL,Cx.nox]
  have lim:100000<=sizeLine:=by decide
  obtain⟨t,a,r,us,rfl,ht,ha,hrr,hR⟩:=hh;have pn:∀ {b:Addr} {u:HO},hid [p] H b=some u->b≠p:=fun e z=>(aD e).1 (ae1.mpr z);have el:∀ x y:Str,(x++y).length=x.length+y.length:=fun x y=>by
   show (x.cps++y.cps).size=_;rw [agG];rfl
  have w1:=lY ok.kk;refine yO (a:=a) hu (fun G R sG hr=>⟨_,rfl,t,_,0,.ref a,rfl,rfl,aAB (sG _ _ (aD ht).2),rfl,hr⟩) (aD ha).2 ok.kk (by lia) fun H1 s1=>?_;have c5:(Str.ofString "keys " : Str).length=5:=by decide +kernel
  refine⟨_,_,rfl,rfl,by rw [c5];lia,by show 1<=sizeLine;decide,fun l nl=>?_⟩;rw [abv];have s2:Same H1 (upd H1 l (.lst [.str (abb h.1)])):=aj nl;have e2:(upd H1 l (.lst [.str (abb h.1)])) l=some (.lst [.str (abb h.1)]):=ag;have S2:=s1.trans s2;have nl0:H l=none:=s1.free nl;show gh 2 (V.ref l) _ (upd H1 l (.lst [.str (abb h.1)])) _;generalize upd H1 l (.lst [.str (abb h.1)])=H2 at *;have lp:l≠p:=dk.ne nl0;refine⟨fun σ' H'=>RwI p l (.ref t) h H h.2.length σ' H',?_,?_⟩
  ·rintro σ H3 ⟨rows,x3,x4,x5,x6,rfl,B,dk3,e3,ro⟩;rw [afK] at ro;exact⟨_,rfl,q l rows H3 nl0 B dk3 e3 ro⟩
  refine⟨_,rfl,t,_,1,.ref r,rfl,rfl,aAB (S2 _ _ (aD ht).2),rfl,r,rfl,⟨_,aAA (S2 _ _ (aD hrr).2)⟩,?_⟩;refine kE (xs:=us) (fun i σ' H'=>i<=h.2.length/\RwI p l (.ref t) h H i σ' H') ⟨afh _,[abb h.1],none,none,none,none,rfl,ay S2,dk.same S2,e2,⟨rfl,rfl,fun i r e=>by simp at e⟩⟩ (fun i σ H' _ ⟨_,_,_,_,_,_,_,B,_,_,_⟩=>aAA (B _ _ (pn hrr) (aD hrr).2)) ?_ (fun σ H' z=>by rw [hR.1] at z;exact z.2);rintro i x σ H3 hx ⟨_,rows,x3,x4,x5,x6,rfl,B,dk3,e3,ro⟩;have hi:i < us.length:=(aeZ.mp hx).1;have hi':i < h.2.length:=by rw [← hR.1];exact hi
  have er:h.2[i]? = some h.2[i]:=aeS hi';obtain⟨tt,dd,bb,rfl,g1,g2,g3⟩:=hR.2 i x _ hx er;have rok:=ok.rs _ (afz hi');have rwl:=wl _ (afz hi');have l4:=rok.l4;have l1:=rok.l1;refine⟨tt,_,rfl,aAB (B _ _ (pn g1) (aD g1).2),rfl,_,_,rfl,_,_,rfl,rfl,?_⟩;refine⟨_,rfl,_,rfl,dd,_,rfl,.inl (aAA (B _ _ (pn g2) (aD g2).2)),p,_,rfl,dk3,by rw [aeT];lia,fun by_ H4 b0 b1 dk4 B4=>?_⟩;rw [aeT] at b1;obtain⟨k,rfl⟩:∃ k:Nat,by_=(k:Int):=⟨by_.toNat,by lia⟩;have hk:k<=(h.2[i]).1.length:=by lia
  have B04:=B.trans B4;have g2':=B04 _ _ (pn g2) (aD g2).2;have g3':=B04 _ _ (pn g3) (aD g3).2;have e4:=B4 _ _ lp e3;have rlk:=rok.lk;have rkk:=rok.kk;generalize hls:(h.2[i]).1=ls at *;generalize hks:(h.2[i]).2=ks at *;refine⟨rfl,_,rfl,_,rfl,_,rfl,dd,_,rfl,aAA g2',fun l6 n6=>?_⟩;rw [uJ (by rw [aeT];exact hk),← List.map_drop];have s6:Same H4 (upd H4 l6 (.lst ((ls.drop k).map V.str))):=aj n6;have e6:(upd H4 l6 (.lst ((ls.drop k).map V.str))) l6=some (.lst ((ls.drop k).map V.str)):=ag;generalize upd H4 l6 (.lst ((ls.drop k).map V.str))=H6 at *;refine⟨_,rfl,_,rfl,_,rfl,dd,_,rfl,aAA (s6 _ _ g2'),fun l7 n7=>?_⟩;rw [ads k,← aiz];have s7:Same H6 (upd H6 l7 (.lst ((ls.take k).map V.str))):=aj n7;have e7:(upd H6 l7 (.lst ((ls.take k).map V.str))) l7=some (.lst ((ls.take k).map V.str)):=ag;generalize upd H6 l7 (.lst ((ls.take k).map V.str))=H7 at *;have pm:(ls.drop k++ls.take k).Perm ls:=by
   have z:(ls.drop k++ls.take k).Perm (ls.take k++ls.drop k):=agz
   rwa [afy] at z
  have pl:=pm.length_eq;refine⟨l6,l7,_,_,rfl,rfl,s7 _ _ e6,e7,by rw [← aeV,← afe,aeT,pl];lia,fun l8 n8=>?_⟩;rw [← afe];have s8:Same H7 (upd H7 l8 (.lst ((ls.drop k++ls.take k).map V.str))):=aj n8;have e8:(upd H7 l8 (.lst ((ls.drop k++ls.take k).map V.str))) l8=some (.lst ((ls.drop k++ls.take k).map V.str)):=ag;generalize upd H7 l8 (.lst ((ls.drop k++ls.take k).map V.str))=H8 at *;generalize ls.drop k++ls.take k=ms at *;have mk:∀ x∈ms,aP x:=fun x hx=>rlk x (pm.mem_iff.mp hx);have sm:=bF mk;have c1:cPl.length=1:=by rw [gU];rfl
  have lj:=cf cPl ms;refine⟨cPl,l8,ms,rfl,rfl,aAA e8,by rw [c1];lia,?_⟩;have S8:Same H4 H8:=s6.trans (s7.trans s8);have w2:=lY rkk;have c6:(Str.ofString "room " : Str).length=5:=by decide +kernel
  have c7:(Str.ofString " " : Str).length=1:=by decide +kernel
  rw [c1] at lj;refine⟨_,rfl,.inl ⟨rfl,_,aAA (S8 _ _ e4)⟩,_,rfl,_,_,rfl,rfl,by rw [c6];lia,_,_,rfl,rfl,by rw [el,c6,c7];lia,?_⟩;refine yO (a:=bb) hu (fun G R sG hr=>⟨_,rfl,hr⟩) (S8 _ _ g3') rkk (by lia) fun H9 s9=>?_;have S9:=S8.trans s9;have rn:=ro.len;refine⟨_,_,rfl,rfl,by rw [el,el,c6,c7];lia,l,_,_,rfl,rfl,S9 _ _ e4,by rw [aeT,rn,afs];lia,?_⟩;rw [abr];have B9:But p H H9:=B04.trans (ay S9);have en:(rows++[acD ms ks]).map V.str=rows.map V.str++[.str (acD ms ks)]:=by rw [afe];rfl
  refine⟨hi',rows++[acD ms ks],_,_,_,_,rfl,B9.new nl0,(dk4.same S9).up lp,by rw [en];exact ag,?_⟩;have tl:(h.2.take i).length=i:=by rw [afs];lia
  have rn':rows.length=i+1:=by rw [rn];show (h.2.take i).length+1=_;rw [tl]
  have tk:h.2.take (i+1)=h.2.take i++[h.2[i]]:=by rw [aii,er];rfl
  refine⟨?_,?_,?_⟩
  ·show _=(h.2.take (i+1)).length+1;rw [tk,aeV,aeV,tl,rn'];rfl
  ·rw [afp (by lia)];exact ro.first
  ·intro j r hj;have hj:(h.2.take (i+1))[j]? = some r:=hj;rw [tk] at hj;rcases Nat.lt_trichotomy j i with z | z | z
   ·rw [afp (by lia)] at hj;obtain⟨ns,n1,n2⟩:=ro.next j r hj;exact⟨ns,n1,by rw [afp (by lia)];exact n2⟩
   ·subst z;rw [aff (by lia),tl,agA] at hj;injection hj with hj
    subst hj;refine⟨ms,by rw [hls];exact pm,?_⟩;rw [aff (by lia),rn',agA,hks];rfl
   ·rw [ahL (by rw [aeV,tl];show i+1<=j;lia)] at hj;cases hj
def onl (S:List Addr)(H:Hp):Hp:=fun b=>if b∈S then H b else none
theorem bB {S:List Addr}{H:Hp}{b:Addr}{u:HO}(e:onl S H b=some u):b∈S/\H b=some u:=by
 unfold onl at e;split at e
 ·exact⟨by assumption,e⟩
 ·cases e
theorem bu {S:List Addr}{H:Hp}{b:Addr}{u:HO}(m:b∈S)(e:H b=some u):onl S H b=some u:=by
 unfold onl;rw [if_pos m];exact e
theorem my {S:List Addr}{H:Hp}:Same (onl S H) H:=fun b u e=>(bB e).2
theorem gS {S S':List Addr}{H H':Hp}(k:∀ b∈S,∀ u,H b=some u->H' b=some u)(sub:∀ b∈S,b∈S'):Same (onl S H) (onl S' H'):=fun b u e=>bu (sub b (bB e).1) (k b (bB e).1 u (bB e).2)
theorem abp (a b:Nat):(Str.ofString "worth " : Str)++eI a++Str.ofString " " ++ eI b=Str.ofString "worth" ++ cBl++Txt.join cBl [eI a,eI b]:=by
 rw [show (Str.ofString "worth " : Str)=Str.ofString "worth" ++ cBl by decide +kernel,ql,jC,d8];show (Str.ofString "worth" ++ cBl++eI a)++cBl++eI b=_;rw [iU _ (eI a) cBl,iU _ (eI a++cBl) (eI b)]
theorem xW {n:Nat}(h:n < 1000000000):((n:Int)).natAbs.log2 < 1920:=by
 rw [agZ];rcases age n with z | z
 ·rw [z];decide
 ·exact ae9 ((ah2 (by lia)).mpr (ae9 h (by decide:1000000000<=2 ^ 30))) (by decide)
theorem InH.app {S T:List Addr}{H:Hp}(x:InH S H)(y:InH T H):InH (S++T) H:=fun b hb=>(afc.mp hb).elim (x b) (y b)
theorem InH.same {S:List Addr}{H H':Hp}(x:InH S H)(s:Same H H'):InH S H':=fun b hb=>let ⟨u,e⟩:=x b hb;⟨u,s b u e⟩
theorem xY {S S':List Addr}{H:Hp}(sub:∀ b∈S,b∈S'):Same (onl S H) (onl S' H):=gS (fun _ _ _ e=>e) sub
theorem RoomAt.foot {H:Hp}{v:V}{r:Rm}(x:RoomAt H v r):∃ T,InH T H/\RoomAt (onl T H) v r:=by
 obtain⟨t,a,b,rfl,h1,h2,h3⟩:=x;refine⟨[t,a,b],fun c hc=>?_,t,a,b,rfl,bu (by simp) h1,bu (by simp) h2,bu (by simp) h3⟩;simp only [aeY,afL,ahc] at hc;rcases hc with rfl | rfl | rfl
 ·exact⟨_,h1⟩
 ·exact⟨_,h2⟩
 ·exact⟨_,h3⟩
theorem RoomsAt.foot {H:Hp}:∀ {vs:List V} {rs:List Rm},RoomsAt H vs rs->∃ T,InH T H/\RoomsAt (onl T H) vs rs
 | [],rs,x=>by
  have e:rs=[]:=agi.mp x.1.symm;subst e;exact⟨[],(fun b hb=>nomatch hb),.nil⟩
 | v::vs,[],x=>by have:=x.1;simp at this
 | v::vs,r::rs,x=>by
  obtain⟨T1,i1,x1⟩:=(x.2 0 v r rfl rfl).foot;have y:RoomsAt H vs rs:=⟨by have:=x.1;simpa using this,fun i a b e1 e2=>x.2 (i+1) a b e1 e2⟩;obtain⟨T2,i2,x2⟩:=RoomsAt.foot y;exact⟨T1++T2,i1.app i2,RoomsAt.app (vs:=[v]) (rs:=[r]) (.one (x1.same (xY fun _=>afA _))) (x2.same (xY fun _=>ae8 _))⟩
theorem HouseAt.foot {H:Hp}{v:V}{h:Hs}(x:HouseAt H v h):∃ T,InH T H/\HouseAt (onl T H) v h:=by
 obtain⟨t,a,r,vs,rfl,h1,h2,h3,h4⟩:=x;obtain⟨T,i,y⟩:=h4.foot;refine⟨[t,a,r]++T,InH.app (fun c hc=>?_) i,t,a,r,vs,rfl,bu (by simp) h1,bu (by simp) h2,bu (by simp) h3,y.same (xY fun _=>ae8 _)⟩;simp only [aeY,afL,ahc] at hc;rcases hc with rfl | rfl | rfl
 ·exact⟨_,h1⟩
 ·exact⟨_,h2⟩
 ·exact⟨_,h3⟩
theorem DeskAt.foot {C:Addr}{H:Hp}{d wA:Addr}{h:Hs}{g:List Nat}(x:DeskAt C H d wA h g):∃ T,InH T H/\DeskAt C (onl T H) d wA h g:=by
 obtain⟨dx,gA,v,ws,h1,h2,h3,h4,h5⟩:=x;obtain⟨T,i,y⟩:=h2.foot;have i':InH T H:=fun b hb=>let ⟨u,e⟩:=i b hb;⟨u,(aD e).2⟩;have sw:Same (onl T (hid [d,wA] H)) (hid [d,wA] (onl ([d,wA,gA]++T) H)):=fun b u e=>by
  obtain⟨m,e⟩:=bB e;exact aG (aD e).1 (bu (ae8 _ m) (aD e).2)
 refine⟨[d,wA,gA]++T,InH.app (fun c hc=>?_) i',dx,gA,v,ws,bu (by simp) h1,y.same sw,bu (by simp) h3,h4,aG (aD h5).1 (bu (by simp) (aD h5).2)⟩;simp only [aeY,afL,ahc] at hc;rcases hc with rfl | rfl | rfl
 ·exact⟨_,h1⟩
 ·exact⟨_,h3⟩
 ·exact⟨_,(aD h5).2⟩
def Apart (C:Addr)(H0:Hp)(Z:List Addr)(H:Hp)(d wA:Addr)(h:Hs)(g:List Nat):Prop:=∀ S,InH S H0->DeskAt C (hid (S++Z) H) d wA h g
theorem DeskAt.two {C:Addr}{S:List Addr}{H:Hp}{d wA:Addr}{h:Hs}{g:List Nat}(x:DeskAt C (hid S H) d wA h g):d ∉ S/\wA ∉ S:=by
 obtain⟨dx,gA,v,ws,h1,h2,h3,h4,h5⟩:=x;exact⟨(aD h1).1,(aD h3).1⟩
theorem Apart.at {C:Addr}{H0:Hp}{Z:List Addr}{H:Hp}{d wA:Addr}{h:Hs}{g:List Nat}(x:Apart C H0 Z H d wA h g):DeskAt C H d wA h g:=(x [] fun b hb=>nomatch hb).all
theorem Apart.off {C:Addr}{H0:Hp}{Z:List Addr}{H:Hp}{d wA:Addr}{h:Hs}{g:List Nat}(x:Apart C H0 Z H d wA h g):(∀ b u,H0 b=some u->b≠d/\b≠wA)/\∀ b∈Z,b≠d/\b≠wA:=by
 refine⟨fun b u e=>?_,fun b hb=>?_⟩
 ·have z:=(x [b] fun c hc=>by rw [ae1.mp hc];exact⟨u,e⟩).two;exact⟨fun y=>z.1 (by rw [y];simp),fun y=>z.2 (by rw [y];simp)⟩
 ·have z:=(x [] fun b hb=>nomatch hb).two;exact⟨fun y=>z.1 (by rw [← y];exact hb),fun y=>z.2 (by rw [← y];exact hb)⟩
theorem Apart.go {C:Addr}{H0:Hp}{Z Z':List Addr}{H H':Hp}{d wA:Addr}{h:Hs}{g:List Nat}(x:Apart C H0 Z H d wA h g)(k:∀ b u,b ∉ Z->H b=some u->H' b=some u)(n:∀ b∈Z',b∈Z\/H b=none):Apart C H0 Z' H' d wA h g:=fun S iS=>(x S iS).same fun b u e=>by
 obtain⟨m,e⟩:=aD e;have m1:b ∉ S:=fun z=>m (afA _ z);have m2:b ∉ Z:=fun z=>m (ae8 _ z);refine aG (fun z=>(afc.mp z).elim m1 fun y=>?_) (k b u m2 e);rcases n b y with w | w
 ·exact m2 w
 ·rw [e] at w;cases w
theorem Apart.put {C:Addr}{H0:Hp}{Z:List Addr}{H H':Hp}{d wA wA':Addr}{h h':Hs}{g g':List Nat}(x:Apart C H0 Z H d wA h g)(s:Same H0 H)(iZ:InH Z H)(B:Bar d wA H H')(mk:∀ S,InH S H->DeskAt C (hid S H) d wA h g->DeskAt C (hid S H') d wA' h' g') :
 Apart C H0 Z H' d wA' h' g'/\Same H0 H'/\(∀ b∈Z,∀ u,H b=some u->H' b=some u)/\InH Z H' :=
 have o:=x.off;have k:∀ b∈Z,∀ u,H b=some u->H' b=some u:=fun b hb u e=>B b u (o.2 b hb).1 (o.2 b hb).2 e
 ⟨fun S iS=>mk (S++Z) ((iS.same s).app iZ) (x S iS),fun b u e=>B b u (o.1 b u e).1 (o.1 b u e).2 (s b u e),k,fun b hb=>let ⟨u,e⟩:=iZ b hb;⟨u,k b hb u e⟩⟩
def mr:Sp:=fun vs H Q _=>∃ (p:Addr) (most lk:Nat) (S:List Addr),vs=[.ref p,.int most,.int lk]/\DeckAt H p/\InH S H/\most<=60/\1<=lk/\lk<=4/\∀ (v:V) (h:Hs) (H':Hp),HouseAt (hid (p::S) H') v h->acX most h->DeckAt H' p->But p H H'->Q v H'
inductive HsZ (S:List Addr)(p rA:Addr)(most lk:Nat)(few:Int)(H:Hp)(i:Nat)(σ':L2.St)(H':Hp):Prop
 | mk (vs:List V) (rs:List Rm) (x5 x6:Option V):σ'=[some (.ref p),some (.int most),some (.int lk),some (.int few),some (.ref rA),x5,x6]->H' rA=some (.lst vs)->RoomsAt (hid (p::rA::S) H') vs rs->(∀ r∈rs,gX r/\r.2.length<=20)->rs.length=i->DeckAt H' p->But p H H'->HsZ S p rA most lk few H i σ' H'
theorem w6 {f fS fK fE:Addr}{fd fdS fdK fdE:FuncData}(F:Fun K "_law_house" "_law_house" fk f fd)(aw:FnOk P w K mg base CX0 1 fS fdS ["deck","many"] gK)(ar:Cal K mg "_law_take" ["deck","many"] fS fdS)(bU:FnOk P w K mg base CX0 2 fK fdK ["deck","few"] iO)(bh:Cal K mg "_law_kind" ["deck","few"] fK fdK)
 (cW:FnOk P w K mg base CX0 3 fE fdE ["deck","few","most"] xC)(bG:Cal K mg "_law_keys" ["deck","few","most"] fE fdE)(bf:mg "range" = none)(aW:mg "sorted" = none)(df:mg "int" = none):FnOk P w K mg base CX0 4 f fd ["deck","most","locks"] mr:=by
 refine F.ok dD (fun vs H Q E h=>?_) (fun cdv A outer s H vs Q E hr h=>?_)
 ·obtain⟨p,most,lk,S,rfl,_⟩:=h
  rfl
 ·obtain⟨p,most,lk,S,rfl,dk,iS,hm,lk0,lk1,q⟩:=h;refine⟨_,(ah (aL (i:=3) dD.nd rfl (.inr rfl) (a7 aX (bq (ae aq (ae aq (ae aq af)))) (pcl aw ar (hr.mono (by decide:1<=3)) rfl (ae (pv 0) (ae aq af))) (fun _ _=>rfl)))
   (ah (aL (i:=4) dD.nd rfl (.inl rfl) eJ)
   (ah (cn (gj afS rfl (cq rfl bf (ae (pcl aw ar (hr.mono (by decide:1<=3)) rfl (ae (pv 0) (ae (aZ kN (pv 1) aq) af))) af)) (aA (i:=5) dD.nd rfl (.inl rfl))
    (ah (aL (i:=6) dD.nd rfl (.inl rfl) (av hG rfl aW ag3 (ae (mj (tg:=.Name "j" _) (outer:=ak (fk)) (N:=["deck","most","locks","few","rooms","k","some"]) (N':=["j","deck","few"]) (nl:=1) (ix:=[0,3]) rfl rfl rfl (cq rfl bf (ae (aZ kN aq (pcl aw ar (hr.mono (by decide:1<=3)) rfl (ae (pv 0) (ae (pv 2) af)))) af))
    (fun _ _ _ _=>(aA (i:=0) og rfl (.inl rfl) (.inr rfl))) (fun _ _ _ _=>dA)
    (fun _ _ _ _=>(pcl bU bh (hr.mono (by decide:2<=3)) rfl (ae (pv 1) (ae (pv 2) af))))) af)))
    (ao (bW (dz afk afZ af0 dw (pv 4) (ae (cC (ae (pv 6) (ae (pcl cW bG hr rfl (ae (pv 0) (ae (pv 3) (ae (a7 aX (bq (ae aq (ae aq (ae aq (ae aq (ae (a7 aX (bq (ae aq (ae aq af))) (aR cG rfl df (by decide +kernel) (ae (bN zi (pv 1) aq (aS _)) af)) (fun _ _=>rfl)) af)))))) (pcl aw ar (hr.mono (by decide:1<=3)) rfl (ae (pv 0) (ae aq af))) (fun _ _=>rfl)) af)))) af))) af)))))))
   (ao (aE (cC (ae (pcl cW bG hr rfl (ae (pv 0) (ae (pv 3) (ae (@a7 _ _ _ _ _ _ _ aX (@bq _ _ _ _ (@bI _ _ _ _ _ (@aq _ _ _ _) (@bI _ _ _ _ _ (@aq _ _ _ _) (@bI _ _ _ _ _ (@aq _ _ _ _) (@bI _ _ _ _ _ (@aq _ _ _ _) (@af _) rfl) rfl) rfl) rfl)) (pcl aw ar (hr.mono (by decide:1<=3)) rfl (ae (pv 0) (ae aq af))) (fun _ _=>rfl)) af)))) (ae (pv 4) af)))))))),?_⟩
  refine⟨by show 3<=sizeLine;decide,fun l nl=>?_⟩;have s1:Same H (upd H l (.lst (([2,3,8]:List Int).map V.int))):=aj nl;have e1:(upd H l (.lst (([2,3,8]:List Int).map V.int))) l=some (.lst (([2,3,8]:List Int).map V.int)):=ag;refine⟨_,rfl,p,3,rfl,dk.same s1,by decide,fun r H2 r0 r1 dk2 B2=>?_⟩;obtain⟨few,hfew,ef⟩:=abL (xs:=[2,3,8]) r0 r1;have hf:0 < few/\few<=8:=by simp only [aeY,afL,ahc] at hfew;lia
  refine⟨l,_,_,.int few,rfl,rfl,aAA (B2 _ _ (dk.ne nl) e1),ef,?_⟩;refine⟨afh _,fun rA nR=>?_⟩;have s3:Same H2 (upd H2 rA (.lst [])):=aj nR;have e3:(upd H2 rA (.lst [])) rA=some (.lst []):=ag;have rp:=dk2.ne nR;have B03:But p H (upd H2 rA (.lst [])):=(ay s1).trans (B2.trans (ay s3));have nR0:H rA=none:=((ay s1).trans B2).free rp nR;have dk3:=dk2.same s3;generalize upd H2 rA (.lst [])=H3 at *;clear e1 s1 s3 ef;refine⟨fun σ' H'=>∃ i,i<=most/\HsZ S p rA most lk few H i σ' H',?_,?_⟩
  ·rintro σ H4 ⟨i,im,vs,rs,x5,x6,rfl,hR,hRs,rok,rl,dk4,B4⟩;refine⟨_,rfl,_,rfl,by show 4<=sizeLine;decide,fun l nl=>?_⟩;have s5:Same H4 (upd H4 l (.lst (([5,5,5,13]:List Int).map V.int))):=aj nl;have e5:(upd H4 l (.lst (([5,5,5,13]:List Int).map V.int))) l=some (.lst (([5,5,5,13]:List Int).map V.int)):=ag;refine⟨_,rfl,p,4,rfl,dk4.same s5,by decide,fun r H6 r0 r1 dk6 B6=>?_⟩;obtain⟨m,hmm,em⟩:=abL (xs:=[5,5,5,13]) r0 r1;have hm':0 < m/\m<=20:=by simp only [aeY,afL,ahc] at hmm;lia
   refine⟨l,_,_,.int m,rfl,rfl,aAA (B6 _ _ (dk4.ne nl) e5),em,?_⟩;refine⟨p,few,m,rfl,dk6,hf.1,hf.2,hm'.1,hm'.2,fun kA ks H7 nk hk kl kk dk7 B7=>?_⟩;have B47:But p H4 H7:=(ay s5).trans (B6.trans B7);refine⟨_,rfl,by show 2<=sizeLine;decide,fun t nt=>?_⟩;have s8:Same H7 (upd H7 t (.tup [.ref kA,.ref rA])):=aj nt;have e8:(upd H7 t (.tup [.ref kA,.ref rA])) t=some (.tup [.ref kA,.ref rA]):=ag;have kp:kA≠p:=dk6.ne nk;have tp:t≠p:=dk7.ne nt;generalize upd H7 t (.tup [.ref kA,.ref rA])=H8 at *;have np:∀ {b:Addr},b≠p->H b=none->b ∉ p::S:=fun h n z=>(aeY.mp z).elim h (iS.off n);have kA0:H kA=none:=(B4.trans ((ay s5).trans B6)).free kp nk;have tA0:H t=none:=(B4.trans B47).free tp nt;refine q (.ref t) (ks,rs) H8 ⟨t,kA,rA,vs,rfl,aG (np tp tA0) e8,aG (np kp kA0) (s8 _ _ hk),aG (np rp nR0) (s8 _ _ (B47 _ _ rp hR)),?_⟩ ⟨⟨kk,by show ks.length<=1000;lia,fun r hr=>(rok r hr).1,by show rs.length<=1000;lia⟩,by show rs.length<=most;lia,kl,fun r hr=>(rok r hr).2⟩ (dk7.same s8) (B4.trans (B47.trans (ay s8)));exact hRs.same ((mK (S:=rA::S) (B47.trans (ay s8))).trans (uK fun b hb=>(aeY.mp hb).elim (fun y=>aeY.mpr (.inl y)) fun y=>aeW _ (aeW _ y)))
  refine⟨_,rfl,_,rfl,most,1,rfl,rfl,p,(most:Int)+1,rfl,dk3,by lia,fun r H4 r0 r1 dk4 B4=>⟨r,rfl,by lia,by lia,?_⟩⟩;obtain⟨n,rfl⟩:∃ n:Nat,r=(n:Int):=⟨r.toNat,by lia⟩;rw [afu];refine fZ (fun i σ' H'=>HsZ S p rA most lk few H i σ' H') ⟨[],[],_,_,rfl,B4 _ _ rp e3,.nil,(fun r h=>nomatch h),rfl,dk4,B03.trans B4⟩ ?_ (fun σ H' z=>⟨n,by lia,z⟩);rintro i σ H5 hi ⟨vs,rs,x5,x6,rfl,hR,hRs,rok,rl,dk5,B5⟩;dsimp only [gh,sU,vf,tCB,aJ,cu];refine bM _ _ _ _ _ _ _ _ _ ?_;refine⟨_,rfl,_,rfl,p,(lk:Int),rfl,dk5,by lia,fun r H6 r0 r1 dk6 B6=>⟨1,r,rfl,rfl,1+r,rfl,by lia,by lia,?_⟩⟩;intro D nD;obtain⟨k,ek⟩:∃ k:Nat,1+r=(k:Int):=⟨(1+r).toNat,by lia⟩;rw [ek,afu];refine lh (Pr:=fun _ y=>∃ z,y=V.str z/\aP z) nD dk6 (by lia) (fun x=>rfl) (fun G i R hi BG dG kG=>?_) (fun ys H7 len pr hD7 B7 dk7=>?_)
  ·exact⟨_,rfl,_,rfl,p,few,rfl,dG,hf.1,hf.2,fun z G' kz dG' BG'=>kG _ _ ⟨z,rfl,kz⟩ dG' BG'⟩
  obtain⟨ss,rfl,hss⟩:=fm fun y hy=>by
   obtain⟨i,e⟩:=afO.mp hy;exact pr i y e
  rw [aeT] at len;refine⟨D,ss,rfl,aAA hD7,by lia,fun kL ss' nS pm so=>?_⟩;have s8:Same H7 (upd H7 kL (.lst (ss'.map V.str))):=aj nS;have e8:(upd H7 kL (.lst (ss'.map V.str))) kL=some (.lst (ss'.map V.str)):=ag;have sp:kL≠p:=dk7.ne nS;have B58:But p H5 (upd H7 kL (.lst (ss'.map V.str))):=B6.trans (B7.trans (ay s8));have dk8:=dk7.same s8;have sr:kL≠rA:=(ai ((B6.trans B7) _ _ rp hR) nS).symm;generalize upd H7 kL (.lst (ss'.map V.str))=H8 at *;have hR8:=B58 _ _ rp hR;refine⟨_,rfl,.inl ⟨rfl,_,aAA hR8⟩,_,rfl,_,rfl,_,rfl,by show 2<=sizeLine;decide,fun li nli=>?_⟩;have s9:Same H8 (upd H8 li (.lst [.int 9,.int 3])):=aj nli;have e9:(upd H8 li (.lst [.int 9,.int 3])) li=some (.lst (([9,3]:List Int).map V.int)):=ag;generalize upd H8 li (.lst [.int 9,.int 3])=H9 at *;obtain⟨v9,h9,a9⟩:∃ v9∈([9,3]:List Int),atI (([9,3]:List Int).map V.int) (if decide ((most:Int) > 12)=true then 1 else 0)=some (.int v9):=by
   cases decide ((most:Int) > 12)
   ·exact⟨9,by simp,rfl⟩
   ·exact⟨3,by simp,rfl⟩
  have hv9:0 < v9/\v9<=9:=by simp only [aeY,afL,ahc] at h9;lia
  refine⟨_,rfl,most,12,rfl,rfl,.inr ⟨_,rfl,li,_,_,.int v9,rfl,rfl,aAA e9,a9,by show 5<=sizeLine;decide,fun lo nlo=>?_⟩⟩;have sA:Same H9 (upd H9 lo (.lst (([2,3,4,2,v9]:List Int).map V.int))):=aj nlo;have eA:(upd H9 lo (.lst (([2,3,4,2,v9]:List Int).map V.int))) lo=some (.lst (([2,3,4,2,v9]:List Int).map V.int)):=ag;have dk9:=dk8.same s9;refine⟨_,rfl,p,5,rfl,dk9.same sA,by decide,fun r HB r0 r1 dkB BB=>?_⟩;obtain⟨m,hmm,em⟩:=abL (xs:=[2,3,4,2,v9]) r0 r1;have hm':0 < m/\m<=20:=by simp only [aeY,afL,ahc] at hmm;lia
  refine⟨lo,_,_,.int m,rfl,rfl,aAA (BB _ _ (dk9.ne nlo) eA),em,?_⟩;refine⟨p,few,m,rfl,dkB,hf.1,hf.2,hm'.1,hm'.2,fun kA ks HC nk hk kl kk dkC BC=>?_⟩;have B8C:But p H8 HC:=(ay (s9.trans sA)).trans (BB.trans BC);refine⟨by show 2<=sizeLine;decide,fun t nt=>?_⟩;have sD:Same HC (upd HC t (.tup [.ref kL,.ref kA])):=aj nt;have eD:(upd HC t (.tup [.ref kL,.ref kA])) t=some (.tup [.ref kL,.ref kA]):=ag;have hRC:=B8C _ _ rp hR8;have kp:kA≠p:=dkB.ne nk;have tp:t≠p:=dkC.ne nt;have tr:t≠rA:=(ai hRC nt).symm;have hRB:HB rA=some (.lst vs):=((ay (s9.trans sA)).trans BB) _ _ rp hR8;have kr:kA≠rA:=(ai hRB nk).symm;have hkL:=B8C _ _ sp e8;generalize upd HC t (.tup [.ref kL,.ref kA])=HD at *;refine⟨rA,_,_,rfl,rfl,sD _ _ hRC,by rw [hRs.1];exact bZ (by lia),?_⟩;have B5D:But p H5 HD:=B58.trans (B8C.trans (ay sD));have out:∀ {b:Addr},b≠p->b≠rA->H b=none->b ∉ p::rA::S:=fun h1 h2 n z=>by
   rcases aeY.mp z with y | y
   ·exact h1 y
   ·exact (aeY.mp y).elim h2 (iS.off n)
  have sp0:H kL=none:=(B5.trans (B6.trans B7)).free sp nS;have kp0:H kA=none:=(B5.trans (B58.trans ((ay (s9.trans sA)).trans BB))).free kp nk;have tp0:H t=none:=(B5.trans (B58.trans B8C)).free tp nt;have ml:∀ x∈ss',aP x:=fun x hx=>hss x (pm.mem_iff.mp hx);have ll:=pm.length_eq;refine⟨vs++[.ref t],rs++[(ss',ks)],_,_,rfl,ag,?_,fun r hr=>?_,by rw [aeV,rl];rfl,(dkC.same sD).up rp,fun b u nb e=>by rw [ax (ai e nR0)];exact B5D b u nb (B5 b u nb e)⟩
  ·refine RoomsAt.snoc (hRs.same ((mK (S:=rA::S) B5D).trans (adn (aeW _ aeX)))) ⟨t,kL,kA,rfl,?_,?_,?_⟩
   ·exact aG (out tp tr tp0) (by rw [ax tr];exact eD)
   ·exact aG (out sp sr sp0) (by rw [ax sr];exact sD _ _ hkL)
   ·exact aG (out kp kr kp0) (by rw [ax kr];exact sD _ _ hk)
  ·rcases afc.mp hr with y | y
   ·exact rok r y
   ·rw [ae1.mp y];exact⟨⟨ml,by show 1<=ss'.length;lia,by show ss'.length<=4;lia,b4 so,kk,by show ks.length<=1000;lia⟩,kl⟩
end
theorem ym {L L':List Addr}{H1 H2:Hp}(n:∀ b∈L',b∈L\/H1 b=none)(k:∀ b u,b ∉ L->H1 b=some u->H2 b=some u):Same (hid L H1) (hid L' H2):=fun b u e=>by
 obtain⟨m,e⟩:=aD e;refine aG (fun z=>?_) (k b u m e);rcases n b z with y | y
 ·exact m y
 ·rw [e] at y;cases y
theorem RoomsAt.uncons {H:Hp}{v:V}{vs:List V}{rs:List Rm}(x:RoomsAt H (v::vs) rs):∃ r rs',rs=r::rs'/\RoomAt H v r/\RoomsAt H vs rs':=by
 cases rs with
 | nil=>have:=x.1;simp at this
 | cons r rs'=>exact⟨r,rs',rfl,x.2 0 v r rfl rfl,by have:=x.1;simpa using this,fun i a b e1 e2=>x.2 (i+1) a b e1 e2⟩
theorem RoomsAt.cons {H:Hp}{v:V}{r:Rm}{vs:List V}{rs:List Rm}(x:RoomAt H v r)(y:RoomsAt H vs rs):RoomsAt H (v::vs) (r::rs):=RoomsAt.app (vs:=[v]) (rs:=[r]) (.one x) y
theorem RoomsAt.perm {H:Hp}{vs ys:List V}(pm:vs.Perm ys):∀ {rs:List Rm},RoomsAt H vs rs->∃ rs',rs.Perm rs'/\RoomsAt H ys rs':=by
 induction pm with
 | nil=>intro rs x;exact⟨rs,.refl _,x⟩
 | cons v _ ih =>
  intro rs x;obtain⟨r,rs',rfl,a,b⟩:=x.uncons;obtain⟨qs,p,c⟩:=ih b;exact⟨r::qs,p.cons r,.cons a c⟩
 | swap v w l =>
  intro rs x;obtain⟨r,rs',rfl,a,b⟩:=x.uncons;obtain⟨r2,rs2,rfl,c,d⟩:=b.uncons;exact⟨r2::r::rs2,.swap ..,.cons c (.cons a d)⟩
 | trans _ _ ih1 ih2 =>
  intro rs x;obtain⟨qs,p,c⟩:=ih1 x;obtain⟨qs2,p2,c2⟩:=ih2 c;exact⟨qs2,p.trans p2,c2⟩
theorem yx {α:Type}{ys zs xs:List α}{m:Nat}{y:α}(pm:(ys++zs).Perm xs)(e:zs[m]? = some y):((ys++[y])++zs.eraseIdx m).Perm xs:=by
 refine List.Perm.trans ?_ pm;rw [ae5];refine agb _ ?_;obtain⟨h,e⟩:=aeZ.mp e;subst e;show (zs[m]::zs.eraseIdx m).Perm zs;rw [List.eraseIdx_eq_take_drop_succ];have:zs=zs.take m++zs[m]::zs.drop (m+1):=by rw [← afU h,afy]
 refine List.Perm.trans ?_ (.of_eq this.symm);exact List.perm_middle.symm
def aet (p q:Addr)(H H':Hp):Prop:=∀ b u,b≠p->b≠q->H b=some u->H' b=some u
abbrev adK (K:PySem.W.Frag)(t:TE):TE:=tCB (fun xs H Q=>∃ p ys,xs=[V.ref p]/\(SqL K H p ys\/SqT K H p ys)/\Q (.int ys.length) H) (aJ t cu)
theorem wY {K:PySem.W.Frag}{nl:Nat}{ix:List Nat}{a b:Nat}{σ:L2.St}{H1:Hp}{D p q rA:Addr}{Q:VK}{xs:List V}(nD:H1 D=none)(dk:DeckAt H1 p)(hq:H1 q=some (.lst xs))(hr:H1 rA=some (.lst xs))(qp:q≠p)(rp:rA≠p)(rq:rA≠q)(hl:xs.length<=1000)
 (hc:∀ x,((ko nl ix σ).set 0 (some x)).drop nl=ix.map fun j=>(σ[j]?).join)
 (h1:∀ x,((ko nl ix σ).set 0 (some x))[a]? = some (some (.ref q)))(h2:∀ x,((ko nl ix σ).set 0 (some x))[b]? = some (some (.ref p)))
 (hd:∀ ys H,ys.Perm xs->H D=some (.lst ys)->DeckAt H p->aet p q H1 H->Q (.ref D) H) :
 qV nl ix (gh 0) acE (tBM K "list" xq (di a) (aJ (me gK [] E0 (aJ (di b) (aJ (adK K (di a)) cu))) cu)) σ (Itl K rA) H1 D Q:=by
 have lim:1000000 < sizeLine:=by decide
 have Dp:D≠p:=dk.ne nD;have Dq:D≠q:=fun z=>by rw [z,hq] at nD;cases nD
 have s0:Same H1 (upd H1 D (.lst [])):=aj nD;refine gc (xs:=xs) (fun i ys H=>∃ zs:List V,ys.length=i/\(ys++zs).Perm xs/\H q=some (.lst zs)/\H D=some (.lst ys)/\aet p q H1 H/\DeckAt H p) ⟨xs,rfl,.refl _,s0 _ _ hq,ag,fun b u _ _ e=>s0 b u e,dk.same s0⟩ (fun i ys H ⟨_,_,_,_,h,_⟩=>h) (fun i ys H ⟨_,_,_,_,_,B,_⟩=>aAA (B _ _ rp rq hr)) ?_ ?_
 ·rintro i ys H x hx ⟨zs,len,pm,hz,hD,B,dk'⟩;have hi:=(aeZ.mp hx).1;have pml:=pm.length_eq;rw [aeV] at pml;have zpos:0 < zs.length:=by lia
  refine cJ (hc _) ⟨_,h1 _,.inl ⟨rfl,_,aAA hz⟩,_,h2 _,_,h1 _,q,_,rfl,.inl (aAA hz),p,_,rfl,dk',(by show (0:Int) < (zs.length:Int);lia),fun r H' r0 r1 dk2 B2=>?_⟩;obtain⟨m,rfl⟩:∃ m:Nat,r=(m:Int):=⟨r.toNat,by lia⟩;have hm:m < zs.length:=by lia
  have ey:zs[m]? = some zs[m]:=aeS hm;refine⟨q,_,(m:Int),m,zs[m],rfl,rfl,B2 _ _ qp hz,by lia,by lia,(ahO (Int.natCast_nonneg m) (by lia)).trans (by simp),ey,?_⟩;have hD':(upd H' q (.lst (zs.eraseIdx m))) D=some (.lst ys):=by rw [ax Dq];exact B2 _ _ Dp hD
  refine⟨hD',by lia,nx hi ⟨zs.eraseIdx m,by simp [len],yx pm ey,by rw [ax Dq.symm,ag],ag,fun b u nb nq e=>?_,?_⟩⟩
  ·rw [ax (ai e nD),ax nq];exact B2 b u nb (B b u nb nq e)
  ·exact (dk2.up qp).up Dp
 ·rintro ys H ⟨zs,len,pm,hz,hD,B,dk'⟩;have pml:=pm.length_eq;rw [aeV] at pml;have ez:zs=[]:=agi.mp (by lia);subst ez;rw [afD] at pm;exact hd ys H pm hD dk' B
abbrev tTk (i:Nat)(t:TE):TE:=me gK [] E0 (aJ (di i) (aJ t cu))
abbrev adW (t:TE):TE:=tCB (fun xs H Q=>(∃ i,xs=[V.int i]/\Q (V.int i) H)\/∃ k,xs=[V.bl k]/\Q (V.int (if k=true then 1 else 0)) H) (aJ t cu)
theorem px {α β:Type}(f:α->β):∀ (l:List α) (k:Nat),(l.map f).eraseIdx k=(l.eraseIdx k).map f
 | [],_=>rfl
 | _::_,0=>rfl
 | a::l,k+1=>by show f a::(l.map f).eraseIdx k=f a::(l.eraseIdx k).map f;rw [px f l k]
def tIn (K:PySem.W.Frag):TS:=aep (acK (aJ (tOp (rI0 fun i j=>V.int (i+j)) (tC (V.int 1)) (tOp (rI CMul fun i j=>V.int (i * j)) (tTk 0 (tCB (fun xs H Q=>∃ i j,xs=[V.int i,V.int j]/\Q (V.int (if j < i then j else i)) H) (aJ (di 2) (aJ (adK K (di 5)) cu)))) (adW (tOp rEq (tTk 0 (tC (V.int 3))) (tC (V.int 0)))))) cu)) (gh 9) (abo (tBM K "list" sZ (di 8) (aJ (tBM K "list" xq (di 5) (aJ (tTk 0 (adK K (di 5))) cu)) cu)))
section
variable {K:PySem.W.Frag}{p kA hA rA sA:Addr}{most lk:Nat}{few:Int}{x7 x10 x11 x12 x13:Option V}{hd:List Str}{H:Hp}{D:vt}
abbrev stG (p:Addr)(most lk:Nat)(few:Int)(kA hA rA:Addr)(x7 x8 x9 x10 x11 x12 x13:Option V):L2.St:=[some (.ref p),some (.int most),some (.int lk),some (.int few),some (.ref kA),some (.ref hA),some (.ref rA),x7,x8,x9,x10,x11,x12,x13]
inductive InI (p kA hA rA sA:Addr)(most lk:Nat)(few:Int)(x7 x10 x11 x12 x13:Option V)(hd:List Str)(H:Hp)(i:Nat)(σ:L2.St)(H':Hp):Prop
 | mk (x9:Option V) (ss hd':List Str):σ=stG p most lk few kA hA rA x7 (some (.ref sA)) x9 x10 x11 x12 x13->H' sA=some (.lst (ss.map V.str))->H' hA=some (.lst (hd'.map V.str))->ss.length=i->hd'.length+i=hd.length->(∀ k∈ss,k∈hd)->(∀ k∈hd',k∈hd)->DeckAt H' p->(∀ b u,b≠p->b≠hA->b≠sA->H b=some u->H' b=some u)->InI p kA hA rA sA most lk few x7 x10 x11 x12 x13 hd H i σ H'
theorem ad1 {x9:Option V}(dk:DeckAt H p)(hh:H hA=some (.lst (hd.map V.str)))(hs:H sA=some (.lst []))(hp:hA≠p)(sp:sA≠p)(sh:sA≠hA)(ne:hd≠[])(hl:hd.length<=1000)(l1:1<=lk)(l4:lk<=4)
 (q:∀ n σ' H',1<=n->n<=4->InI p kA hA rA sA most lk few x7 x10 x11 x12 x13 hd H n σ' H'->D.nx σ' H'):tIn K D (stG p most lk few kA hA rA x7 (some (.ref sA)) x9 x10 x11 x12 x13) H:=by
 have lim:1000000<=sizeLine:=by decide
 have pos:0 < hd.length:=ago.mpr ne;have hL:(hd.map V.str).length=hd.length:=aeT _;refine⟨_,rfl,_,rfl,_,rfl,hA,_,rfl,.inl (aAA hh),_,_,rfl,p,_,rfl,dk,by rw [hL];split<;>lia,fun r H1 r0 r1 dk1 B1=>?_⟩;rw [hL] at r1;refine⟨_,rfl,p,3,rfl,dk1,by decide,fun r2 H2 _ _ dk2 B2=>⟨rfl,.inr ⟨_,rfl,?_⟩⟩⟩;have B:=B1.trans B2;refine⟨r,_,rfl,rfl,?_,1,_,rfl,rfl,?_⟩
 ·refine .inl ⟨?_,?_⟩<;>split at r1<;>lia
 obtain⟨n,en,n1,n4,nh⟩:∃ n:Nat,1+r * (if (decide (V.int r2=V.int 0))=true then 1 else 0)=(n:Int)/\1<=n/\n<=4/\n<=hd.length:=by
  refine⟨(1+r * (if (decide (V.int r2=V.int 0))=true then 1 else 0)).toNat,?_⟩;split at r1<;>split<;>lia
 refine⟨(n:Int),afH (fun z=>[V.int z]) en,by lia,by lia,?_⟩;rw [afu];refine fZ (fun i σ' H'=>InI p kA hA rA sA most lk few x7 x10 x11 x12 x13 hd H i σ' H') ⟨x9,[],hd,rfl,B _ _ sp hs,B _ _ hp hh,rfl,rfl,(fun k hk=>nomatch hk),fun k hk=>hk,dk2,fun b u nb _ _ e=>B b u nb e⟩ ?_ (fun σ' H' z=>q n σ' H' n1 n4 z);rintro i σ' H3 hi ⟨x9,ss,hd',rfl,es,eh,sl,hl',s1,s2,dk3,fr⟩;have hL':(hd'.map V.str).length=hd'.length:=aeT _;refine⟨_,rfl,.inl ⟨rfl,_,aAA es⟩,_,rfl,.inl ⟨rfl,_,aAA eh⟩,_,rfl,_,rfl,hA,_,rfl,.inl (aAA eh),p,_,rfl,dk3,by rw [hL'];lia,fun r H4 r0 r1 dk4 B4=>?_⟩;rw [hL'] at r1;obtain⟨m,rfl⟩:∃ m:Nat,r=(m:Int):=⟨r.toNat,by lia⟩;have hm:m < hd'.length:=by lia
 refine⟨hA,_,(m:Int),m,.str hd'[m],rfl,rfl,B4 _ _ hp eh,by lia,by lia,(ahO (Int.natCast_nonneg m) (by rw [hL'];lia)).trans (by simp),by rw [afg,aeS hm];rfl,?_⟩;refine⟨sA,_,_,rfl,rfl,by rw [ax sh];exact B4 _ _ sp es,by rw [aeT];lia,?_⟩;have le:=List.length_eraseIdx_of_lt hm;refine⟨_,ss++[hd'[m]],hd'.eraseIdx m,rfl,by rw [ag,afe];rfl,by rw [ax sh.symm,ag,px],by rw [aeV,sl];rfl,by lia,fun k hk=>?_,fun k hk=>s2 k (List.mem_of_mem_eraseIdx hk),(dk4.up hp).up sp,fun b u nb nh ns e=>?_⟩
 ·rcases afc.mp hk with z | z
  ·exact s1 k z
  ·rw [ae1.mp z];exact s2 _ (afz hm)
 ·rw [ax ns,ax nh];exact B4 b u nb (fr b u nb nh ns e)
end
def jY:Sp:=fun vs H Q _=>∃ (p:Addr) (n m:Int),vs=[.ref p,.int n,.int m]/\DeckAt H p/\0 < n/\n<=8/\0 < m/\m<=20/\∀ (l:Addr) (ks:List Str) (H':Hp),H l=none->H' l=some (.lst (ks.map V.str))->(ks.length:Int) < m->(∀ k∈ks,aP k)->DeckAt H' p->But p H H'->Q (.ref l) H'
section
variable {P:Program}{w:World}{K:PySem.W.Frag}{mg:Str->Option Value}{base:Heap}
theorem aad {f fS fK:Addr}{fd fdS fdK:FuncData}(F:Fun K "_law_keys" "_law_keys" gm f fd)(aw:FnOk P w K mg base CX0 1 fS fdS ["deck","many"] gK)(ar:Cal K mg "_law_take" ["deck","many"] fS fdS)(bU:FnOk P w K mg base CX0 2 fK fdK ["deck","few"] iO)(bh:Cal K mg "_law_kind" ["deck","few"] fK fdK)(bf:mg "range" = none):FnOk P w K mg base CX0 3 f fd ["deck","few","most"] jY:=by
 refine F.ok sQ (fun vs H Q E h=>?_) (fun cdv A outer s H vs Q E hr h=>?_)
 ·obtain⟨p,n,m,rfl,_⟩:=h
  rfl
 ·obtain⟨p,n,m,rfl,dk,n0,n1,m0,m1,q⟩:=h;refine⟨_,(ao (aE (mj (tg:=.Name "k" _) (outer:=ak (gm)) (N:=["deck","few","most"]) (N':=["k","deck","few"]) (nl:=1) (ix:=[0,1]) rfl rfl rfl (cq rfl bf (ae (pcl aw ar (hr.mono (by decide:1<=2)) rfl (ae (pv 0) (ae (pv 2) af))) af))
   (fun _ _ _ _=>(aA (i:=0) oU rfl (.inl rfl) (.inr rfl))) (fun _ _ _ _=>dA)
   (fun _ _ _ _=>(pcl bU bh hr rfl (ae (pv 1) (ae (pv 2) af))))))),?_⟩
  dsimp only [wt];refine bM _ _ _ _ _ _ _ _ _ ?_;refine⟨_,rfl,_,rfl,p,m,rfl,dk,m0,fun r H1 r0 r1 dk1 B1=>⟨r,rfl,by lia,by lia,?_⟩⟩;intro D nD;obtain⟨k,rfl⟩:∃ k:Nat,r=(k:Int):=⟨r.toNat,by lia⟩;rw [afu];refine lh (Pr:=fun _ y=>∃ z,y=V.str z/\aP z) nD dk1 (by lia) (fun x=>rfl) (fun G i R hi BG dG kG=>?_) (fun ys H3 len pr hD3 B3 dk3=>?_)
  ·exact⟨_,rfl,_,rfl,p,n,rfl,dG,n0,n1,fun z G' kz dG' BG'=>kG _ _ ⟨z,rfl,kz⟩ dG' BG'⟩
  obtain⟨ss,rfl,hss⟩:=fm fun y hy=>by
   obtain⟨i,e⟩:=afO.mp hy;exact pr i y e
  rw [aeT] at len;exact q D ss H3 (B1.free (dk1.ne nD) nD) hD3 (by lia) hss dk3 (B1.trans B3)
theorem abN {f:Addr}{fd:FuncData}(F:FnOk P w K mg base CX0 3 f fd ["deck","few","most"] jY):FnOk P w K mg base CX0 3 f fd ["deck","few","most"] xC :=
 FnOk.wk F fun vs H Q E ⟨p,n,m,e,h1,h2,h3,h4,h5,k⟩=>⟨p,n,m,e,h1,h2,h3,h4,h5,fun l ks H' a b c=>k l ks H' a b (by lia)⟩
end
abbrev abZ (K:PySem.W.Frag)(t:TE):TE:=tCB (fun xs H Q=>∃ p ss,xs=[V.ref p]/\SqL K H p (List.map V.str ss)/\ss.length < 64/\∀ (l:Addr) (ss':List Str),H l=none->ss'.Perm ss->sortedS ss'=true->Q (V.ref l) (upd H l (HO.lst (List.map V.str ss')))) (aJ t cu)
def ad4 (K:PySem.W.Frag)(A:Around):TS:=sU (vf (oR cu) (gh 8)) (sU (ad8 (tIn K)) (sU (vf (me jY [] E0 (aJ (di 0) (aJ (di 3) (aJ (tOp (zt K) (oR (aJ (tC (V.int 3)) (aJ (tC (V.int 3)) (aJ (tC (V.int 3)) (aJ (tC (V.int 9)) cu))))) (tTk 0 (tC (V.int 4)))) cu)))) (gh 10)) (sU (vf (tOp acG (di 10) (tOp adP (oR (aJ (me iO [] E0 (aJ (di 0) (aJ (di 3) cu))) cu)) (adW (tOp (z5 A false) (di 5) (oR cu))))) (gh 10)) (sU (vf (tOp acG (di 5) (di 10)) (gh 5)) (abo (tBM K "list" sZ (di 6) (aJ (wD (aJ (abZ K (di 8)) (aJ (di 10) cu))) cu)))))))
inductive GdI (S:List Addr)(p kA rA:Addr)(most lk:Nat)(few:Int)(ks:List Str)(H:Hp)(i:Nat)(σ:L2.St)(H':Hp):Prop
 | mk (hA:Addr) (hd:List Str) (vs:List V) (rs:List Rm) (x7 x8 x9 x10:Option V):σ=stG p most lk few kA hA rA x7 x8 x9 x10 none none none->H' hA=some (.lst (hd.map V.str))->hd≠[]->hd.length<=10+10 * i->(∀ k∈hd,aP k)->H' rA=some (.lst vs)->RoomsAt (hid (p::rA::hA::S) H') vs rs->(∀ r∈rs,gX r/\r.2.length<=20)->rs.length=i->hA≠p->hA≠rA->hA≠kA->H hA=none->H' kA=some (.lst (ks.map V.str))->DeckAt H' p->But p H H'->GdI S p kA rA most lk few ks H i σ H'
section
variable {K:PySem.W.Frag}{A:Around}{S:List Addr}{p kA rA:Addr}{most lk:Nat}{few:Int}{ks:List Str}{H:Hp}{D:vt}
theorem acp {i:Nat}{σ:L2.St}{H0:Hp}(hu:A.units+1 < cLine)(iS:InH S H)(nR:H rA=none)(nK:H kA=none)(rp:rA≠p)(kp:kA≠p)(rk:rA≠kA)(f0:0 < few)(f8:few<=8)(l1:1<=lk)(l4:lk<=4)(im:i < 60)(g:GdI S p kA rA most lk few ks H i σ H0)(q:∀ σ' H',GdI S p kA rA most lk few ks H (i+1) σ' H'->D.nx σ' H')(y:V):ad4 K A D (σ.set 7 (some y)) H0:=by
 obtain⟨hA,hd,vs,rs,x7,x8,x9,x10,rfl,eh,hne,hdl,hdk,er,hR,rok,rl,hp,hr,hk,nH,ek,dk,B0⟩:=g;have lim:1000000<=sizeLine:=by decide
 refine⟨afh _,fun sA nS=>?_⟩;have s1:Same H0 (upd H0 sA (.lst [])):=aj nS;have e1:(upd H0 sA (.lst [])) sA=some (.lst []):=ag;have sp:=dk.ne nS;have sh:sA≠hA:=(ai eh nS).symm;have sr:sA≠rA:=(ai er nS).symm;have sk:sA≠kA:=(ai ek nS).symm;have nS0:H sA=none:=B0.free sp nS;have dk1:=dk.same s1;generalize upd H0 sA (.lst [])=H1 at *;refine⟨fun σ' H'=>∃ n,1<=n/\n<=4/\InI p kA hA rA sA most lk few (some y) x10 none none none hd H1 n σ' H',?_,ad1 (x9:=x9) dk1 (s1 _ _ eh) e1 hp sp sh hne (by lia) l1 l4 fun n σ' H' a b z=>⟨n,a,b,z⟩⟩;rintro σ H2 ⟨n,n1,n4,x9,ss,hd',rfl,es2,eh2,sl,hl2,sub1,sub2,dk2,fr2⟩;have er2:=fr2 _ _ rp hr.symm sr.symm (s1 _ _ er);have ek2:=fr2 _ _ kp hk.symm sk.symm (s1 _ _ ek);have B2:∀ b u,b≠p->H b=some u->H2 b=some u:=fun b u nb e=>fr2 b u nb (ai e nH) (ai e nS0) (s1 _ _ (B0 b u nb e));have hR2:RoomsAt (hid (p::rA::hA::sA::S) H2) vs rs:=hR.same (ym (fun b hb=>by
  simp only [aeY] at hb ⊢;rcases hb with z | z | z | z | z
  ·exact .inl (.inl z)
  ·exact .inl (.inr (.inl z))
  ·exact .inl (.inr (.inr (.inl z)))
  ·exact .inr (by rw [z];exact nS)
  ·exact .inl (.inr (.inr (.inr z)))) fun b u nb e=>by
   simp only [aeY,not_or] at nb;exact fr2 b u nb.1 nb.2.2.1 (ai e nS) (s1 _ _ e))
 clear hR fr2 B0 s1 e1 dk1 eh er ek dk;refine⟨_,rfl,_,rfl,by show 4<=sizeLine;decide,fun l nl=>?_⟩;have s3:Same H2 (upd H2 l (.lst (([3,3,3,9]:List Int).map V.int))):=aj nl;have e3:(upd H2 l (.lst (([3,3,3,9]:List Int).map V.int))) l=some (.lst (([3,3,3,9]:List Int).map V.int)):=ag;refine⟨_,rfl,p,4,rfl,dk2.same s3,by decide,fun r H4 r0 r1 dk4 B4=>?_⟩;obtain⟨m,hmm,em⟩:=abL (xs:=[3,3,3,9]) r0 r1;have hm':0 < m/\m<=9:=by simp only [aeY,afL,ahc] at hmm;lia
 refine⟨l,_,_,.int m,rfl,rfl,aAA (B4 _ _ (dk2.ne nl) e3),em,?_⟩;refine⟨p,few,m,rfl,dk4,f0,f8,hm'.1,by lia,fun iA is H5 ni hi il ik dk5 B5=>?_⟩;have B25:But p H2 H5:=(ay s3).trans (B4.trans B5);have ip:iA≠p:=dk4.ne ni;refine⟨_,rfl,_,rfl,_,rfl,p,few,rfl,dk5,f0,f8,fun z H6 kz dk6 B6=>?_⟩;have B26:But p H2 H6:=B25.trans B6;refine⟨by show 1<=sizeLine;decide,fun zA nz=>?_⟩;have s7:Same H6 (upd H6 zA (.lst [.str z])):=aj nz;have e7:(upd H6 zA (.lst [.str z])) zA=some (.lst [.str z]):=ag;generalize upd H6 zA (.lst [.str z])=H7 at *;refine⟨_,rfl,afh _,fun eA nE=>?_⟩;have s8:Same H7 (upd H7 eA (.lst [])):=aj nE;have e8:(upd H7 eA (.lst [])) eA=some (.lst []):=ag;generalize upd H7 eA (.lst [])=H8 at *;have S8:=s7.trans s8;refine jy (S8 _ _ (B26 _ _ hp eh2)) (SeesAll.strs _) (ir fun k hk=>hdk k (sub2 k hk)) e8 hu (.inr ⟨_,rfl,?_⟩);refine⟨zA,_,[.str z],rfl,rfl,s8 _ _ e7,by split<;>lia,by split<;>lia,by show 1 * _<=_;split<;>(show 1 * _<=sizeLine;simp)<;>lia,fun wA nw=>?_⟩;have ew:(List.replicate (Int.toNat (if (hd'.map V.str).isEmpty=true then 1 else 0)) [V.str z]).flatten=(if hd'=[] then [z] else []).map V.str:=by
  cases hd'<;>rfl
 rw [ew];have es1:(if hd'=[] then [z] else []).length<=1:=by split<;>simp
 have esk:∀ k∈(if hd'=[] then [z] else []),aP k:=fun k hk=>by
  split at hk
  ·rw [ae1.mp hk];exact kz
  ·cases hk
 have ene:hd'++(is++(if hd'=[] then [z] else []))≠[]:=fun e=>by
  cases hd' with
  | nil=>simp at e
  | cons a l=>simp at e
 generalize (if hd'=[] then [z] else [])=es at *;have s9:Same H8 (upd H8 wA (.lst (es.map V.str))):=aj nw;have e9:(upd H8 wA (.lst (es.map V.str))) wA=some (.lst (es.map V.str)):=ag;generalize upd H8 wA (.lst (es.map V.str))=H9 at *;have S9:=S8.trans s9;refine⟨iA,wA,_,_,rfl,rfl,S9 _ _ (B6 _ _ ip hi),e9,by rw [aeT,aeT];lia,fun jA nj=>?_⟩;rw [← afe];have sA1:Same H9 (upd H9 jA (.lst ((is++es).map V.str))):=aj nj;have eA1:(upd H9 jA (.lst ((is++es).map V.str))) jA=some (.lst ((is++es).map V.str)):=ag;generalize upd H9 jA (.lst ((is++es).map V.str))=HA at *;have SA:=S9.trans sA1;have ehA:=SA _ _ (B26 _ _ hp eh2);have ln:(is++es).length<=9:=by rw [aeV];lia
 refine⟨_,rfl,_,rfl,hA,jA,_,_,rfl,rfl,ehA,eA1,by rw [aeT,aeT];lia,fun hB nB=>?_⟩;rw [← afe];have sB:Same HA (upd HA hB (.lst ((hd'++(is++es)).map V.str))):=aj nB;have eB:(upd HA hB (.lst ((hd'++(is++es)).map V.str))) hB=some (.lst ((hd'++(is++es)).map V.str)):=ag;generalize upd HA hB (.lst ((hd'++(is++es)).map V.str))=HB at *;have SB:=SA.trans sB;have erB:=SB _ _ (B26 _ _ rp er2);refine⟨_,rfl,.inl ⟨rfl,_,aAA erB⟩,_,rfl,sA,ss,rfl,aAA (SB _ _ (B26 _ _ sp es2)),by lia,fun kL ss' nL pm so=>⟨_,rfl,by show 2<=sizeLine;decide,fun t nt=>?_⟩⟩;have sC:Same HB (upd HB kL (.lst (ss'.map V.str))):=aj nL;have eC:(upd HB kL (.lst (ss'.map V.str))) kL=some (.lst (ss'.map V.str)):=ag;generalize upd HB kL (.lst (ss'.map V.str))=HC at *;have sD:Same HC (upd HC t (.tup [.ref kL,.ref jA])):=aj nt;have eD:(upd HC t (.tup [.ref kL,.ref jA])) t=some (.tup [.ref kL,.ref jA]):=ag;generalize upd HC t (.tup [.ref kL,.ref jA])=HD at *;have SC:=SB.trans sC;have SD:=SC.trans sD;have vl:vs.length=i:=hR2.1.trans rl;refine⟨rA,vs,.ref t,rfl,rfl,SD _ _ (B26 _ _ rp er2),by lia,q _ _ ?_⟩;have fp:∀ {b} {G:Hp},Same H6 G->G b=none->b≠p:=fun s n=>(dk6.same s).ne n;have f2:∀ {b} {G:Hp},Same H6 G->G b=none->H2 b=none:=fun s n=>B26.free (fp s n) (s.free n);have f0:∀ {b} {G:Hp},Same H6 G->G b=none->H b=none:=fun {b G} s n=>by
  cases e:H b with
  | none=>rfl
  | some u=>have:=B2 b u (fp s n) e;rw [f2 s n] at this;cases this
 have fr:∀ {b} {G:Hp},Same H6 G->G b=none->b≠rA:=fun s n=>(ai (s _ _ (B26 _ _ rp er2)) n).symm;have jB:jA≠hB:=ai eA1 nB;have kB:kL≠hB:=(ai eB nL).symm;have tB:t≠hB:=(ai (sC _ _ eB) nt).symm;have off:∀ {b} {G:Hp},Same H6 G->G b=none->b≠hB->b ∉ p::rA::hB::S:=fun s n nb z=>by
  simp only [aeY] at z;rcases z with z | z | z | z
  ·exact fp s n z
  ·exact fr s n z
  ·exact nb z
  ·exact iS.off (f0 s n) z
 have up:∀ {b u},b≠rA->HD b=some u->(upd HD rA (.lst (vs++[.ref t]))) b=some u:=fun n e=>by rw [ax n];exact e
 have rkl:=pm.length_eq;refine⟨hB,hd'++(is++es),vs++[.ref t],rs++[(ss',is++es)],some y,some (.ref sA),x9,some (.ref jA),rfl,up (fr SA nB) (sD _ _ (sC _ _ eB)),ene,by rw [aeV];lia,fun k hk=>?_,ag,RoomsAt.snoc (hR2.same (ym (fun b hb=>?_) fun b u nb e=>?_)) ⟨t,kL,jA,rfl,aG (off SC nt tB) (up (fr SC nt) eD),aG (off SB nL kB) (up (fr SB nL) (sD _ _ eC)),aG (off S9 nj jB) (up (fr S9 nj) (sD _ _ (sC _ _ (sB _ _ eA1))))⟩,fun r hr=>?_,by rw [aeV,rl];rfl,fp SA nB,fr SA nB,(ai (SA _ _ (B26 _ _ kp ek2)) nB).symm,f0 SA nB,up rk.symm (SD _ _ (B26 _ _ kp ek2)),(dk6.same SD).up rp,fun b u nb e=>up (ai e nR) (SD _ _ (B26 _ _ nb (B2 b u nb e)))⟩
 ·rcases afc.mp hk with z | z
  ·exact hdk k (sub2 k z)
  ·rcases afc.mp z with z | z
   ·exact ik k z
   ·exact esk k z
 ·simp only [aeY] at hb ⊢;rcases hb with z | z | z | z
  ·exact .inl (.inl z)
  ·exact .inl (.inr (.inl z))
  ·exact .inr (by rw [z];exact f2 SA nB)
  ·exact .inl (.inr (.inr (.inr (.inr z))))
 ·simp only [aeY,not_or] at nb;exact up nb.2.1 (SD _ _ (B26 _ _ nb.1 e))
 ·rcases afc.mp hr with z | z
  ·exact rok r z
  ·rw [ae1.mp z];refine⟨⟨fun k hk=>hdk k (sub1 k (pm.mem_iff.mp hk)),by show 1<=ss'.length;lia,by show ss'.length<=4;lia,b4 so,fun k hk=>?_,by show (is++es).length<=1000;lia⟩,by show (is++es).length<=20;lia⟩;rcases afc.mp hk with z | z
   ·exact ik k z
   ·exact esk k z
end
inductive SpF (S:List Addr)(p kA rA:Addr)(ks:List Str)(H:Hp)(n:Nat)(H':Hp):Prop
 | mk (vs:List V) (rs:List Rm):H' rA=some (.lst vs)->RoomsAt (hid (p::rA::S) H') vs rs->(∀ r∈rs,gX r/\r.2.length<=20)->rs.length=n->H' kA=some (.lst (ks.map V.str))->DeckAt H' p->But p H H'->SpF S p kA rA ks H n H'
abbrev stS (p:Addr)(most lk:Nat)(few:Int)(kA hA rA:Addr)(x7 x8 x9 x10:Option V)(sp a:Int):L2.St:=stG p most lk few kA hA rA x7 x8 x9 x10 (some (.int sp)) (some (.int a)) none
def aeM (K:PySem.W.Frag)(A:Around):TS:=acL (adX (p9 (tOp (z5 A true) (di 6) (oR cu))) (p9 (tOp rEq (di 11) (tC (V.int 1))))) (vf (wD (aJ (tOp (acF K) (tOp (zt K) (di 6) (di 12)) (tC (V.int 0))) (aJ (tSl (adJ K) (tOp (acF K) (tOp (zt K) (di 6) (di 12)) (tC (V.int 1))) (aaf (tC (V.int 1))) qG) cu))) (aei (di 6) (di 12) abm)) o8
def aeK (K:PySem.W.Frag)(A:Around):TS:=acL (adX (p9 (tOp (z5 A true) (di 6) (oR cu))) (p9 (tOp rEq (di 11) (tC (V.int 2))))) (vf (wD (aJ (oR (aJ (me iO [] E0 (aJ (di 0) (aJ (tC (V.int 8)) cu))) cu)) (aJ (tOp (acF K) (tOp (zt K) (di 6) (di 12)) (tC (V.int 1))) cu))) (aei (di 6) (di 12) abm)) o8
section
variable {K:PySem.W.Frag}{A:Around}{S:List Addr}{p kA hA rA:Addr}{most lk n a:Nat}{few sp:Int}{x7 x8 x9 x10:Option V}{ks:List Str}{H H1:Hp}{D:vt}
theorem aaY {H2:Hp}{vs:List V}{rs:List Rm}{t:Addr}{r:Rm}(hR:RoomsAt (hid (p::rA::S) H1) vs rs)(rok:∀ r∈rs,gX r/\r.2.length<=20)(rl:rs.length=n)(rp:rA≠p)(kp:kA≠p)(rk:rA≠kA)(nR:H rA=none)(ek:H1 kA=some (.lst (ks.map V.str)))(B01:But p H H1)(B:But p H1 H2)(dk2:DeckAt H2 p)(lt:a < vs.length)(rm:RoomAt (hid (p::rA::S) H2) (.ref t) r)(ok:gX r/\r.2.length<=20):SpF S p kA rA ks H n (upd H2 rA (.lst (vs.set a (.ref t)))):=by
 have up:∀ {b u},b≠rA->H2 b=some u->(upd H2 rA (.lst (vs.set a (.ref t)))) b=some u:=fun n e=>by rw [ax n];exact e
 have s2:Same (hid (p::rA::S) H2) (hid (p::rA::S) (upd H2 rA (.lst (vs.set a (.ref t))))):=ox fun b u nb e=>up (fun z=>nb (by rw [z];simp)) e;refine⟨vs.set a (.ref t),rs.set a r,ag,RoomsAt.set ((hR.same (mK B)).same s2) lt (rm.same s2),fun x hx=>?_,by rw [aiN];exact rl,up rk.symm (B _ _ kp ek),dk2.up rp,fun b u nb e=>up (ai e nR) (B b u nb (B01 b u nb e))⟩;rcases List.mem_or_eq_of_mem_set hx with z | z
 ·exact rok x z
 ·rw [z];exact ok
theorem vd {G:Hp}{vs:List V}{b:Addr}(iS:InH S H)(B:But p H G)(dk:DeckAt G p)(er:G rA=some (.lst vs))(n:G b=none):b ∉ p::rA::S:=fun z=>by
 simp only [aeY] at z;rcases z with z | z | z
 ·exact dk.ne n z
 ·exact ai er n z.symm
 ·exact iS.off (B.free (dk.ne n) n) z
theorem adq (hu:A.units+1 < cLine)(iS:InH S H)(rp:rA≠p)(kp:kA≠p)(rk:rA≠kA)(nR:H rA=none)(la:0 < n->a < n)(g:SpF S p kA rA ks H n H1)(q:∀ H',SpF S p kA rA ks H n H'->D.nx (stS p most lk few kA hA rA x7 x8 x9 x10 sp a) H'):aeM K A D (stS p most lk few kA hA rA x7 x8 x9 x10 sp a) H1:=by
 have g0:=g;obtain⟨vs,rs,er,hR,rok,rl,ek,dk,B⟩:=g;refine⟨_,rfl,afh _,fun e ne=>?_⟩;have s1:Same H1 (upd H1 e (.lst [])):=aj ne;have e1:(upd H1 e (.lst [])) e=some (.lst []):=ag;generalize upd H1 e (.lst [])=H2 at *;have hR2:RoomsAt (hid (p::rA::S) H2) vs rs:=hR.same (ox fun b u _ e=>s1 b u e);have g2:SpF S p kA rA ks H n H2:=⟨vs,rs,s1 _ _ er,hR2,rok,rl,s1 _ _ ek,dk.same s1,B.trans (ay s1)⟩;refine mv (s1 _ _ er) (jw (hR2.same gp)) (ky fun r hr=>⟨(rok r hr).1.lk,(rok r hr).1.kk⟩) e1 hu ⟨_,rfl,?_⟩;have vl:=hR2.1;by_cases ve:vs=[]
 ·subst ve;exact q H2 g2
 rw [show (!vs.isEmpty)=true by cases vs with | nil=>exact absurd rfl ve | cons _ _=>rfl];refine kW ⟨_,rfl,rfl,_,rfl,lJ (fun _=>?_) (fun _=>q H2 g2)⟩;have pos:0 < vs.length:=ago.mpr ve;have lt:a < vs.length:=by have:=la (by lia);lia
 have eu:vs[a]? = some vs[a]:=aeS lt;have erm:rs[a]? = some rs[a]:=aeS (by lia);have ro:=rok _ (afz (show a < rs.length by lia));obtain⟨tt,dd,bb,et,g1,g2',g3⟩:=hR2.2 a vs[a] rs[a] eu erm;generalize rs[a]=rm at *;have er2:=s1 _ _ er;refine⟨_,rfl,_,rfl,rA,vs,(a:Int),vs[a],rfl,rfl,aAA er2,bP eu,tt,_,0,.ref dd,et,rfl,aAB (aD g1).2,rfl,?_⟩;refine⟨_,rfl,_,rfl,rA,vs,(a:Int),vs[a],rfl,rfl,aAA er2,bP eu,tt,_,1,.ref bb,et,rfl,aAB (aD g1).2,rfl,?_⟩;refine⟨1,rfl,bb,_,rfl,aAA (aD g3).2,fun c nc=>?_⟩;rw [xG,show (rm.2.map V.str).drop 1=(rm.2.drop 1).map V.str from List.map_drop.symm];have s3:Same H2 (upd H2 c (.lst ((rm.2.drop 1).map V.str))):=aj nc;have e3:(upd H2 c (.lst ((rm.2.drop 1).map V.str))) c=some (.lst ((rm.2.drop 1).map V.str)):=ag;generalize upd H2 c (.lst ((rm.2.drop 1).map V.str))=H3 at *;refine⟨by show 2<=sizeLine;decide,fun t nt=>?_⟩;have s4:Same H3 (upd H3 t (.tup [.ref dd,.ref c])):=aj nt;have e4:(upd H3 t (.tup [.ref dd,.ref c])) t=some (.tup [.ref dd,.ref c]):=ag;generalize upd H3 t (.tup [.ref dd,.ref c])=H4 at *;have B2:=B.trans (ay s1);have B3:=B2.trans (ay s3);refine⟨_,rfl,_,rfl,rA,vs,(a:Int),a,rfl,rfl,s4 _ _ (s3 _ _ er2),xI lt,?_⟩;refine q _ (aaY hR2 rok rl rp kp rk nR (s1 _ _ ek) B2 (ay (s3.trans s4)) ((dk.same s1).same (s3.trans s4)) lt ⟨t,dd,c,rfl,aG (vd iS B3 ((dk.same s1).same s3) (s3 _ _ er2) nt) e4,aG (aD g2').1 (s4 _ _ (s3 _ _ (aD g2').2)),aG (vd iS B2 (dk.same s1) er2 nc) (s4 _ _ e3)⟩ (r:=(rm.1,rm.2.drop 1)) ⟨⟨ro.1.lk,ro.1.l1,ro.1.l4,ro.1.so,fun k hk=>ro.1.kk k (af5 hk),by have:=ro.2;show (rm.2.drop 1).length<=1000;rw [af2];lia⟩,by have:=ro.2;show (rm.2.drop 1).length<=20;rw [af2];lia⟩)
theorem ada (hu:A.units+1 < cLine)(iS:InH S H)(rp:rA≠p)(kp:kA≠p)(rk:rA≠kA)(nR:H rA=none)(la:0 < n->a < n)(g:SpF S p kA rA ks H n H1)(q:∀ H',SpF S p kA rA ks H n H'->D.nx (stS p most lk few kA hA rA x7 x8 x9 x10 sp a) H'):aeK K A D (stS p most lk few kA hA rA x7 x8 x9 x10 sp a) H1:=by
 obtain⟨vs,rs,er,hR,rok,rl,ek,dk,B⟩:=g;refine⟨_,rfl,afh _,fun e ne=>?_⟩;have s1:Same H1 (upd H1 e (.lst [])):=aj ne;have e1:(upd H1 e (.lst [])) e=some (.lst []):=ag;generalize upd H1 e (.lst [])=H2 at *;have hR2:RoomsAt (hid (p::rA::S) H2) vs rs:=hR.same (ox fun b u _ e=>s1 b u e);have g2:SpF S p kA rA ks H n H2:=⟨vs,rs,s1 _ _ er,hR2,rok,rl,s1 _ _ ek,dk.same s1,B.trans (ay s1)⟩;refine mv (s1 _ _ er) (jw (hR2.same gp)) (ky fun r hr=>⟨(rok r hr).1.lk,(rok r hr).1.kk⟩) e1 hu ⟨_,rfl,?_⟩;have vl:=hR2.1;by_cases ve:vs=[]
 ·subst ve;exact q H2 g2
 rw [show (!vs.isEmpty)=true by cases vs with | nil=>exact absurd rfl ve | cons _ _=>rfl];refine kW ⟨_,rfl,rfl,_,rfl,lJ (fun _=>?_) (fun _=>q H2 g2)⟩;have pos:0 < vs.length:=ago.mpr ve;have lt:a < vs.length:=by have:=la (by lia);lia
 have eu:vs[a]? = some vs[a]:=aeS lt;have erm:rs[a]? = some rs[a]:=aeS (by lia);have ro:=rok _ (afz (show a < rs.length by lia));have B2:=B.trans (ay s1);have dk2:=dk.same s1;refine⟨_,rfl,p,8,rfl,dk2,by decide,by decide,fun z H3 kz dk3 B3=>?_⟩;have hR3:RoomsAt (hid (p::rA::S) H3) vs rs:=hR2.same (mK B3);have er3:=B3 _ _ rp (s1 _ _ er);obtain⟨tt,dd,bb,et,g1,g2',g3⟩:=hR3.2 a vs[a] rs[a] eu erm;generalize rs[a]=rm at *;refine⟨by show 1<=sizeLine;decide,fun c nc=>?_⟩;have s4:Same H3 (upd H3 c (.lst ([z].map V.str))):=aj nc;have e4:(upd H3 c (.lst ([z].map V.str))) c=some (.lst ([z].map V.str)):=ag
 change aJ _ _ _ (upd H3 c (.lst ([z].map V.str))) _
 generalize upd H3 c (.lst ([z].map V.str))=H4 at *;refine⟨_,rfl,_,rfl,rA,vs,(a:Int),vs[a],rfl,rfl,aAA (s4 _ _ er3),bP eu,tt,_,1,.ref bb,et,rfl,aAB (s4 _ _ (aD g1).2),rfl,?_⟩;refine⟨by show 2<=sizeLine;decide,fun t nt=>?_⟩;have s5:Same H4 (upd H4 t (.tup [.ref c,.ref bb])):=aj nt;have e5:(upd H4 t (.tup [.ref c,.ref bb])) t=some (.tup [.ref c,.ref bb]):=ag;generalize upd H4 t (.tup [.ref c,.ref bb])=H5 at *;have B23:=B2.trans B3;have B24:=B23.trans (ay s4);refine⟨_,rfl,_,rfl,rA,vs,(a:Int),a,rfl,rfl,s5 _ _ (s4 _ _ er3),xI lt,?_⟩;refine q _ (aaY hR2 rok rl rp kp rk nR (s1 _ _ ek) B2 (B3.trans (ay (s4.trans s5))) (dk3.same (s4.trans s5)) lt ⟨t,c,bb,rfl,aG (vd iS B24 (dk3.same s4) (s4 _ _ er3) nt) e5,aG (vd iS B23 dk3 er3 nc) (s5 _ _ e4),aG (aD g3).1 (s5 _ _ (s4 _ _ (aD g3).2))⟩ (r:=([z],rm.2)) ⟨⟨fun k hk=>by rw [ae1.mp hk];exact kz,ae4 _,by show 1<=4;decide,aiA ..,ro.1.kk,ro.1.kl⟩,ro.2⟩)
end
theorem xV {te:TE}{g:TG}{u:TS}{D:vt}{σ:L2.St}{H:Hp}(h:te σ H fun v H1=>g v σ H1 fun σ' H'=>u D σ' H'):sU (vf te g) u D σ H:=h
section
variable {P:Program}{w:World}{K:PySem.W.Frag}{mg:Str->Option Value}{base:Heap}
theorem aF:az ["deck","most","locks","few","keys","hand","rooms","k","some","turn","inside","spoilt","at","left"] ["deck","most","locks"] (ak bL):=scM rfl rfl rfl rfl (by decide +kernel)
theorem jM:(["k","deck","few"]:List Str).Nodup:=by decide +kernel
theorem jK:(["room","left","deck"]:List Str).Nodup:=by decide +kernel
theorem aca {f fS fK fE:Addr}{fd fdS fdK fdE:FuncData}(F:Fun K "_law_good_house" "_law_good_house" bL f fd)(aw:FnOk P w K mg base CX0 1 fS fdS ["deck","many"] gK)(ar:Cal K mg "_law_take" ["deck","many"] fS fdS)(bU:FnOk P w K mg base CX0 2 fK fdK ["deck","few"] iO)(bh:Cal K mg "_law_kind" ["deck","few"] fK fdK)
 (cW:FnOk P w K mg base CX0 3 fE fdE ["deck","few","most"] jY)(bG:Cal K mg "_law_keys" ["deck","few","most"] fE fdE)(bf:mg "range" = none)(aW:mg "sorted" = none)(df:mg "int" = none)(wF:mg "min" = none)(vK:mg "max" = none)(br:mg "len" = none)(cZ:mg "list" = none):FnOk P w K mg base CX0 4 f fd ["deck","most","locks"] mr:=by
 refine F.ok aF (fun vs H Q E h=>?_) (fun cdv A outer s H vs Q E hr h=>?_)
 ·obtain⟨p,most,lk,S,rfl,_⟩:=h
  rfl
 ·obtain⟨p,most,lk,S,rfl,dk,iS,hm,lk0,lk1,q⟩:=h;have hu:=tT hr;refine⟨_,(ah (aL (i:=3) aF.nd rfl (.inr rfl) (a7 aX (bq (ae aq (ae aq (ae aq af)))) (pcl aw ar (hr.mono (by decide:1<=3)) rfl (ae (pv 0) (ae aq af))) (fun _ _=>rfl)))
   (ah (acg (i:=4) (tg:=.Name "k" _) (outer:=ak (bL)) (N:=["deck","most","locks","few","keys","hand","rooms","k","some","turn","inside","spoilt","at","left"]) (N':=["k","deck","few"]) (nl:=1) (ix:=[0,3]) aF.nd rfl (.inl rfl) rfl rfl rfl (cq rfl bf (ae (aZ kN aq (pcl aw ar (hr.mono (by decide:1<=3)) rfl (ae (pv 0) (ae aq af)))) af))
    (fun _ _ _ _=>(aA (i:=0) jM rfl (.inl rfl) (.inr rfl))) (fun _ _ _ _=>dA)
    (fun _ _ _ _=>(pcl bU bh (hr.mono (by decide:2<=3)) rfl (ae (pv 1) (ae (pv 2) af)))))
   (ah (aL (i:=5) aF.nd rfl (.inl rfl) (aR de rfl cZ (by decide +kernel) (ae (pv 4) af)))
   (ah (aL (i:=6) aF.nd rfl (.inl rfl) eJ)
   (ah (cn (gj afS rfl (cq rfl bf (ae (pcl aw ar (hr.mono (by decide:1<=3)) rfl (ae (pv 0) (ae (aZ kN (pv 1) aq) af))) af)) (aA (i:=7) aF.nd rfl (.inl rfl))
    (ah (aL (i:=8) aF.nd rfl (.inl rfl) eJ)
    (ah (cn (gj afS rfl (cq rfl bf (ae (aZ kN aq (aZ rQ (pcl aw ar (hr.mono (by decide:1<=3)) rfl (ae (pv 0) (ae (av (rE rfl) rfl wF (by decide +kernel) (ae (pv 2) (ae (av aH rfl br afr (ae (pv 5) af)) af))) af))) (aR cG rfl df (by decide +kernel) (ae (bN kF (pcl aw ar (hr.mono (by decide:1<=3)) rfl (ae (pv 0) (ae aq af))) aq (aS _)) af)))) af)) (aA (i:=9) aF.nd rfl (.inl rfl))
     (ao (bW (dz afk afZ af0 dw (pv 8) (ae (dz afk ahJ ahK vE (pv 5) (ae (pcl aw ar (hr.mono (by decide:1<=3)) rfl (ae (pv 0) (ae (av aH rfl br afr (ae (pv 5) af)) af))) af)) af))))))
    (ah (aL (i:=10) aF.nd rfl (.inl rfl) (pcl cW bG hr rfl (ae (pv 0) (ae (pv 3) (ae (@a7 _ _ _ _ _ _ _ aX (@bq _ _ _ _ (@bI _ _ _ _ _ (@aq _ _ _ _) (@bI _ _ _ _ _ (@aq _ _ _ _) (@bI _ _ _ _ _ (@aq _ _ _ _) (@bI _ _ _ _ _ (@aq _ _ _ _) (@af _) rfl) rfl) rfl) rfl)) (pcl aw ar (hr.mono (by decide:1<=3)) rfl (ae (pv 0) (ae aq af))) (fun _ _=>rfl)) af)))))
    (ah (aL (i:=10) aF.nd rfl (.inl rfl) (aZ dE (pv 10) (aZ qW (bq (ae (pcl bU bh (hr.mono (by decide:2<=3)) rfl (ae (pv 0) (ae (pv 3) af))) af)) (aR cG rfl df (by decide +kernel) (ae (bN kQ (pv 5) eJ (aS _)) af)))))
    (ah (aL (i:=5) aF.nd rfl (.inl rfl) (aZ dE (pv 5) (pv 10)))
    (ao (bW (dz afk afZ af0 dw (pv 6) (ae (cC (ae (av hG rfl aW ag3 (ae (pv 8) af)) (ae (pv 10) af))) af)))))))))))
   (ah (aL (i:=11) aF.nd rfl (.inl rfl) (pcl aw ar (hr.mono (by decide:1<=3)) rfl (ae (pv 0) (ae aq af))))
   (ah (aL (i:=12) aF.nd rfl (.inl rfl) (pcl aw ar (hr.mono (by decide:1<=3)) rfl (ae (pv 0) (ae (av (qY rfl) rfl vK (by decide +kernel) (ae aq (ae (av aH rfl br afr (ae (pv 6) af)) af))) af))))
   (ah (cn (bO (PW.pt (rT (aT vj (pv 6) eJ (aS _)) (oQ (aT kF (pv 11) aq (aS _)))))
    (ao (gv (cC (ae (a7 bJ (a7 aX (pv 6) (pv 12) (fun _ _=>rfl)) aq (fun _ _=>rfl)) (ae (d7 iy (a7 bJ (a7 aX (pv 6) (pv 12) (fun _ _=>rfl)) aq (fun _ _=>rfl)) (gB aq) gJ) af))) (xX (pv 6) (pv 12) qv))) aO))
   (ah (cn (bO (PW.pt (rT (aT vj (pv 6) eJ (aS _)) (oQ (aT kF (pv 11) aq (aS _)))))
    (ao (gv (cC (ae (bq (ae (pcl bU bh (hr.mono (by decide:2<=3)) rfl (ae (pv 0) (ae aq af))) af)) (ae (a7 bJ (a7 aX (pv 6) (pv 12) (fun _ _=>rfl)) aq (fun _ _=>rfl)) af))) (xX (pv 6) (pv 12) qv))) aO))
   (ah (aL (i:=13) aF.nd rfl (.inr rfl) (aR de rfl cZ (by decide +kernel) (ae (pv 6) af)))
   (ao (aE (cC (ae (pv 4) (ae (mj (tg:=.Name "room" _) (outer:=ak (bL)) (N:=["deck","most","locks","few","keys","hand","rooms","k","some","turn","inside","spoilt","at","left"]) (N':=["room","left","deck"]) (nl:=1) (ix:=[13,0]) rfl rfl rfl (dy (pv 6))
    (fun _ _ _ _=>(aA (i:=0) jK rfl (.inl rfl) (.inr rfl))) (fun _ _ _ _=>dA)
    (fun _ _ _ _=>(xH (K:=K) rfl afk ahJ ahK vE (pv 1) (ae (pcl aw ar (hr.mono (by decide:1<=3)) rfl (ae (pv 2) (ae (av (yC (K:=K) rfl) rfl br afr (ae (pv 1) af)) af))) af)))) af))))))))))))))),?_⟩
  try dsimp only [gL,Cx.nox]
  have lim:1000000<=sizeLine:=by decide
  refine⟨by show 3<=sizeLine;decide,fun l nl=>?_⟩;have s1:Same H (upd H l (.lst (([2,3,8]:List Int).map V.int))):=aj nl;have e1:(upd H l (.lst (([2,3,8]:List Int).map V.int))) l=some (.lst (([2,3,8]:List Int).map V.int)):=ag;refine⟨_,rfl,p,3,rfl,dk.same s1,by decide,fun r H2 r0 r1 dk2 B2=>?_⟩;obtain⟨few,hfew,ef⟩:=abL (xs:=[2,3,8]) r0 r1;have hf:0 < few/\few<=8:=by simp only [aeY,afL,ahc] at hfew;lia
  refine⟨l,_,_,.int few,rfl,rfl,aAA (B2 _ _ (dk.ne nl) e1),ef,?_⟩;have B02:But p H H2:=(ay s1).trans B2;clear e1 s1 ef;dsimp only [gh];refine xV ?_;refine bM _ _ _ _ _ _ _ _ _ ?_;refine⟨_,rfl,p,3,rfl,dk2,by decide,fun r H3 r0 r1 dk3 B3=>⟨1,r,rfl,rfl,1+r,rfl,by lia,by lia,?_⟩⟩;intro kA nK;obtain⟨k,ek⟩:∃ k:Nat,1+r=(k:Int):=⟨(1+r).toNat,by lia⟩;rw [ek,afu];refine lh (Pr:=fun _ y=>∃ z,y=V.str z/\aP z) nK dk3 (by lia) (fun x=>rfl) (fun G i R hi BG dG kG=>?_) (fun ys H4 len pr hD4 B4 dk4=>?_)
  ·exact⟨_,rfl,_,rfl,p,few,rfl,dG,hf.1,hf.2,fun z G' kz dG' BG'=>kG _ _ ⟨z,rfl,kz⟩ dG' BG'⟩
  obtain⟨ks,rfl,hks⟩:=fm fun y hy=>by
   obtain⟨i,e⟩:=afO.mp hy;exact pr i y e
  rw [aeT] at len;have kp:=dk3.ne nK;have nK0:H kA=none:=(B02.trans B3).free kp nK;have B04:But p H H4:=B02.trans (B3.trans B4);refine⟨_,rfl,kA,_,rfl,.inl (aAA hD4),fun hA nH=>?_⟩;have s5:Same H4 (upd H4 hA (.lst (ks.map V.str))):=aj nH;have e5:(upd H4 hA (.lst (ks.map V.str))) hA=some (.lst (ks.map V.str)):=ag;have hp:=dk4.ne nH;have hk:hA≠kA:=(ai hD4 nH).symm;have nH0:H hA=none:=B04.free hp nH;generalize upd H4 hA (.lst (ks.map V.str))=H5 at *;refine⟨afh _,fun rA nR=>?_⟩;have s6:Same H5 (upd H5 rA (.lst [])):=aj nR;have e6:(upd H5 rA (.lst [])) rA=some (.lst []):=ag;have rp:=(dk4.same s5).ne nR;have hr':hA≠rA:=ai e5 nR;have rk:rA≠kA:=(ai (s5 _ _ hD4) nR).symm;have nR0:H rA=none:=(B04.trans (ay s5)).free rp nR;generalize upd H5 rA (.lst [])=H6 at *;have S6:=s5.trans s6;refine⟨fun σ' H'=>∃ n,n<=most/\GdI S p kA rA most lk few ks H n σ' H',?_,?_⟩;rotate_left
  ·refine⟨_,rfl,_,rfl,most,1,rfl,rfl,p,(most:Int)+1,rfl,dk4.same S6,by lia,fun r H7 r0 r1 dk7 B7=>⟨r,rfl,by lia,by lia,?_⟩⟩;obtain⟨n,rfl⟩:∃ n:Nat,r=(n:Int):=⟨r.toNat,by lia⟩;rw [afu];refine fZ (fun i σ' H'=>GdI S p kA rA most lk few ks H i σ' H') ⟨hA,ks,[],[],none,none,none,none,rfl,B7 _ _ hp (s6 _ _ e5),fun z=>by rw [z] at len;simp at len;lia,by lia,hks,B7 _ _ rp e6,.nil,(fun r h=>nomatch h),rfl,hp,hr',hk,nH0,B7 _ _ kp (S6 _ _ hD4),dk7,B04.trans ((ay S6).trans B7)⟩ (fun i σ' H' hi g=>acp hu iS nR0 nK0 rp kp rk hf.1 hf.2 lk0 lk1 (by lia) g (fun σ2 H2 z=>z) _) (fun σ' H' z=>⟨n,by lia,z⟩)
  rintro σ H7 ⟨n,nm,hA,hd,vs,rs,x7,x8,x9,x10,rfl,_,_,_,_,er,hR,rok,rl,_,_,_,_,ek7,dk7,B7⟩;refine⟨_,rfl,p,4,rfl,dk7,by decide,fun sp H8 _ _ dk8 B8=>?_⟩;have vl:=hR.1;refine⟨_,rfl,_,rfl,rA,_,rfl,.inl (aAA (B8 _ _ rp er)),1,_,rfl,p,_,rfl,dk8,by split<;>lia,fun r H9 r0 r1 dk9 B9=>?_⟩;obtain⟨a,rfl⟩:∃ a:Nat,r=(a:Int):=⟨r.toNat,by lia⟩;have la:0 < n->a < n:=fun z=>by split at r1<;>lia
  have B89:=B8.trans B9;have g9:SpF S p kA rA ks H n H9:=⟨vs,rs,B89 _ _ rp er,hR.same ((mK B89).trans (uK fun b hb=>by simp only [aeY] at hb ⊢;rcases hb with z | z | z<;>simp [z])),rok,rl,B89 _ _ kp ek7,dk9,B7.trans B89⟩;clear hR er ek7 B7 vl rl rok;refine⟨fun σ' H'=>σ'=stS p most lk few kA hA rA x7 x8 x9 x10 sp a/\SpF S p kA rA ks H n H',?_,adq hu iS rp kp rk nR0 la g9 fun H' g=>⟨rfl,g⟩⟩;rintro σ HA ⟨rfl,gA⟩;refine⟨fun σ' H'=>σ'=stS p most lk few kA hA rA x7 x8 x9 x10 sp a/\SpF S p kA rA ks H n H',?_,ada hu iS rp kp rk nR0 la gA fun H' g=>⟨rfl,g⟩⟩;rintro σ HB ⟨rfl,vs,rs,er,hR,rok,rl,ekB,dkB,BB⟩;have vl:=hR.1;refine⟨_,rfl,rA,_,rfl,.inl (aAA er),fun lf nlf=>?_⟩;have sC:Same HB (upd HB lf (.lst vs)):=aj nlf;have eC:(upd HB lf (.lst vs)) lf=some (.lst vs):=ag;have lp:=dkB.ne nlf;have rlf:rA≠lf:=ai er nlf;generalize upd HB lf (.lst vs)=HC at *;refine⟨_,rfl,?_⟩;dsimp only [aJ,cu];refine bM _ _ _ _ _ _ _ _ _ ?_;refine⟨_,rfl,rA,rfl,⟨_,aAA (sC _ _ er)⟩,?_⟩;intro D nD;refine wY nD (dkB.same sC) eC (sC _ _ er) lp rp rlf (by lia) (fun x=>rfl) (fun x=>rfl) (fun x=>rfl) fun ys HD pm hD dkD BD=>?_;refine⟨by show 2<=sizeLine;decide,fun t nt=>?_⟩;have sE:Same HD (upd HD t (.tup [.ref kA,.ref D])):=aj nt;have eE:(upd HD t (.tup [.ref kA,.ref D])) t=some (.tup [.ref kA,.ref D]):=ag;generalize upd HD t (.tup [.ref kA,.ref D])=HE at *;have Dp:D≠p:=(dkB.same sC).ne nD;have tp:t≠p:=dkD.ne nt;have klf:kA≠lf:=ai ekB nlf;have BE:∀ {b u},b≠p->b≠lf->HB b=some u->HE b=some u:=fun n1 n2 e=>sE _ _ (BD _ _ n1 n2 (sC _ _ e));have f0:∀ {b},b≠p->HB b=none->H b=none:=fun np n=>BB.free np n;have D0:H D=none:=f0 Dp (sC.free nD);have t0:H t=none:=by
   cases e:H t with
   | none=>rfl
   | some u =>
    have e1:=BB _ _ tp e;have:=BD _ _ tp (ai e1 nlf) (sC _ _ e1);rw [nt] at this;cases this
  have off:∀ {b},b≠p->H b=none->b ∉ p::S:=fun n1 n2 z=>(aeY.mp z).elim n1 (iS.off n2);obtain⟨rs',pr,hR'⟩:=(hR.same (show Same (hid (p::rA::S) HB) (hid (p::S) HE) from ym (fun b hb=>.inl (by simp only [aeY] at hb ⊢;rcases hb with z | z<;>simp [z])) fun b u nb e=>by
   simp only [aeY,not_or] at nb;exact BE nb.1 (ai e nlf) e)).perm pm.symm
  have prl:=pr.length_eq;refine q (.ref t) (ks,rs') HE ⟨t,kA,D,ys,rfl,aG (off tp t0) eE,aG (off kp nK0) (BE kp klf ekB),aG (off Dp D0) (sE _ _ hD),hR'⟩ ⟨⟨hks,by show ks.length<=1000;lia,fun r hr=>(rok r (pr.mem_iff.mpr hr)).1,by show rs'.length<=1000;lia⟩,by show rs'.length<=most;lia,by show ks.length<=20;lia,fun r hr=>(rok r (pr.mem_iff.mpr hr)).2⟩ (dkD.same sE) fun b u nb e=>BE nb (ai (BB b u nb e) nlf) (BB b u nb e)
theorem xB {C:Addr}{σ:L2.St}{H:Hp}{Q:VK}(q:∀ (d wA:Addr) (H':Hp),H d=none->Same H H'->(∀ H0 Z,Same H0 H->InH Z H->Apart C H0 Z H' d wA ([],[]) [])->Q (.ref d) H'):ac7 C (kX C) [] E0 cu σ H Q:=by
 intro d dx nd ndx dd;refine⟨d,dx,[],rfl,ag,.inl rfl,fun H1 wA B1 nw da mk=>⟨rfl,?_⟩⟩;have s0:∀ b u,b≠d->H b=some u->(upd (upd H dx (.own d)) d (.ins C dx [])) b=some u:=fun b u bd e=>by
  rw [ax bd,ax (ai e ndx)];exact e
 have S1:Same H H1:=fun b u e=>B1 b u (ai e nd) (s0 b u (ai e nd) e);refine q d wA H1 nd S1 fun H0 Z s iZ S iS=>?_;have i:InH (S++Z) H:=(iS.same s).app iZ;refine mk (S++Z) (fun b hb=>?_) (i.off nd);obtain⟨u,e⟩:=i b hb;exact⟨u,s0 b u (ai e nd) e⟩
def hN:Hp:=fun _=>none
theorem uo (H:Hp):Same hN H:=fun b u e=>nomatch e
theorem inN (H:Hp):InH [] H:=fun b hb=>nomatch hb
theorem zT {K:PySem.W.Frag}{H:Hp}{a:Addr}{xs:List V}(h:SqL K H a xs):∃ Z,InH Z H/\SqL K (onl Z H) a xs:=by
 rcases h with (h | ⟨o,h⟩) | h
 ·exact⟨[a],(fun b hb=>by rw [ae1.mp hb];exact⟨_,h⟩),.inl (.inl (bu (by simp) h))⟩
 ·exact⟨[a],(fun b hb=>by rw [ae1.mp hb];exact⟨_,h⟩),.inl (.inr ⟨o,bu (by simp) h⟩)⟩
 ·exact⟨[],inN H,.inr h⟩
theorem z6 {C:Addr}{T Z:List Addr}{H:Hp}{d wA:Addr}{h:Hs}{g:List Nat}(x:DeskAt C (onl T H) d wA h g)(n:∀ b∈T,b ∉ Z):Apart C hN Z H d wA h g:=fun S iS=>by
 have e:S=[]:=by
  cases S with
  | nil=>rfl
  | cons b S=>obtain⟨u,e⟩:=iS b aeX;cases e
 subst e;exact x.same fun b u e=>aG (n b (bB e).1) (bB e).2
theorem Apart.foot {C:Addr}{Z:List Addr}{H:Hp}{d wA:Addr}{h:Hs}{g:List Nat}(x:Apart C hN Z H d wA h g):∃ T,InH T H/\(∀ b∈T,b ∉ Z)/\DeskAt C (onl T H) d wA h g:=by
 obtain⟨T,i,y⟩:=(x [] (inN _)).foot;refine⟨T,fun b hb=>?_,fun b hb=>?_,y.same fun b u e=>?_⟩
 ·obtain⟨u,e⟩:=i b hb;exact⟨u,(aD e).2⟩
 ·obtain⟨u,e⟩:=i b hb;exact (aD e).1
 ·exact bu (bB e).1 (aD (bB e).2).2
def hAt (h:Hs):Nat->Hs
 | 0=>([],[])
 | i+1=>(h.1,h.2.take i)
theorem aaD {C cT cS:Addr}{Z:List Addr}{H:Hp}{o wo:Addr}{h:Hs}{rows:List Str}{row:Str}{i:Nat}{Q:VK}{E:XK}(x:Apart C hN Z H o wo (hAt h i) [])(iZ:InH Z H)(hs:HouseS h)(ro:xj h rows)(e:rows[i]? = some row)(q:∀ (wo':Addr) (H':Hp),Apart C hN Z H' o wo' (hAt h (i+1)) []->(∀ b∈Z,∀ u,H b=some u->H' b=some u)->InH Z H'->Q (.str "ok") H'):row.length<=100000/\Say C cT cS H o wo (hAt h i) [] Q E row:=by
 have el:∀ x y:Str,(x++y).length=x.length+y.length:=fun x y=>by
  show (x.cps++y.cps).size=_;rw [agG];rfl
 have cb:cBl.length=1:=by rw [cm];rfl
 have kl:=hs.kl;have rl:=hs.rl;have put:∀ {H1:Hp} {wA1:Addr} {h1:Hs},hAt h (i+1)=h1->Bar o wo H H1->(∀ S,InH S H->DeskAt C (hid S H) o wo (hAt h i) []->DeskAt C (hid S H1) o wA1 h1 [])->Q (.str "ok") H1:=fun {H1 wA1 h1} e1 B mk=>by
  obtain⟨y,_,y2,y3⟩:=x.put (uo _) iZ B mk;exact q wA1 H1 (by rw [e1];exact y) y2 y3
 cases i with
 | zero =>
  rw [ro.first] at e;injection e with e
  subst e;have w2:=lY hs.ok.kk;refine⟨?_,.keys h.1 hs.ok.kk (by lia) fun H1 wA1 B mk=>put rfl B mk⟩;rw [el,el,cb,show (Str.ofString "keys" : Str).length=4 by decide +kernel];lia
 | succ i =>
  have hi:i < h.2.length:=by
   have:=(aeZ.mp e).1;have:=ro.len;lia
  have er:h.2[i]? = some h.2[i]:=aeS hi;obtain⟨ls,pm,e2⟩:=ro.next i _ er;rw [e2] at e;injection e with e
  subst e;have rok:=hs.ok.rs _ (afz hi);have wl:=hs.wl _ (afz hi);have l1:=rok.l1;have l4:=rok.l4;have pl:=pm.length_eq;have lk:∀ k∈ls,aP k:=fun k hk=>rok.lk k (pm.mem_iff.mp hk);have srt:bR ls=(h.2[i]).1:=gR (jE ls) rok.so ((dU ls).trans pm);have ht:(h.2.take i).length=i:=by rw [afs];lia
  have tk:h.2.take (i+1)=h.2.take i++[h.2[i]]:=by rw [aii,er];rfl
  have okT:bC (h.1,h.2.take i):=⟨hs.ok.kk,hs.ok.kl,fun r hr=>hs.ok.rs r (af9 hr),by show (h.2.take i).length<=1000;lia⟩;refine⟨?_,.room ls (h.2[i]).2 okT (by show (h.2.take i).length<=12;lia) lk (by lia) (by lia) rok.kk (by lia) (fun _ H1 wA1 B mk=>put ?_ B mk) fun z=>?_⟩
  ·have w2:=lY rok.kk;have lj:=cf cPl ls;have sm:=bF lk;have cp:cPl.length=1:=by rw [gU];rfl
   rw [cp] at lj;rw [el,el,el,el,cb,show (Str.ofString "room" : Str).length=4 by decide +kernel];lia
  ·show (h.1,h.2.take (i+1))=(h.1,h.2.take i++[(bR ls,(h.2[i]).2)]);rw [tk,srt]
  ·have z:(h.2.take i).length=12:=z;lia
inductive Due (h:Hs)(g:List Nat):Str->Str->Hs->List Nat->Prop
 | opn (n:Nat):n < 1000000000->eV h g n=true->Due h g ("open" ++ cBl++eI n) "ok" h (g++[n])
 | shut (n:Nat):n < 1000000000->eV h g n=false->Due h g ("open" ++ cBl++eI n) "NoStep" h g
 | back:g≠[]->Due h g "back" "ok" h g.dropLast
 | none:g=[]->Due h g "back" "NoStep" h g
 | worth (a b:Nat):a < h.2.length->b < 1000000000->Due h g ("worth" ++ cBl++Txt.join cBl [eI a,eI b]) "ok" h g
 | keys (ks:List Str):(∀ k∈ks,aP k)->ks.length<=20->Due h g ("keys" ++ cBl++wrK ks) "ok" (ks,h.2) []
 | room (ls ks:List Str):(∀ k∈ls,aP k)->1<=ls.length->ls.length<=4->(∀ k∈ks,aP k)->ks.length<=20->h.2.length < 12->Due h g ("room" ++ cBl++(Txt.join cPl ls++cBl++wrK ks)) "ok" (h.1,h.2++[(bR ls,ks)]) []
theorem aaO {C cT cS:Addr}{H0:Hp}{Z:List Addr}{H:Hp}{d wA:Addr}{h h':Hs}{g g':List Nat}{row due:Str}{Q:VK}(x:Apart C H0 Z H d wA h g)(s:Same H0 H)(iZ:InH Z H)(hs:HouseS h)(go:jx h.1 h.2 g)(du:Due h g row due h' g')(q:∀ (wA':Addr) (H':Hp),Apart C H0 Z H' d wA' h' g'->Same H0 H'->(∀ b∈Z,∀ u,H b=some u->H' b=some u)->InH Z H'->Q (.str due) H'):Say C cT cS H d wA h g (zR Q) (ab8 cT cS Q) row:=by
 have rl:=hs.rl;have gl:=h8 go;have put:∀ {H1:Hp} {wA1:Addr} {h1:Hs} {g1:List Nat},h'=h1->g'=g1->due = "ok" → Bar d wA H H1->(∀ S,InH S H->DeskAt C (hid S H) d wA h g->DeskAt C (hid S H1) d wA1 h1 g1)->zR Q (.str "ok") H1:=fun {H1 wA1 h1 g1} e1 e3 e2 B mk=>⟨rfl,fun H2 s2=>by
  obtain⟨y,y1,y2,y3⟩:=x.put s iZ B mk;have z:=q wA1 H2 (by rw [e1,e3];exact y.go (fun b u _ e=>s2 b u e) fun b hb=>.inl hb) (y1.trans s2) (fun b hb u e=>s2 b u (y2 b hb u e)) (y3.same s2);rw [e2] at z;exact z⟩
 have stay:∀ {H1 H2:Hp},h'=h->g'=g->Same H H1->Same H1 H2->Q (.str due) H2:=fun {H1 H2} e e3 s1 s2=>q wA H2 (by rw [e,e3];exact x.go (fun b u _ e=>s2 b u (s1 b u e)) fun b hb=>.inl hb) (s.trans (s1.trans s2)) (fun b _ u e=>s2 b u (s1 b u e)) ((iZ.same s1).same s2);cases du with
 | opn n hn sb=>exact .«open» n hs.ok go (by lia) hn (fun _ H1 wA1 B mk=>put rfl rfl rfl B mk) fun z=>by rw [sb] at z;cases z
 | shut n hn sb=>exact .«open» n hs.ok go (by lia) hn (fun z=>by rw [sb] at z;cases z) fun _ H1 s1=>.inr ⟨rfl,fun H2 s2=>stay rfl rfl s1 s2⟩
 | back ne=>exact .back (by lia) (fun _ H1 wA1 B mk=>put rfl rfl rfl B mk) fun z=>absurd z ne
 | none e=>exact .back (by lia) (fun z=>absurd e z) fun _ H1 s1=>.inr ⟨rfl,fun H2 s2=>stay rfl rfl s1 s2⟩
 | worth a b ha hb=>exact .worth a b (by lia) (by lia) hb (fun z H1 wA1 B mk=>put rfl rfl rfl B mk) fun z=>by lia
 | keys ks kk kl=>exact .keys ks kk (by lia) fun H1 wA1 B mk=>put rfl rfl rfl B mk
 | room ls ks lk l1 l4 kk kl h12=>exact .room ls ks hs.ok (by lia) lk l1 l4 kk (by lia) (fun _ H1 wA1 B mk=>put rfl rfl rfl B mk) fun z=>by lia
def uw:Sp:=fun vs H Q _=>∃ (a:Addr) (ks:List Str),vs=[.ref a]/\H a=some (.lst (ks.map V.str))/\(∀ k∈ks,aP k)/\ks.length<=400/\∀ H',Same H H'->Q (.str (bQ ks)) H'
def yw:Sp:=fun vs H Q _=>∃ (v:V) (h:Hs),vs=[v]/\HouseAt H v h/\sR h/\∀ (l:Addr) (H':Hp),Same H H'->H' l=some (.lst ((bQ h.1::h.2.map eO).map V.str))->Q (.ref l) H'
theorem jL:az ["keys"] ["keys"] (ak cD):=scM rfl rfl rfl rfl (by decide +kernel)
theorem fi:az ["house","lines","locks","keys"] ["house"] (ak ij):=scM rfl rfl rfl rfl (by decide +kernel)
theorem zJ {f:Addr}{fd:FuncData}(F:Fun K "_law_keys_written" "_law_keys_written" cD f fd)(aW:mg "sorted" = none)(df:mg "int" = none):FnOk P w K mg base CX0 1 f fd ["keys"] uw:=by
 refine F.ok jL (fun vs H Q E h=>?_) (fun cdv A outer s H vs Q E hr h=>?_)
 ·obtain⟨a,ks,rfl,_⟩:=h
  rfl
 ·obtain⟨a,ks,rfl,ha,kk,kl,q⟩:=h;have hu:=tT hr;refine⟨_,(ao (aE (dz afi afE afF fz au (ae (aZ dE (av eK rfl aW ag3 (ae (pv 0) af)) (aZ qW (bq (ae au af)) (aR cG rfl df (by decide +kernel) (ae (bN kQ (pv 0) eJ (aS _)) af)))) af)))),?_⟩;have lim:1000<=sizeLine:=by decide
  refine⟨rfl,_,rfl,a,ks,rfl,aAA ha,by lia,fun l1 ss' n1 pm so=>?_⟩;rw [tI pm so];have s1:Same H (upd H l1 (.lst ((bR ks).map V.str))):=aj n1;have e1:(upd H l1 (.lst ((bR ks).map V.str))) l1=some (.lst ((bR ks).map V.str)):=ag;generalize upd H l1 (.lst ((bR ks).map V.str))=H1 at *;refine⟨by show 1<=sizeLine;decide,fun l2 n2=>?_⟩;have s2:Same H1 (upd H1 l2 (.lst [.str cDa])):=aj n2;have e2:(upd H1 l2 (.lst [.str cDa])) l2=some (.lst [.str cDa]):=ag;generalize hH2:upd H1 l2 (.lst [.str cDa])=H2 at *;have hH2':upd H1 l2 (.lst [V.str (Str.ofString "-")])=H2:=hH2;rw [hH2'];refine⟨_,rfl,afh _,fun l3 n3=>?_⟩;have s3:Same H2 (upd H2 l3 (.lst [])):=aj n3;have e3:(upd H2 l3 (.lst [])) l3=some (.lst []):=ag;generalize upd H2 l3 (.lst [])=H3 at *;have S3:Same H H3:=s1.trans (s2.trans s3);refine jy (S3 _ _ ha) (SeesAll.strs _) (ir kk) e3 hu (.inr ⟨_,rfl,?_⟩);obtain⟨c,ec,hc⟩:∃ c:Nat,(if (ks.map V.str).isEmpty=true then (1:Int) else 0)=(c:Int)/\c=if ks=[] then 1 else 0:=by
   cases ks with
   | nil=>exact⟨1,rfl,rfl⟩
   | cons _ _=>exact⟨0,rfl,by simp⟩
  have c1:c<=1:=by rw [hc];split<;>lia
  refine⟨l2,(c:Int),[.str cDa],rfl,afH V.int ec,s3 _ _ e2,by lia,by lia,by rw [afu];show 1 * c<=sizeLine;lia,fun l4 n4=>?_⟩;rw [afu];have s4:Same H3 (upd H3 l4 (.lst (List.replicate c [V.str cDa]).flatten)):=aj n4;have e4:(upd H3 l4 (.lst (List.replicate c [V.str cDa]).flatten)) l4=some (.lst (List.replicate c [V.str cDa]).flatten):=ag;generalize upd H3 l4 (.lst (List.replicate c [V.str cDa]).flatten)=H4 at *;have fl:(List.replicate c [V.str cDa]).flatten=(List.replicate c cDa).map V.str:=by
   rcases (show c=0\/c=1 by lia) with z | z<;>rw [z]<;>rfl
  rw [fl] at e4;have sl:=fV ks;refine⟨l1,l4,_,_,rfl,rfl,s4 _ _ (s3 _ _ (s2 _ _ e1)),e4,by rw [aeT,aeT,aft];lia,fun l5 n5=>?_⟩;rw [← afe];have b:=bF fun k hk=>kk k (sortS_mem.mp hk);have cb:cBl.length=1:=by rw [cm];rfl
  have cd:cDa.length=1:=by rw [vv];rfl
  refine⟨cBl,l5,bR ks++List.replicate c cDa,rfl,rfl,aAA ag,?_,?_⟩
  ·rw [afe,ai5,aeV,aft,cb,aie,ahy,cd];lia
  ·have z:=q _ (S3.trans (s4.trans (aj (o:=.lst ((bR ks++List.replicate c cDa).map V.str)) n5)));have e:Txt.join cBl (bR ks++List.replicate c cDa)=bQ ks:=by
    unfold bQ;by_cases k0:ks=[]
    ·rw [hc,if_pos k0,if_pos k0,k0,xx,ql];exact d8 _ _
    ·rw [hc,if_neg k0,if_neg k0];simp
   rw [e];exact z
theorem aab {f fS:Addr}{fd fdS:FuncData}(F:Fun K "_law_lines" "_law_lines" ij f fd)(bY:FnOk P w K mg base CX0 1 fS fdS ["keys"] uw)(aY:Cal K mg "_law_keys_written" ["keys"] fS fdS):FnOk P w K mg base CX0 2 f fd ["house"] yw:=by
 refine F.ok fi (fun vs H Q E h=>?_) (fun cdv A outer s H vs Q E hr h=>?_)
 ·obtain⟨v,h,rfl,_⟩:=h
  rfl
 ·obtain⟨v,h,rfl,hh,hl,q⟩:=h;refine⟨_,(ah (aL (i:=1) fi.nd rfl (.inl rfl) (bq (ae (pcl bY aY hr rfl (ae (a7 bJ (pv 0) aq (fun _ _=>rfl)) af)) af)))
   (ah (cn (gj afS rfl (dy (a7 bJ (pv 0) aq (fun _ _=>rfl))) (gz rfl (aM (aA (i:=2) fi.nd rfl (.inl rfl)) (aM (aA (i:=3) fi.nd rfl (.inl rfl)) cU)))
    (ao (bW (dz afk afZ af0 dw (pv 1) (ae (aZ bz (aZ bz (dz afi afE afF fz au (ae (pv 2) af)) au) (pcl bY aY hr rfl (ae (pv 3) af))) af))))))
   (ao (aE (pv 1))))),?_⟩
  have lim:10000<=sizeLine:=by decide
  obtain⟨t,a,r,vs,rfl,ht,ha,hrr,hR⟩:=hh;have hlen:=hR.1;have rl:=hl.rl;refine⟨_,rfl,t,_,0,.ref a,rfl,rfl,aAB ht,rfl,a,h.1,rfl,ha,hl.ok.kk,hl.kl,fun H1 s1=>⟨by show 1<=sizeLine;decide,fun l nl=>?_⟩⟩;have s2:Same H1 (upd H1 l (.lst [.str (bQ h.1)])):=aj nl;have e2:(upd H1 l (.lst [.str (bQ h.1)])) l=some (.lst [.str (bQ h.1)]):=ag;have nl0:=s1.free nl;generalize upd H1 l (.lst [.str (bQ h.1)])=H2 at *;have S2:=s1.trans s2;refine⟨fun σ' H'=>∃ x2 x3,σ'=[some (.ref t),some (.ref l),x2,x3]/\Same H H'/\H' l=some (.lst ((bQ h.1::h.2.map eO).map V.str)),?_,?_⟩
  ·rintro σ' H' ⟨x2,x3,rfl,sm,e⟩;exact⟨_,rfl,q l H' sm e⟩
  refine⟨_,rfl,t,_,1,.ref r,rfl,rfl,aAB (S2 _ _ ht),rfl,r,rfl,⟨_,aAA (S2 _ _ hrr)⟩,?_⟩;refine kE (xs:=vs) (fun i σ' H'=>∃ x2 x3,σ'=[some (.ref t),some (.ref l),x2,x3]/\Same H H'/\H' l=some (.lst ((bQ h.1::(h.2.take i).map eO).map V.str))) ⟨_,_,rfl,S2,e2⟩ (fun i σ' H' _ ⟨_,_,_,sm,_⟩=>aAA (sm _ _ hrr)) ?_ (fun σ' H' ⟨x2,x3,e,sm,z⟩=>⟨x2,x3,e,sm,by rw [hlen,afK] at z;exact z⟩);rintro i x σ' H3 hx ⟨x2,x3,rfl,sm,e3⟩;have hi:i < vs.length:=(aeZ.mp hx).1;have hi':i < h.2.length:=by lia
  have er:h.2[i]? = some h.2[i]:=aeS hi';obtain⟨tt,aa,bb,rfl,g1,g2,g3⟩:=(hR.2 i x _ hx er).same sm;have mi:=afz hi';have rok:=hl.ok.rs _ mi;have wl:=hl.wl _ mi;have tk:h.2.take (i+1)=h.2.take i++[h.2[i]]:=by rw [aii,er];rfl
  rw [tk];generalize h.2[i]=rm at *;have l4:=rok.l4;have c1:cPl.length=1:=by rw [gU];rfl
  have c2:cCo.length=2:=by rw [qP];rfl
  have k1:=bF rok.lk;have k2:=cf cPl rm.1;have k3:=gW rok.kk;have k4:(Txt.join cPl rm.1++cCo).length=(Txt.join cPl rm.1).length+2:=by
   have el:∀ s:Str,s.length=s.cps.toList.length:=fun s=>afd.symm;rw [el,aV,aeV,← el,← el,c2]
  rw [c1] at k2;refine⟨tt,_,rfl,aAB g1,rfl,_,_,rfl,_,_,rfl,rfl,?_⟩;refine⟨_,rfl,.inl ⟨rfl,_,aAA e3⟩,rfl,_,rfl,cPl,aa,rm.1,rfl,rfl,aAA g2,by rw [c1];lia,_,cCo,rfl,rfl,by lia,?_⟩;refine⟨_,rfl,bb,rm.2,rfl,g3,rok.kk,wl,fun H4 s4=>⟨_,_,rfl,rfl,by lia,l,_,_,rfl,rfl,s4 _ _ e3,by rw [aeT,afn,aeT,afs];lia,?_⟩⟩;refine⟨_,_,rfl,fun b u e=>by rw [ax (ai e nl0)];exact s4 b u (sm b u e),?_⟩;rw [ag,afe,← af3,afe]
  rfl
theorem yE (z:Str)(ks:List Str):inV (.str z) (ks.map V.str)=decide (z∈ks):=by
 unfold inV
 induction ks with
 | nil=>rfl
 | cons a r ih =>
  rw [afl,aix,ih];show (a == z || decide (z∈r))=_;by_cases e:a=z
  ·subst e;simp
  ·have e':(a == z)=false:=by simpa using e
   rw [e',Bool.false_or];by_cases hz:z∈r
   ·simp [hz]
   ·simp [hz,ag1 e]
theorem acT {hand locks:List Str}(h:∀ i (hi:i < locks.length),locks[i]∈(locks.take i).foldl List.erase hand):o1 hand locks=true:=by
 have key:∀ j,j<=locks.length->∀ x,(locks.take j).count x<=hand.count x:=fun j=>by
  induction j with
  | zero=>intro _ x;simp
  | succ j ih =>
   intro hj x;have i:=ih (by lia) x;have hi:j < locks.length:=by lia
   rw [afW,aeS hi,Option.toList,List.count_append,List.count_singleton];by_cases e:locks[j]=x
   ·have m:=List.count_pos_iff.mpr (h j hi);rw [jb,e] at m;simp [e];lia
   ·simp [e];lia
 unfold o1;rw [agf];intro x _;have:=key locks.length (ae4 _) x;rw [afK] at this;exact afm this
def uf:Sp:=fun vs H Q _=>∃ (v:V) (l:Addr) (h:Hs) (o:List Nat),vs=[v,.ref l]/\HouseAt H v h/\bC h/\H l=some (.lst (aQ o))/\o.length<=200/\(jx h.1 h.2 o->∀ (b:Addr) (ss:List Str) (H':Hp),Same H H'->H b=none->ss.Perm (aN h.1 h.2 o)->H' b=some (.lst (ss.map V.str))->Q (.ref b) H')/\(¬ jx h.1 h.2 o->∀ H',Same H H'->Q .non H')
inductive G1I (t l:Addr)(h:Hs)(o:List Nat)(H:Hp)(i:Nat)(σ:L2.St)(H':Hp):Prop
 | mk (hA:Addr) (x3 x4:Option V):σ=[some (.ref t),some (.ref l),some (.ref hA),x3,x4]->Same H H'->H hA=none->H' hA=some (.lst ((aN h.1 h.2 (o.take i)).map V.str))->jx h.1 h.2 (o.take i)->G1I t l h o H i σ H'
inductive G2I (t l hA:Addr)(lk hd:List Str)(H:Hp)(x3:Option V)(j:Nat)(σ:L2.St)(H':Hp):Prop
 | mk (x4:Option V):σ=[some (.ref t),some (.ref l),some (.ref hA),x3,x4]->Same H H'->H' hA=some (.lst (((lk.take j).foldl List.erase hd).map V.str))->(∀ i (hi:i < lk.length),i < j->lk[i]∈(lk.take i).foldl List.erase hd)->G2I t l hA lk hd H x3 j σ H'
theorem zh {h:Hs}{o:List Nat}{i n:Nat}(e:o[i]? = some n)(go:jx h.1 h.2 (o.take i))(g1:n < h.2.length)(g2:n ∉ o.take i)(g3:o1 (aN h.1 h.2 (o.take i)) ((h.2[n]?).getD ([],[])).1=true):jx h.1 h.2 (o.take (i+1)):=by
 rw [afW,e];exact nu go (by unfold eV;rw [afm g1,afv g2,g3];rfl)
theorem vc {h:Hs}{g:List Nat}{n:Nat}(go:jx h.1 h.2 g):jx h.1 h.2 (g++[n])↔eV h g n=true:=by
 refine⟨fun x=>?_,nu go⟩;obtain⟨g1,g2,g3⟩:=x g.length n (by rw [aff (ae4 _),agA];rfl);rw [ahb] at g2 g3;unfold eV;rw [afm g1,afv g2,g3]
 rfl
theorem eQ:az ["house","order","hand","k","lock"] ["house","order"] (ak iL):=scM rfl rfl rfl rfl (by decide +kernel)
theorem rj:az ["house","order"] ["house","order"] (ak gq):=scM rfl rfl rfl rfl (by decide +kernel)
theorem oZ:(["room","house","order"]:List Str).Nodup:=by decide +kernel
theorem qg:az ["things"] ["things"] (ak fj):=scM rfl rfl rfl rfl (by decide +kernel)
theorem mH:(["one"]:List Str).Nodup:=by decide +kernel
theorem zW {f:Addr}{fd:FuncData}(F:Fun K "_law_hand" "_law_hand" iL f fd)(br:mg "len" = none)(cZ:mg "list" = none)(bf:mg "range" = none)(aW:mg "sorted" = none):FnOk P w K mg base CX0 1 f fd ["house","order"] uf:=by
 refine F.ok eQ (fun vs H Q E h=>?_) (fun cdv A outer s H vs Q E hr h=>?_)
 ·obtain⟨v,l,h,o,rfl,_⟩:=h
  rfl
 ·obtain⟨v,l,h,o,rfl,⟨t,a,r,us,rfl,ht,ha,hrr,hR⟩,ok,hl,ol,q1,q2⟩:=h;refine⟨_,(ah (aL (i:=2) eQ.nd rfl (.inl rfl) (aR de rfl cZ (by decide +kernel) (ae (a7 bJ (pv 0) aq (fun _ _=>rfl)) af)))
   (ah (cn (gj afS rfl (cq rfl bf (ae (av aH rfl br afr (ae (pv 1) af)) af)) (aA (i:=3) eQ.nd rfl (.inl rfl))
    (ah (bO (PW.pt (oX (aT zC (a7 aX (pv 1) (pv 3) (fun _ _=>rfl)) (av aH rfl br afr (ae (a7 bJ (pv 0) aq (fun _ _=>rfl)) af)) (aS _)) (jW (aT oM (a7 aX (pv 1) (pv 3) (fun _ _=>rfl)) (d7 iy (pv 1) gJ (gB (pv 3))) rfl))))
     (ao (aE md)) aO)
    (ah (cn (gj afS rfl (dy (a7 bJ (a7 aX (a7 bJ (pv 0) aq (fun _ _=>rfl)) (a7 aX (pv 1) (pv 3) (fun _ _=>rfl)) (fun _ _=>rfl)) aq (fun _ _=>rfl))) (aA (i:=4) eQ.nd rfl (.inl rfl))
     (ah (bO (aT lQ (pv 4) (pv 2) rfl)
      (ao (aE md)) aO)
     (ao (bW (dz afk aiv aiw sJ (pv 2) (ae (pv 4) af)))))))
    (ao (aL (i:=2) eQ.nd rfl (.inl rfl) (aZ dE (pv 2) (a7 bJ (a7 aX (a7 bJ (pv 0) aq (fun _ _=>rfl)) (a7 aX (pv 1) (pv 3) (fun _ _=>rfl)) (fun _ _=>rfl)) aq (fun _ _=>rfl)))))))))
   (ao (aE (av eK rfl aW ag3 (ae (pv 2) af)))))),?_⟩
  try dsimp only [gL,Cx.nox]
  have lim:1000000<=sizeLine:=by decide
  have kl:=ok.kl;have oL:(aQ o).length=o.length:=aeT _;refine⟨_,rfl,t,_,0,.ref a,rfl,rfl,aAB ht,rfl,a,_,rfl,.inl (aAA ha),fun hA nH=>?_⟩;have s1:Same H (upd H hA (.lst (h.1.map V.str))):=aj nH;have e1:(upd H hA (.lst (h.1.map V.str))) hA=some (.lst (h.1.map V.str)):=ag;generalize upd H hA (.lst (h.1.map V.str))=H1 at *;refine⟨fun σ' H'=>G1I t l h o H o.length σ' H',?_,?_⟩
  ·rintro σ H3 ⟨hA,x3,x4,rfl,sm,nh,hh,go⟩;rw [afK] at hh go;have hf:=jI ok ol;exact⟨_,rfl,hA,aN h.1 h.2 o,rfl,aAA hh,by lia,fun l2 ss' n2 pm so=>q1 go l2 ss' _ (sm.trans (aj n2)) (sm.free n2) pm ag⟩
  refine⟨_,rfl,l,_,rfl,.inl (aAA (s1 _ _ hl)),((o.length:Nat):Int),by rw [oL],by lia,by lia,?_⟩;rw [afu];refine fZ (fun i σ' H'=>G1I t l h o H i σ' H') ⟨hA,none,none,rfl,s1,nH,e1,fun j i e=>by simp at e⟩ ?_ (fun σ H' z=>z);rintro i σ H3 hi ⟨hA,x3,x4,rfl,sm,nh,hh,go⟩;have t3:=sm _ _ ht;have r3:=sm _ _ hrr;have l3:=sm _ _ hl;obtain⟨n,hn⟩:∃ n,o[i]? = some n:=⟨_,aeS hi⟩;have en:(aQ o)[i]? = some (.int (n:Int)):=by unfold aQ;rw [afg,hn];rfl
  have ei:(0:Int)+((i:Nat):Int)=((i:Nat):Int):=by lia
  rw [ei];refine⟨_,rfl,_,rfl,l,_,_,.int (n:Nat),rfl,rfl,aAA l3,bP en,?_⟩;have hf:=jI ok (order:=o.take i) (by rw [afs];lia);by_cases g1:n < h.2.length;rotate_left
  ·refine⟨_,rfl,t,_,1,.ref r,rfl,rfl,aAB t3,rfl,r,_,rfl,.inl (aAA r3),_,_,rfl,rfl,_,rfl,lJ (fun hb=>?_) (fun hb=>absurd (afm (by have:=hR.1;lia)) hb)⟩;exact q2 (fun z=>g1 (z i n hn).1) H3 sm
  refine⟨_,rfl,t,_,1,.ref r,rfl,rfl,aAB t3,rfl,r,_,rfl,.inl (aAA r3),_,_,rfl,rfl,_,rfl,lJ (fun hb=>absurd (af4 hb) (by have:=hR.1;lia)) (fun _=>?_)⟩;refine⟨_,rfl,_,rfl,l,_,_,.int (n:Nat),rfl,rfl,aAA l3,bP en,?_⟩;refine⟨_,rfl,_,rfl,((i:Nat):Int),rfl,l,_,rfl,aAA l3,fun l4 n4=>?_⟩;rw [show uV (aQ o) none (some ((i:Nat):Int))=aQ (o.take i) from by rw [yY (by rw [oL];lia)];unfold aQ;rw [aiz]];have s4:Same H3 (upd H3 l4 (.lst (aQ (o.take i)))):=aj n4;have e4:(upd H3 l4 (.lst (aQ (o.take i)))) l4=some (.lst (aQ (o.take i))):=ag;have sm4:=sm.trans s4;have hh4:=s4 _ _ hh;generalize upd H3 l4 (.lst (aQ (o.take i)))=H4 at *;have ii:inV (.int (n:Int)) (aQ (o.take i))=decide (n∈o.take i):=qH n _;refine⟨l4,_,rfl,.inl (aAA e4),rfl,oi (o.take i),_,rfl,lJ (fun hb=>?_) (fun hb=>?_)⟩
  ·refine q2 (fun z=>?_) H4 sm4;have g2:=(z i n hn).2.1;rw [if_neg (by decide),ii,afv g2] at hb;cases hb
  have g2:n ∉ o.take i:=fun z=>hb (by rw [if_neg (by decide),ii,afm z]);have t4:=sm4 _ _ ht;have r4:=sm4 _ _ hrr;have l5:=sm4 _ _ hl;have hu':n < us.length:=by rw [hR.1];exact g1
  have eu:us[n]? = some us[n]:=aeS hu';have er:h.2[n]? = some h.2[n]:=aeS g1;obtain⟨tt,dd,bb,et,k1,k2,k3⟩:=hR.2 n us[n] h.2[n] eu er;have rok:=ok.rs _ (afz g1);have rkl:=rok.kl;have fe:(h.2[n]?).getD ([],[])=h.2[n]:=by rw [er];rfl
  have gn:=fun g3=>zh hn go g1 g2 g3;have qn:∀ H',Same H H'->o1 (aN h.1 h.2 (o.take i)) ((h.2[n]?).getD ([],[])).1=false->Q .non H':=fun H' s z=>q2 (fun y=>by have:=(y i n hn).2.2;rw [z] at this;cases this) H' s;have hs:=j9 h.1 h.2 (o.take i) n;have tk:o.take (i+1)=o.take i++[n]:=by rw [afW,hn];rfl
  rw [fe] at gn qn hs;generalize aN h.1 h.2 (o.take i)=hd at *;generalize h.2[n]=rm at *;refine⟨fun σ' H'=>G2I t l hA rm.1 hd H (some (.int ((i:Nat):Int))) rm.1.length σ' H',?_,?_⟩;rotate_left
  ·refine⟨_,rfl,t,_,1,.ref r,rfl,rfl,aAB t4,rfl,_,rfl,_,rfl,l,_,_,.int (n:Nat),rfl,rfl,aAA l5,bP en,r,us,(n:Int),us[n],rfl,rfl,aAA r4,bP eu,tt,_,0,.ref dd,et,rfl,aAB (sm4 _ _ k1),rfl,dd,rfl,⟨_,aAA (sm4 _ _ k2)⟩,?_⟩;have dh:dd≠hA:=ai k2 nh;refine kE (xs:=rm.1.map V.str) (fun j σ' H'=>j<=rm.1.length/\G2I t l hA rm.1 hd H (some (.int ((i:Nat):Int))) j σ' H') ⟨afh _,x4,rfl,sm4,hh4,fun i hi z=>by lia⟩ (fun j σ H' _ ⟨_,_,_,sj,_,_⟩=>aAA (sj _ _ k2)) ?_ (fun σ H' z=>by rw [aeT] at z;exact z.2);rintro j x σ H5 hx ⟨_,x4,rfl,s5,hh5,all⟩;have hj:j < rm.1.length:=by have:=(aeZ.mp hx).1;rw [aeT] at this;exact this
   rw [afg,aeS hj] at hx;cases hx;refine⟨_,rfl,_,rfl,hA,_,rfl,.inl (aAA hh5),rfl,by simp [i7],_,rfl,lJ (fun hb=>?_) (fun hb=>?_)⟩
   ·refine qn H5 s5 (agI.mpr fun z=>?_);have m:=aa5 z hj;rw [yE,afm m] at hb;cases hb
   ·have hin:rm.1[j]∈(rm.1.take j).foldl List.erase hd:=by
     apply Classical.byContradiction;intro z;exact hb (by rw [yE,afv z];rfl)
    refine⟨_,rfl,.inl ⟨rfl,_,aAA hh5⟩,_,rfl,hA,_,_,rfl,rfl,hh5,hin,?_⟩;refine⟨by lia,_,rfl,fun b u e=>by rw [ax (ai e nh)];exact s5 b u e,by rw [ag,afW,aeS hj,Option.toList,aiu];rfl,fun i hi z=>?_⟩;by_cases e:i=j
    ·subst e;exact hin
    ·exact all i hi (by lia)
  rintro σ H5 ⟨x4,rfl,s5,hh5,all⟩;rw [afK] at hh5;have el:=jD rm.1 hd;refine⟨_,rfl,_,rfl,t,_,1,.ref r,rfl,rfl,aAB (s5 _ _ ht),rfl,_,rfl,_,rfl,l,_,_,.int (n:Nat),rfl,rfl,aAA (s5 _ _ hl),bP en,r,us,(n:Int),us[n],rfl,rfl,aAA (s5 _ _ hrr),bP eu,tt,_,1,.ref bb,et,rfl,aAB (s5 _ _ k1),rfl,hA,bb,_,_,rfl,rfl,hh5,s5 _ _ k3,by rw [aeT,aeT];lia,fun hB nB=>?_⟩;refine⟨hB,_,_,rfl,s5.trans (aj nB),s5.free nB,?_,gn (acT fun i hi=>all i hi hi)⟩;rw [ag,tk,hs,← afe]
  rfl
def tX:Sp:=fun vs H Q _=>∃ (v:V) (l:Addr) (h:Hs) (g:List Nat),vs=[v,.ref l]/\HouseAt H v h/\bC h/\H l=some (.lst (aQ g))/\jx h.1 h.2 g/\g.length < 200/\∀ (b:Addr) (H':Hp),Same H H'->H b=none->H' b=some (.lst (aQ (gr h.2 (aN h.1 h.2 g) g)))->Q (.ref b) H'
theorem aar {f fH:Addr}{fd fdH:FuncData}(F:Fun K "_law_next" "_law_next" gq f fd)(kj:FnOk P w K mg base CX0 1 fH fdH ["house","order"] uf)(dM:Cal K mg "_law_hand" ["house","order"] fH fdH)(br:mg "len" = none)(bf:mg "range" = none):FnOk P w K mg base CX0 2 f fd ["house","order"] tX:=by
 refine F.ok rj (fun vs H Q E h=>?_) (fun cdv A outer s H vs Q E hr h=>?_)
 ·obtain⟨v,l,h,g,rfl,_⟩:=h
  rfl
 ·obtain⟨v,l,h,g,rfl,hh,ok,hl,go,gl,q⟩:=h;refine⟨_,(ao (aE (mj (tg:=.Name "room" _) (outer:=ak (gq)) (N:=["house","order"]) (N':=["room","house","order"]) (nl:=1) (ix:=[0,1]) rfl rfl rfl (cq rfl bf (ae (av aH rfl br afr (ae (a7 bJ (pv 0) aq (fun _ _=>rfl)) af)) af))
   (fun _ _ _ _=>(aA (i:=0) oZ rfl (.inl rfl) (.inr rfl))) (fun _ _ _ _=>(yT (aT aby (pcl kj dM hr rfl (ae (pv 1) (ae (aZ dE (pv 2) (bq (ae (pv 0) af))) af))) md (aS _))))
   (fun _ _ _ _=>(pv 0))))),?_⟩
  have lim:1000000<=sizeLine:=by decide
  have rl:=ok.rl;have hh0:=hh;have oL:(aQ g).length=g.length:=aeT _;obtain⟨t,a,r,us,rfl,ht,ha,hrr,hR⟩:=hh;dsimp only [wt];refine bM _ _ _ _ _ _ _ _ _ ?_;refine⟨_,rfl,t,_,1,.ref r,rfl,rfl,aAB ht,rfl,r,_,rfl,.inl (aAA hrr),_,rfl,by lia,by rw [hR.1];lia,?_⟩;intro D nD;rw [afu,hR.1]
  let B:Nat->Bool:=fun j=>!decide (j∈g) && o1 (aN h.1 h.2 g) ((h.2[j]?).getD ([],[])).1
  refine lq (fun i ys H2=>i<=h.2.length/\ys=aQ ((List.range i).filter B)/\H2 D=some (.lst ys)/\Same H H2) ⟨afh _,rfl,ag,aj nD⟩ (fun i ys H2 ⟨_,_,h,_⟩=>h) ?_ ?_
  ·rintro i ys H2 hi ⟨hi0,rfl,hD2,sm⟩;unfold d6 gh;refine⟨⟨by simp,rfl⟩,?_⟩;refine⟨_,rfl,_,rfl,_,rfl,by show 1<=sizeLine;decide,fun l1 n1=>?_⟩;have s3:Same H2 (upd H2 l1 (.lst [.int (0+(i:Int))])):=aj n1;have e3:(upd H2 l1 (.lst [.int (0+(i:Int))])) l1=some (.lst [.int (0+(i:Int))]):=ag;generalize upd H2 l1 (.lst [.int (0+(i:Int))])=H3 at *;refine⟨l,l1,_,_,rfl,rfl,s3 _ _ (sm _ _ hl),e3,by show (aQ g).length+1<=sizeLine;rw [oL];lia,fun l2 n2=>?_⟩;have s4:Same H3 (upd H3 l2 (.lst (aQ g++[.int (0+(i:Int))]))):=aj n2;have e4:(upd H3 l2 (.lst (aQ g++[.int (0+(i:Int))]))) l2=some (.lst (aQ (g++[i]))):=by rw [ag,Int.zero_add];unfold aQ;rw [afe];rfl
   generalize upd H3 l2 (.lst (aQ g++[.int (0+(i:Int))]))=H4 at *;have sb:eV h g i=B i:=by unfold eV;rw [afm hi,ajD]
   refine⟨.ref t,l2,h,g++[i],rfl,((hh0.same sm).same s3).same s4,ok,e4,by rw [aeV];show g.length+1<=200;lia,fun may b xs H5 s5 nb pm hb=>?_,fun may H5 s5=>?_⟩
   ·rw [vc go,sb] at may;refine⟨rfl,true,rfl,kW ?_⟩;have S5:=s3.trans (s4.trans s5);refine⟨_,rfl,S5 _ _ hD2,?_,nx hi ⟨by lia,?_,ag,fun c u e=>by rw [ax (ai e nD)];exact S5 _ _ (sm _ _ e)⟩⟩
    ·unfold aQ;rw [aeT];have:=ag4 B (List.range i);rw [ahB] at this;lia
    ·rw [ah5,ahu,show List.filter B [i]=[i] from by rw [ahN,may];simp];simp [aQ]
   ·rw [vc go,sb] at may;refine⟨rfl,false,rfl,km ?_⟩;have S5:=s3.trans (s4.trans s5);refine nx hi ⟨by lia,?_,S5 _ _ hD2,sm.trans S5⟩;rw [ah5,ahu,show List.filter B [i]=[] from by rw [ahN,agI.mpr may];simp];simp
  ·rintro ys H2 ⟨_,rfl,hD2,sm⟩;exact q D H2 sm nD hD2
def xf:Sp:=fun vs H Q _=>∃ (a:Addr) (ns:List Nat),vs=[.ref a]/\H a=some (.lst (aQ ns))/\ns.length<=1000/\(∀ n∈ns,n < 1000000000)/\∀ H',Same H H'->Q (.str (kx ns)) H'
theorem zw {f:Addr}{fd:FuncData}(F:Fun K "_law_words" "_law_words" fj f fd)(eS:mg "str" = none)(df:mg "int" = none):FnOk P w K mg base CX0 1 f fd ["things"] xf:=by
 refine F.ok qg (fun vs H Q E h=>?_) (fun cdv A outer s H vs Q E hr h=>?_)
 ·obtain⟨a,ns,rfl,_⟩:=h
  rfl
 ·obtain⟨a,ns,rfl,ha,hl,hn,q⟩:=h;have hu:=tT hr;refine⟨_,(ao (aE (dz afi afE afF fz au (ae (aZ dE (mj (tg:=.Name "one" _) (outer:=ak (fj)) (N:=["things"]) (N':=["one"]) (nl:=1) (ix:=[]) rfl rfl rfl (dy (pv 0))
   (fun _ _ _ _=>(aA (i:=0) mH rfl (.inl rfl) (.inr rfl))) (fun _ _ _ _=>dA)
   (fun _ _ _ _=>(aR cg rfl eS (by decide +kernel) (ae (pv 0) af)))) (aZ qW (bq (ae au af)) (aR cG rfl df (by decide +kernel) (ae (bN kQ (pv 0) eJ (aS _)) af)))) af)))),?_⟩
  have lim:1000000<=sizeLine:=by decide
  refine⟨rfl,?_⟩;dsimp only [aJ,cu,tOp];refine bM _ _ _ _ _ _ _ _ _ ?_;refine⟨_,rfl,a,rfl,⟨_,aAA ha⟩,?_⟩;intro D nD;refine qk (F:=fun x=>match x with | .int i=>V.str (Str.ofString (toString i)) | y=>y) ha nD (by unfold aQ;rw [aeT];lia) (fun x=>rfl) (fun G x R hx sG r=>?_) (fun H2 s2 hD=>?_)
  ·obtain⟨n,hn',rfl⟩:=ai1.mp hx;have hb:=hn n hn';refine⟨_,rfl,(n:Int),rfl,?_,r⟩;rw [agZ];rcases age n with z | z
   ·rw [z];decide
   ·exact ae9 ((ah2 (by lia)).mpr (ae9 hb (by decide:1000000000<=2 ^ 30))) (by decide)
  ·have hD':H2 D=some (.lst ((ns.map eI).map V.str)):=by rw [hD];unfold aQ;rw [ahh,ahh];rfl
   refine⟨by show 1<=sizeLine;decide,fun l2 n2=>?_⟩;have s3:Same H2 (upd H2 l2 (.lst [.str "none"])):=aj n2;have e3:(upd H2 l2 (.lst [.str "none"])) l2=some (.lst [.str "none"]):=ag;generalize upd H2 l2 (.lst [.str "none"])=H3 at *;refine⟨_,rfl,afh _,fun l3 n3=>?_⟩;have s4:Same H3 (upd H3 l3 (.lst [])):=aj n3;have e4:(upd H3 l3 (.lst [])) l3=some (.lst []):=ag;generalize upd H3 l3 (.lst [])=H4 at *;have S4:Same H H4:=s2.trans (s3.trans s4);have nv:aQ ns=(ns.map fun (n:Nat)=>(n:Int)).map V.int:=by unfold aQ;rw [ahh];rfl
   refine jy (S4 _ _ (by rw [ha,nv])) (mU _ _) (qt _) e4 hu (.inr ⟨_,rfl,?_⟩);obtain⟨c,ec,hc⟩:∃ c:Nat,(if ((ns.map fun (n:Nat)=>(n:Int)).map V.int).isEmpty=true then (1:Int) else 0)=(c:Int)/\c=if ns=[] then 1 else 0:=by
    cases ns with
    | nil=>exact⟨1,rfl,rfl⟩
    | cons _ _=>exact⟨0,rfl,by simp⟩
   have c1:c<=1:=by rw [hc];split<;>lia
   refine⟨l2,(c:Int),[.str "none"],rfl,afH V.int ec,s4 _ _ e3,by lia,by lia,by rw [afu];show 1 * c<=sizeLine;lia,fun l4 n4=>?_⟩;rw [afu];have s5:Same H4 (upd H4 l4 (.lst (List.replicate c [V.str "none"]).flatten)):=aj n4;have e5:(upd H4 l4 (.lst (List.replicate c [V.str "none"]).flatten)) l4=some (.lst (List.replicate c [V.str "none"]).flatten):=ag;generalize upd H4 l4 (.lst (List.replicate c [V.str "none"]).flatten)=H5 at *;have fl:(List.replicate c [V.str "none"]).flatten=(List.replicate c ("none" : Str)).map V.str:=by
    rcases (show c=0\/c=1 by lia) with z | z<;>rw [z]<;>rfl
   rw [fl] at e5;refine⟨D,l4,_,_,rfl,rfl,s5 _ _ (s4 _ _ (s3 _ _ hD')),e5,by rw [aeT,aeT,aeT,aft];lia,fun l5 n5=>?_⟩;rw [← afe];have cb:cBl.length=1:=by rw [cm];rfl
   have cd:("none" : Str).length=4:=by decide +kernel
   have hs:((ns.map eI).map (·.length)).sum<=9 * ns.length:=by
    have:∀ l:List Nat,(∀ n∈l,n < 1000000000)->((l.map eI).map (·.length)).sum<=9 * l.length:=fun l=>by
     induction l with
     | nil=>intro _;simp
     | cons n r ih =>
      intro hz;have:=(lZ (hz n aeX)).l9;have:=ih fun y hy=>hz y (aeW _ hy);rw [afl,afl,agC,afn];lia
    exact this ns hn
   refine⟨cBl,l5,ns.map eI++List.replicate c ("none" : Str),rfl,rfl,aAA ag,?_,?_⟩
   ·rw [afe,ai5,aeV,aft,cb,aie,ahy,cd,aeT];lia
   ·have z:=q _ (S4.trans (s5.trans (aj (o:=.lst ((ns.map eI++List.replicate c ("none" : Str)).map V.str)) n5)));have e:Txt.join cBl (ns.map eI++List.replicate c ("none" : Str))=kx ns:=by
     unfold kx;by_cases k0:ns=[]
     ·rw [hc,if_pos k0,if_pos k0,k0,ql];exact d8 _ _
     ·rw [hc,if_neg k0,if_neg k0];simp
    rw [e];exact z
end
theorem mF (H:Hp):∀ ns:List Nat,SeesAll H (aQ ns) (ns.map fun (n:Nat)=>PyData.int (n:Int))
 | []=>.nil
 | n::ns=>.cons (.int n) (mF H ns)
theorem qe:∀ ns:List Nat,PyData.canLayAll0 (ns.map fun (n:Nat)=>PyData.int (n:Int))=true
 | []=>rfl
 | n::ns=>by rw [afl];simp only [PyData.canLayAll0,PyData.canLay0,qe ns,ajE]
theorem yN {h:Hs}{g:List Nat}{n:Nat}:n∈gr h.2 (aN h.1 h.2 g) g↔eV h g n=true:=by
 unfold gr eV;rw [ahi,ahC,afx (decide (n < h.2.length)),agB]
theorem qd (n:Nat):(Str.ofString "open " : Str)++eI n=Str.ofString "open" ++ cBl++eI n:=by
 rw [show (Str.ofString "open " : Str)=Str.ofString "open" ++ cBl by decide +kernel]
theorem xi {h:Hs}{g:List Nat}(go:jx h.1 h.2 g):jx h.1 h.2 g.dropLast:=by
 rw [ai4];exact zo go _
def zu (p:Addr)(S:List Addr)(H:Hp)(h:Hs)(g:List Nat)(Q:VK):Prop:=∀ (t l':Addr) (v':V) (row due:Str) (h':Hs) (g':List Nat) (S':List Addr) (H':Hp),H t=none->H' t=some (.tup [.str row,.str due,v',.ref l'])->DeckAt H' p->But p H H'->p ∉ S'->InH S' H'->HouseAt (onl S' H') v' h'->onl S' H' l'=some (.lst (aQ g'))->(∀ b∈S',b∈S\/H b=none)->HouseS h'->jx h'.1 h'.2 g'->Due h g row due h' g'->row.length<=100000->Q (.ref t) H'
structure RowC (p l:Addr)(v:V)(S:List Addr)(H:Hp)(h:Hs)(g:List Nat):Prop where
 iS:InH S H
 pS:p ∉ S
 hh:HouseAt (onl S H) v h
 hl:onl S H l=some (.lst (aQ g))
 hs:HouseS h
 go:jx h.1 h.2 g
section
variable {K:PySem.W.Frag}{p l:Addr}{v:V}{S:List Addr}{H G:Hp}{h:Hs}{g:List Nat}{Q:VK}{t:Addr}{row due:Str}
theorem RowC.keep (c:RowC p l v S H h g)(B:But p H G):Same (onl S H) (onl S G):=gS (fun b hb u e=>B b u (fun z=>c.pS (by rw [← z];exact hb)) e) fun _ h=>h
theorem RowC.at (c:RowC p l v S H h g)(B:But p H G):HouseAt G v h:=(c.hh.same (c.keep B)).same my
theorem RowC.gn (c:RowC p l v S H h g)(B:But p H G):G l=some (.lst (aQ g)):=(bB (c.keep B _ _ c.hl)).2
theorem RowC.inn (c:RowC p l v S H h g)(B:But p H G):InH S G:=fun b hb=>let ⟨u,e⟩:=c.iS b hb;⟨u,B b u (fun z=>c.pS (by rw [← z];exact hb)) e⟩
theorem qm (c:RowC p l v S H h g)(q:zu p S H h g Q){l':Addr}{v':V}{h':Hs}{g':List Nat}{T:List Addr}(B:But p H G)(dk:DeckAt G p)(nt:G t=none)(iT:InH T G)(pT:p ∉ T)(hT:HouseAt (onl T G) v' h')(eT:onl T G l'=some (.lst (aQ g')))(nT:∀ b∈T,b∈S\/H b=none)(hs':HouseS h')(go':jx h'.1 h'.2 g')(du:Due h g row due h' g')(rl:row.length<=100000):Q (.ref t) (upd G t (.tup [.str row,.str due,v',.ref l'])):=by
 have s:Same G (upd G t (.tup [.str row,.str due,v',.ref l'])):=aj nt;have sT:Same (onl T G) (onl T (upd G t (.tup [.str row,.str due,v',.ref l']))):=gS (fun b _ u e=>s b u e) fun _ h=>h;exact q t l' v' row due h' g' T _ (B.free (dk.ne nt) nt) ag (dk.same s) (B.trans (ay s)) pT (iT.same s) (hT.same sT) (sT _ _ eT) nT hs' go' du rl
theorem yb (c:RowC p l v S H h g)(q:zu p S H h g Q)(B:But p H G)(dk:DeckAt G p)(nt:G t=none)(du:Due h g row due h g)(rl:row.length<=100000):Q (.ref t) (upd G t (.tup [.str row,.str due,v,.ref l])) :=
 qm c q B dk nt (c.inn B) c.pS (c.hh.same (c.keep B)) (c.keep B _ _ c.hl) (fun b hb=>.inl hb) c.hs c.go du rl
theorem ze (c:RowC p l v S H h g)(q:zu p S H h g Q){l':Addr}{g':List Nat}(B:But p H G)(dk:DeckAt G p)(nt:G t=none)(nl:H l'=none)(lp:l'≠p)(el:G l'=some (.lst (aQ g')))(go':jx h.1 h.2 g')(du:Due h g row due h g')(rl:row.length<=100000):Q (.ref t) (upd G t (.tup [.str row,.str due,v,.ref l'])) :=
 qm (T:=l'::S) c q B dk nt (fun b hb=>(aeY.mp hb).elim (fun z=>by rw [z];exact⟨_,el⟩) (c.inn B b)) (fun z=>(aeY.mp z).elim (fun y=>lp y.symm) c.pS) ((c.hh.same (c.keep B)).same (gS (fun _ _ _ e=>e) fun _ hb=>aeW _ hb)) (bu aeX el) (fun b hb=>(aeY.mp hb).elim (fun z=>.inr (by rw [z];exact nl)) .inl) c.hs go' du rl
abbrev acO (a b:TE):TE:=tOp (fun x y H Q=>∃ i j,x=V.str i/\y=V.str j/\i.length+j.length<=sizeLine/\Q (V.str (i++j)) H) a b
abbrev adw (t:TE):TE:=tCB (fun xs H Q=>∃ i,xs=[V.int i]/\i.natAbs.log2 < 1920/\Q (V.str (Str.ofString (toString i))) H) (aJ t cu)
def acm:TE:=wD (aJ (acO (tC (V.str "open ")) (adw (di 5))) (aJ (tC (V.str "ok")) (aJ (di 1) (aJ (tOp acG (di 2) (oR (aJ (di 5) cu))) cu))))
def ab9:TE:=wD (aJ (acO (tC (V.str "open ")) (adw (di 5))) (aJ (tC (V.str "NoStep")) (aJ (di 1) (aJ (di 2) cu))))
def abd (K:PySem.W.Frag)(A:Around):TE:=wD (aJ (tC (V.str "back")) (aJ (tOp (zt K) (oR (aJ (tC (V.str "ok")) (aJ (tC (V.str "NoStep")) cu))) (adW (tOp (z5 A false) (di 2) (oR cu)))) (aJ (di 1) (aJ (tSl (adJ K) (di 2) qG (aaf (tUn (rU fun i=>V.int (-i)) (tC (V.int 1))))) cu))))
abbrev stR (p l:Addr)(v:V)(x3 x4 x5:Option V):L2.St:=[some (.ref p),some v,some (.ref l),x3,x4,x5]
theorem fO (x y:Str):(x++y).length=x.length+y.length:=by
 show (x.cps++y.cps).size=_;rw [agG];rfl
theorem sI {x3 x4:Option V}{n:Nat}(c:RowC p l v S H h g)(q:zu p S H h g Q)(B:But p H G)(dk:DeckAt G p)(hn:n < 1000000000)(sb:eV h g n=true):acm (stR p l v x3 x4 (some (.int n))) G Q:=by
 have lim:100000<=sizeLine:=by decide
 have c5:(Str.ofString "open " : Str).length=5:=by decide +kernel
 have n9:=(lZ hn).l9;have gl:=h8 c.go;have rl:=c.hs.rl;have oL:(aQ g).length=g.length:=aeT _;refine⟨_,rfl,(n:Int),rfl,xW hn,_,_,rfl,rfl,by rw [c5];show 5+(eI n).length<=_;lia,_,rfl,_,rfl,_,rfl,by show 1<=sizeLine;decide,fun l1 n1=>?_⟩;have s1:Same G (upd G l1 (.lst [.int (n:Int)])):=aj n1;have e1:(upd G l1 (.lst [.int (n:Int)])) l1=some (.lst [.int (n:Int)]):=ag;generalize upd G l1 (.lst [.int (n:Int)])=G1 at *;refine⟨l,l1,_,_,rfl,rfl,s1 _ _ (c.gn B),e1,by rw [oL];show g.length+1<=sizeLine;lia,fun l2 n2=>?_⟩;rw [show aQ g++[V.int (n:Int)]=aQ (g++[n]) by unfold aQ;rw [afe];rfl];have s2:Same G1 (upd G1 l2 (.lst (aQ (g++[n])))):=aj n2;have e2:(upd G1 l2 (.lst (aQ (g++[n])))) l2=some (.lst (aQ (g++[n]))):=ag;generalize upd G1 l2 (.lst (aQ (g++[n])))=G2 at *;have B2:=B.trans (ay (s1.trans s2));have lp:=(dk.same s1).ne n2;refine⟨by show 4<=sizeLine;decide,fun t nt=>?_⟩;show Q _ (upd G2 t (.tup [.str (Str.ofString "open " ++ eI n),.str "ok",v,.ref l2]));rw [qd];exact ze c q B2 (dk.same (s1.trans s2)) nt (B.free lp (s1.free n2)) lp e2 (nu c.go sb) (.opn n hn sb) (by rw [← qd,fO,c5];lia)
theorem yg {x3 x4:Option V}{n:Nat}(c:RowC p l v S H h g)(q:zu p S H h g Q)(B:But p H G)(dk:DeckAt G p)(hn:n < 1000000000)(sb:eV h g n=false):ab9 (stR p l v x3 x4 (some (.int n))) G Q:=by
 have lim:100000<=sizeLine:=by decide
 have c5:(Str.ofString "open " : Str).length=5:=by decide +kernel
 have n9:=(lZ hn).l9;refine⟨_,rfl,(n:Int),rfl,xW hn,_,_,rfl,rfl,by rw [c5];show 5+(eI n).length<=_;lia,_,rfl,_,rfl,by show 4<=sizeLine;decide,fun t nt=>?_⟩;show Q _ (upd G t (.tup [.str (Str.ofString "open " ++ eI n),.str "NoStep",v,.ref l]));rw [qd];exact yb c q B dk nt (.shut n hn sb) (by rw [← qd,fO,c5];lia)
theorem qr {A:Around}{x3 x4 x5:Option V}(hu:A.units+1 < cLine)(c:RowC p l v S H h g)(q:zu p S H h g Q)(B:But p H G)(dk:DeckAt G p):abd K A (stR p l v x3 x4 x5) G Q:=by
 have c4:(Str.ofString "back" : Str).length=4:=by decide +kernel
 refine⟨by show 2<=sizeLine;decide,fun l1 n1=>?_⟩;have s1:Same G (upd G l1 (.lst [.str "ok",.str "NoStep"])):=aj n1;have e1:(upd G l1 (.lst [.str "ok",.str "NoStep"])) l1=some (.lst [.str "ok",.str "NoStep"]):=ag;generalize upd G l1 (.lst [.str "ok",.str "NoStep"])=G1 at *;refine⟨_,rfl,afh _,fun l2 n2=>?_⟩;have s2:Same G1 (upd G1 l2 (.lst [])):=aj n2;have e2:(upd G1 l2 (.lst [])) l2=some (.lst []):=ag;generalize upd G1 l2 (.lst [])=G2 at *;have S2:=s1.trans s2;have B2:=B.trans (ay S2);refine jy (S2 _ _ (c.gn B)) (mF _ g) (qe g) e2 hu (.inr ⟨_,rfl,?_⟩);have fin:∀ due:Str,(g≠[]->due = "ok")->(g=[]->due = "NoStep")->atI [.str "ok",.str "NoStep"] (if (aQ g).isEmpty=true then 1 else 0)=some (V.str due)->∃ (pp:Addr) (xs:List V) (i:Int) (w:V),V.ref l1=.ref pp/\V.int (if (aQ g).isEmpty=true then 1 else 0)=.int i/\SqL K G2 pp xs/\atI xs i=some w/\aJ (di 1) (aJ (tSl (adJ K) (di 2) qG (aaf (tUn (rU fun i=>V.int (-i)) (tC (V.int 1))))) cu) (stR p l v x3 x4 x5) G2 (fun xs H2=>(fun ys H3=>ys.length<=sizeLine/\∀ t,H3 t=none->Q (.ref t) (upd H3 t (.tup ys))) (V.str "back" :: w::xs) H2):=fun due d1 d2 ea=>by
  refine⟨l1,_,_,_,rfl,rfl,aAA (s2 _ _ e1),ea,_,rfl,_,rfl,1,rfl,-1,rfl,l,_,rfl,aAA (c.gn B2),fun l3 n3=>?_⟩;rw [uM,show (aQ g).dropLast=aQ g.dropLast from ait.symm];have s3:Same G2 (upd G2 l3 (.lst (aQ g.dropLast))):=aj n3;have e3:(upd G2 l3 (.lst (aQ g.dropLast))) l3=some (.lst (aQ g.dropLast)):=ag;generalize upd G2 l3 (.lst (aQ g.dropLast))=G3 at *;have lp:=(dk.same S2).ne n3;refine⟨by show 4<=sizeLine;decide,fun t nt=>?_⟩;refine ze c q (B2.trans (ay s3)) (dk.same (S2.trans s3)) nt (B2.free lp n3) lp e3 (xi c.go) ?_ (by rw [c4];lia);by_cases e:g=[]
  ·rw [d2 e];have:g.dropLast=g:=by rw [e];rfl
   rw [this];exact .none e
  ·rw [d1 e];exact .back e
 by_cases e:g=[]
 ·exact fin "NoStep" (fun z=>absurd e z) (fun _=>rfl) (by rw [e];rfl)
 ·exact fin "ok" (fun _=>rfl) (fun z=>absurd z e) (by cases g with | nil=>exact absurd rfl e | cons _ _=>rfl)
end
abbrev tRm (K:PySem.W.Frag):TE:=tOp (acF K) (di 1) (tC (V.int 1))
def aa2 (K:PySem.W.Frag):TS:=sU (vf (wD (aJ (me jY [] E0 (aJ (di 0) (aJ (tC (V.int 3)) (aJ (tOp (zt K) (oR (aJ (tC (V.int 5)) (aJ (tC (V.int 13)) cu))) (tTk 0 (tC (V.int 2)))) cu)))) (aJ (tRm K) cu))) (gh 1)) (wt (wD (aJ (tOp (zt K) (me rN [] E0 (aJ (di 0) (aJ (di 1) cu))) (tC (V.int 0))) (aJ (tC (V.str "ok")) (aJ (di 1) (aJ (oR cu) cu))))))
def aaW (K:PySem.W.Frag):TS:=sU (vf (wD (aJ (tOp (acF K) (di 1) (tC (V.int 0))) (aJ (tOp acG (tRm K) (oR (aJ (wD (aJ (oR (aJ (me iO [] E0 (aJ (di 0) (aJ (tC (V.int 3)) cu))) cu)) (aJ (me jY [] E0 (aJ (di 0) (aJ (tC (V.int 3)) (aJ (tOp (zt K) (oR (aJ (tC (V.int 3)) (aJ (tC (V.int 9)) cu))) (tTk 0 (tC (V.int 2)))) cu)))) cu))) cu))) cu))) (gh 1)) (wt (wD (aJ (tOp (zt K) (me rN [] E0 (aJ (di 0) (aJ (di 1) cu))) (tUn (rU fun i=>V.int (-i)) (tC (V.int 1)))) (aJ (tC (V.str "ok")) (aJ (di 1) (aJ (oR cu) cu))))))
def ad7 (K:PySem.W.Frag)(A:Around):TS:=sU (acL (tOr (p9 (tOp (rI0 fun i j=>V.bl (decide (j < i))) (tTk 0 (tC (V.int 3))) (tC (V.int 0)))) (p9 (tOp (rI0 fun i j=>V.bl (decide (j < i))) (adK K (tRm K)) (tC (V.int 11))))) (wt (abd K A)) o8) (sU (ad8 (acL (p9 (tOp rEq (tTk 0 (tC (V.int 2))) (tC (V.int 0)))) (aa2 K) o8)) (aaW K))
section
variable {K:PySem.W.Frag}{A:Around}{p l:Addr}{v:V}{S:List Addr}{H G:Hp}{h:Hs}{g:List Nat}{D:vt}{x3 x4 x5:Option V}
theorem zQ (c:RowC p l v S H h g)(q:zu p S H h g D.rt)(B:But p H G)(dk:DeckAt G p):aa2 K D (stR p l v x3 x4 x5) G:=by
 have lim:100000<=sizeLine:=by decide
 refine⟨_,rfl,by show 2<=sizeLine;decide,fun ll nl=>?_⟩;have s1:Same G (upd G ll (.lst (([5,13]:List Int).map V.int))):=aj nl;have e1:(upd G ll (.lst (([5,13]:List Int).map V.int))) ll=some (.lst (([5,13]:List Int).map V.int)):=ag;refine⟨_,rfl,p,2,rfl,dk.same s1,by decide,fun r G2 r0 r1 dk2 B2=>?_⟩;obtain⟨m,hmm,em⟩:=abL (xs:=[5,13]) r0 r1;have hm':0 < m/\m<=13:=by simp only [aeY,afL,ahc] at hmm;lia
 refine⟨ll,_,_,.int m,rfl,rfl,aAA (B2 _ _ (dk.ne nl) e1),em,?_⟩;refine⟨p,3,m,rfl,dk2,by decide,by decide,hm'.1,by lia,fun kA ks G3 nk hk kl kk dk3 B3=>?_⟩;have B02:But p H G2:=B.trans ((ay s1).trans B2);have B03:But p H G3:=B02.trans B3;have kp:=dk2.ne nk;have nk0:H kA=none:=B02.free kp nk;obtain⟨tt,ka,ra,us,rfl,k1,k2,k3,k4⟩:=c.hh;have u3:=c.keep B03;refine⟨_,rfl,tt,_,1,.ref ra,rfl,rfl,aAB (bB (u3 _ _ k1)).2,rfl,by show 2<=sizeLine;decide,fun t nt=>?_⟩;have s4:Same G3 (upd G3 t (.tup [.ref kA,.ref ra])):=aj nt;have e4:(upd G3 t (.tup [.ref kA,.ref ra])) t=some (.tup [.ref kA,.ref ra]):=ag;have tp:=dk3.ne nt;have nt0:H t=none:=B03.free tp nt;generalize upd G3 t (.tup [.ref kA,.ref ra])=G4 at *;have B04:=B03.trans (ay s4);have u4:=c.keep B04;have up:∀ {G':Hp},But p G4 G'->Same (onl S H) (onl (t::kA::S) G'):=fun {G'} B'=>(c.keep (B04.trans B')).trans (gS (fun _ _ _ e=>e) fun _ hb=>aeW _ (aeW _ hb));have hT:∀ {G':Hp},But p G4 G'->HouseAt (onl (t::kA::S) G') (.ref t) (ks,h.2):=fun {G'} B'=>⟨t,kA,ra,us,rfl,bu (by simp) (B' _ _ tp e4),bu (by simp) (B' _ _ kp (s4 _ _ hk)),up B' _ _ k3,k4.same (up B')⟩;have pT:p ∉ t::kA::S:=fun z=>by
  simp only [aeY] at z;rcases z with z | z | z
  ·exact tp z.symm
  ·exact kp z.symm
  ·exact c.pS z
 have hs':HouseS (ks,h.2):=⟨⟨kk,by show ks.length<=1000;lia,c.hs.ok.rs,c.hs.ok.rl⟩,c.hs.rl,by show ks.length<=20;lia,c.hs.wl⟩;refine⟨_,rfl,_,rfl,p,.ref t,(ks,h.2),rfl,dk3.same s4,(hT (But.refl _ _)).same (fun b u e=>aG (fun z=>pT (by rw [← ae1.mp z];exact (bB e).1)) (bB e).2),hs'.ok,hs'.rl,hs'.kl,hs'.wl,fun lr rows G5 nlr B5 dk5 er ro=>?_⟩;have rl0:=ro.len;refine⟨lr,_,0,.str (abb ks),rfl,rfl,aAA er,?_,_,rfl,afh _,fun le ne=>?_⟩
 ·exact bP (j:=0) (by rw [afg,ro.first];rfl)
 have s6:Same G5 (upd G5 le (.lst [])):=aj ne;have e6:(upd G5 le (.lst [])) le=some (.lst (aQ [])):=ag;have lp:=dk5.ne ne;have B05:=B04.trans B5;generalize upd G5 le (.lst [])=G6 at *;refine⟨by show 4<=sizeLine;decide,fun t2 nt2=>?_⟩;have B56:But p G4 G6:=B5.trans (ay s6);refine qm c q (T:=le::t::kA::S) (B04.trans B56) (dk5.same s6) nt2 (fun b hb=>?_) (fun z=>(aeY.mp z).elim (fun y=>lp y.symm) pT) ((hT B56).same (gS (fun _ _ _ e=>e) fun _ hb=>aeW _ hb)) (bu aeX e6) (fun b hb=>?_) hs' (fun j i e=>by simp at e) (.keys ks kk (by lia)) ?_
 ·simp only [aeY] at hb;rcases hb with z | z | z | z
  ·rw [z];exact⟨_,e6⟩
  ·rw [z];exact⟨_,B56 _ _ tp e4⟩
  ·rw [z];exact⟨_,B56 _ _ kp (s4 _ _ hk)⟩
  ·exact c.inn (B04.trans B56) b z
 ·simp only [aeY] at hb;rcases hb with z | z | z | z
  ·rw [z];exact .inr (B05.free lp ne)
  ·rw [z];exact .inr nt0
  ·rw [z];exact .inr nk0
  ·exact .inl z
 ·have w2:=lY kk;rw [fO,fO,show (Str.ofString "keys" : Str).length=4 by decide +kernel,show cBl.length=1 by rw [cm];rfl];lia
theorem abM {xs:List V}{v:V}{n:Nat}(l:xs.length=n+1)(e:xs[n]? = some v):atI xs (-1)=some v:=by
 have lt:n < xs.length:=by lia
 have ed:xs.drop n=[v]:=by
  rw [afU lt,List.drop_eq_nil_of_le (by lia)];rw [aeS lt] at e;injection e with e
  rw [e]
 rw [← afy n xs,ed];exact aaM _ _
theorem zV (c:RowC p l v S H h g)(q:zu p S H h g D.rt)(h11:h.2.length<=11)(B:But p H G)(dk:DeckAt G p):aaW K D (stR p l v x3 x4 x5) G:=by
 have lim:100000<=sizeLine:=by decide
 obtain⟨tt,ka,ra,us,rfl,k1,k2,k3,k4⟩:=c.hh;have ul:us.length=h.2.length:=k4.1;have u0:=c.keep B;refine⟨_,rfl,tt,_,0,.ref ka,rfl,rfl,aAB (bB (u0 _ _ k1)).2,rfl,?_⟩;refine⟨_,rfl,tt,_,1,.ref ra,rfl,rfl,aAB (bB (u0 _ _ k1)).2,rfl,?_⟩;refine⟨_,rfl,p,3,rfl,dk,by decide,by decide,fun z G1 kz dk1 B1=>?_⟩;refine⟨by show 1<=sizeLine;decide,fun zA nz=>?_⟩;have s2:Same G1 (upd G1 zA (.lst ([z].map V.str))):=aj nz;have e2:(upd G1 zA (.lst ([z].map V.str))) zA=some (.lst ([z].map V.str)):=ag;have B01:But p H G1:=B.trans B1;have zp:=dk1.ne nz;have nz0:H zA=none:=B01.free zp nz
 change aJ _ _ _ (upd G1 zA (.lst ([z].map V.str))) _
 generalize upd G1 zA (.lst ([z].map V.str))=G2 at *;have B02:=B01.trans (ay s2);refine⟨_,rfl,by show 2<=sizeLine;decide,fun ll nl=>?_⟩;have s3:Same G2 (upd G2 ll (.lst (([3,9]:List Int).map V.int))):=aj nl;have e3:(upd G2 ll (.lst (([3,9]:List Int).map V.int))) ll=some (.lst (([3,9]:List Int).map V.int)):=ag;have dk2:=dk1.same s2;refine⟨_,rfl,p,2,rfl,dk2.same s3,by decide,fun r G3 r0 r1 dk3 B3=>?_⟩;obtain⟨m,hmm,em⟩:=abL (xs:=[3,9]) r0 r1;have hm':0 < m/\m<=9:=by simp only [aeY,afL,ahc] at hmm;lia
 refine⟨ll,_,_,.int m,rfl,rfl,aAA (B3 _ _ (dk2.ne nl) e3),em,?_⟩;refine⟨p,3,m,rfl,dk3,by decide,by decide,hm'.1,by lia,fun kA ks G4 nk hk kl kk dk4 B4=>?_⟩;have B23:But p G2 G3:=(ay s3).trans B3;have B03:But p H G3:=B02.trans B23;have B04:But p H G4:=B03.trans B4;have kp:=dk3.ne nk;have nk0:H kA=none:=B03.free kp nk;have ez4:=B4 _ _ zp (B23 _ _ zp e2);refine⟨by show 2<=sizeLine;decide,fun ta na=>?_⟩;have s5:Same G4 (upd G4 ta (.tup [.ref zA,.ref kA])):=aj na;have e5:(upd G4 ta (.tup [.ref zA,.ref kA])) ta=some (.tup [.ref zA,.ref kA]):=ag;have ap:=dk4.ne na;have na0:H ta=none:=B04.free ap na;generalize upd G4 ta (.tup [.ref zA,.ref kA])=G5 at *;refine⟨by show 1<=sizeLine;decide,fun lb nb=>?_⟩;have s6:Same G5 (upd G5 lb (.lst [.ref ta])):=aj nb;have e6:(upd G5 lb (.lst [.ref ta])) lb=some (.lst [.ref ta]):=ag;generalize upd G5 lb (.lst [.ref ta])=G6 at *;have S6:=s5.trans s6;have B06:=B04.trans (ay S6);have u6:=c.keep B06;refine⟨ra,lb,_,_,rfl,rfl,(bB (u6 _ _ k3)).2,e6,by show us.length+1<=sizeLine;lia,fun rB nB=>?_⟩;have s7:Same G6 (upd G6 rB (.lst (us++[.ref ta]))):=aj nB;have e7:(upd G6 rB (.lst (us++[.ref ta]))) rB=some (.lst (us++[.ref ta])):=ag;have dk6:=dk4.same S6;have bp:=dk6.ne nB;have nB0:H rB=none:=B06.free bp nB;generalize upd G6 rB (.lst (us++[.ref ta]))=G7 at *;have B07:=B06.trans (ay s7);have dk7:=dk6.same s7;refine⟨by show 2<=sizeLine;decide,fun t nt=>?_⟩;have s8:Same G7 (upd G7 t (.tup [.ref ka,.ref rB])):=aj nt;have e8:(upd G7 t (.tup [.ref ka,.ref rB])) t=some (.tup [.ref ka,.ref rB]):=ag;have tp:=dk7.ne nt;have nt0:H t=none:=B07.free tp nt;generalize upd G7 t (.tup [.ref ka,.ref rB])=G8 at *;have B08:=B07.trans (ay s8);have S48:Same G4 G8:=S6.trans (s7.trans s8);have up:∀ {G':Hp},But p G8 G'->Same (onl S H) (onl ([t,rB,ta,zA,kA]++S) G'):=fun {G'} B'=>(c.keep (B08.trans B')).trans (gS (fun _ _ _ e=>e) fun _ hb=>ae8 _ hb);have hT:∀ {G':Hp},But p G8 G'->HouseAt (onl ([t,rB,ta,zA,kA]++S) G') (.ref t) (h.1,h.2++[([z],ks)]):=fun {G'} B'=>⟨t,ka,rB,_,rfl,bu (by simp) (B' _ _ tp e8),up B' _ _ k2,bu (by simp) (B' _ _ bp (s8 _ _ e7)),(k4.same (up B')).snoc ⟨ta,zA,kA,rfl,bu (by simp) (B' _ _ ap (s8 _ _ (s7 _ _ (s6 _ _ e5)))),bu (by simp) (B' _ _ zp (S48 _ _ ez4)),bu (by simp) (B' _ _ kp (S48 _ _ hk))⟩⟩;have pT:p ∉ [t,rB,ta,zA,kA]++S:=fun y=>by
  simp only [af3,agm,aeY] at y;rcases y with y | y | y | y | y | y
  ·exact tp y.symm
  ·exact bp y.symm
  ·exact ap y.symm
  ·exact zp y.symm
  ·exact kp y.symm
  ·exact c.pS y
 have l2:(h.2++[([z],ks)]).length=h.2.length+1:=by rw [aeV];rfl
 have mem:∀ r∈h.2++[([z],ks)],gX r/\r.2.length<=20:=fun r hr=>by
  rcases afc.mp hr with y | y
  ·exact⟨c.hs.ok.rs r y,c.hs.wl r y⟩
  ·rw [ae1.mp y];exact⟨⟨fun k hk=>by rw [ae1.mp hk];exact kz,ae4 _,by show 1<=4;decide,aiA ..,kk,by show ks.length<=1000;lia⟩,by show ks.length<=20;lia⟩
 have hs':HouseS (h.1,h.2++[([z],ks)]):=⟨⟨c.hs.ok.kk,c.hs.ok.kl,fun r hr=>(mem r hr).1,by show (h.2++[([z],ks)]).length<=1000;lia⟩,by show (h.2++[([z],ks)]).length<=12;lia,c.hs.kl,fun r hr=>(mem r hr).2⟩;refine⟨_,rfl,_,rfl,p,.ref t,(h.1,h.2++[([z],ks)]),rfl,dk7.same s8,(hT (But.refl _ _)).same (fun b u e=>aG (fun z=>pT (by rw [← ae1.mp z];exact (bB e).1)) (bB e).2),hs'.ok,hs'.rl,hs'.kl,hs'.wl,fun lr rows G9 nlr B9 dk9 er ro=>?_⟩;obtain⟨ls,pm,erow⟩:=ro.next h.2.length ([z],ks) (by show (h.2++[([z],ks)])[h.2.length]? = _;rw [aff (ae4 _),agA];rfl);have els:ls=[z]:=List.perm_singleton.mp pm;subst els;have rl0:rows.length=h.2.length+2:=by rw [ro.len];show (h.2++[([z],ks)]).length+1=_;lia
 refine⟨1,rfl,lr,_,-1,.str (acD [z] ks),rfl,rfl,aAA er,abM (n:=h.2.length+1) (by rw [aeT];lia) (by rw [afg,erow];rfl),_,rfl,afh _,fun le ne=>?_⟩;have sA:Same G9 (upd G9 le (.lst [])):=aj ne;have eA:(upd G9 le (.lst [])) le=some (.lst (aQ [])):=ag;have lp:=dk9.ne ne;have B09:=B08.trans B9;generalize upd G9 le (.lst [])=GA at *;refine⟨by show 4<=sizeLine;decide,fun t2 nt2=>?_⟩;have B8A:But p G8 GA:=B9.trans (ay sA);have srt:bR [z]=[z]:=List.perm_singleton.mp (dU [z]);have du:Due h g (acD [z] ks) "ok" (h.1,h.2++[([z],ks)]) []:=by
  have:=Due.room (h:=h) (g:=g) [z] ks (fun k hk=>by rw [ae1.mp hk];exact kz) (ae4 _) (by show 1<=4;decide) kk (by lia) (by lia);rw [srt] at this;exact this
 refine qm c q (T:=le::([t,rB,ta,zA,kA]++S)) (B08.trans B8A) (dk9.same sA) nt2 (fun b hb=>?_) (fun z=>(aeY.mp z).elim (fun y=>lp y.symm) pT) ((hT B8A).same (gS (fun _ _ _ e=>e) fun _ hb=>aeW _ hb)) (bu aeX eA) (fun b hb=>?_) hs' (fun j i e=>by simp at e) du ?_
 ·simp only [af3,agm,aeY] at hb;rcases hb with y | y | y | y | y | y | y
  ·rw [y];exact⟨_,eA⟩
  ·rw [y];exact⟨_,B8A _ _ tp e8⟩
  ·rw [y];exact⟨_,B8A _ _ bp (s8 _ _ e7)⟩
  ·rw [y];exact⟨_,B8A _ _ ap (s8 _ _ (s7 _ _ (s6 _ _ e5)))⟩
  ·rw [y];exact⟨_,B8A _ _ zp (S48 _ _ ez4)⟩
  ·rw [y];exact⟨_,B8A _ _ kp (S48 _ _ hk)⟩
  ·exact c.inn (B08.trans B8A) b y
 ·simp only [af3,agm,aeY] at hb;rcases hb with y | y | y | y | y | y | y
  ·rw [y];exact .inr (B09.free lp ne)
  ·rw [y];exact .inr nt0
  ·rw [y];exact .inr nB0
  ·rw [y];exact .inr na0
  ·rw [y];exact .inr nz0
  ·rw [y];exact .inr nk0
  ·exact .inl y
 ·have w2:=lY kk;have lj:=cf cPl [z];have sm:=bF (ks:=[z]) fun k hk=>by rw [ae1.mp hk];exact kz
  have cp:cPl.length=1:=by rw [gU];rfl
  have cb:cBl.length=1:=by rw [cm];rfl
  have z1:([z]:List Str).length=1:=rfl;rw [cp] at lj;rw [fO,fO,fO,fO,cb,show (Str.ofString "room" : Str).length=4 by decide +kernel];lia
theorem yc (hu:A.units+1 < cLine)(c:RowC p l v S H h g)(q:zu p S H h g D.rt)(B:But p H G)(dk:DeckAt G p):ad7 K A D (stR p l v x3 x4 x5) G:=by
 obtain⟨tt,ka,ra,us,rfl,k1,k2,k3,k4⟩:=c.hh;refine⟨_,rfl,p,3,rfl,dk,by decide,fun r G1 _ _ dk1 B1=>?_⟩;have B01:=B.trans B1;have u1:=c.keep B01;refine⟨_,0,rfl,rfl,_,rfl,lJ (fun _=>qr hu c q B01 dk1) (fun _=>?_)⟩;refine⟨_,rfl,tt,_,1,.ref ra,rfl,rfl,aAB (bB (u1 _ _ k1)).2,rfl,ra,_,rfl,.inl (aAA (bB (u1 _ _ k3)).2),_,11,rfl,rfl,_,rfl,lJ (fun _=>qr hu c q B01 dk1) (fun hb=>?_)⟩;have h11:h.2.length<=11:=by
  have:=ahq (agI.mpr hb);have:=k4.1;lia
 refine⟨fun σ' H'=>σ'=stR p l (.ref tt) x3 x4 x5/\But p H H'/\DeckAt H' p,?_,?_⟩
 ·rintro σ' G2 ⟨rfl,B2,dk2⟩;exact zV c q h11 B2 dk2
 ·refine⟨_,rfl,p,2,rfl,dk1,by decide,fun r G2 _ _ dk2 B2=>⟨rfl,_,rfl,lJ (fun _=>?_) (fun _=>⟨rfl,B01.trans B2,dk2⟩)⟩⟩;exact zQ c q (B01.trans B2) dk2
end
def xF:Sp:=fun vs H Q _=>∃ (p l:Addr) (v:V) (h:Hs) (g:List Nat) (S:List Addr),vs=[.ref p,v,.ref l]/\DeckAt H p/\RowC p l v S H h g/\zu p S H h g Q
theorem uX (a:Nat):(Str.ofString "worth " : Str)++eI a++Str.ofString " 7" = Str.ofString "worth" ++ cBl++Txt.join cBl [eI a,eI 7]:=by
 rw [← abp,show (Str.ofString " 7" : Str)=Str.ofString " " ++ eI 7 by decide +kernel];exact (iU _ _ _).symm
section
variable {P:Program}{w:World}{K:PySem.W.Frag}{mg:Str->Option Value}{base:Heap}
theorem cV:az ["deck","house","gone","way","may","room"] ["deck","house","gone"] (ak jX):=scM rfl rfl rfl rfl (by decide +kernel)
theorem z7 {f fS fK fE fN fR:Addr}{fd fdS fdK fdE fdN fdR:FuncData}(F:Fun K "_law_row" "_law_row" jX f fd)(aw:FnOk P w K mg base CX0 1 fS fdS ["deck","many"] gK)(ar:Cal K mg "_law_take" ["deck","many"] fS fdS)(bU:FnOk P w K mg base CX0 2 fK fdK ["deck","few"] iO)(bh:Cal K mg "_law_kind" ["deck","few"] fK fdK)
 (cW:FnOk P w K mg base CX0 3 fE fdE ["deck","few","most"] jY)(bG:Cal K mg "_law_keys" ["deck","few","most"] fE fdE)(kf:FnOk P w K mg base CX0 2 fN fdN ["house","order"] tX)(dI:Cal K mg "_law_next" ["house","order"] fN fdN)(cy:FnOk P w K mg base CX0 2 fR fdR ["deck","house"] rN)(bo:Cal K mg "_law_house_rows" ["deck","house"] fR fdR)(df:mg "int" = none)(eS:mg "str" = none)(br:mg "len" = none):FnOk P w K mg base CX0 4 f fd ["deck","house","gone"] xF:=by
 refine F.ok cV (fun vs H Q E h=>?_) (fun cdv A outer s H vs Q E hr h=>?_)
 ·obtain⟨p,l,v,h,g,S,rfl,_⟩:=h
  rfl
 ·obtain⟨p,l,v,h,g,S,rfl,dk,c,q⟩:=h;have hu:=tT hr;refine⟨_,(ah (aL (i:=3) cV.nd rfl (.inl rfl) (pcl aw ar (hr.mono (by decide:1<=3)) rfl (ae (pv 0) (ae aq af))))
   (ah (aL (i:=4) cV.nd rfl (.inl rfl) (pcl kf dI (hr.mono (by decide:2<=3)) rfl (ae (pv 1) (ae (pv 2) af))))
   (ah (cn (bO (PW.pt (rT (aT yP (pv 3) aq (aS _)) (oQ (aT vj (pv 4) eJ (aS _)))))
    (ah (aL (i:=5) cV.nd rfl (.inl rfl) (a7 aX (pv 4) (pcl aw ar (hr.mono (by decide:1<=3)) rfl (ae (pv 0) (ae (av aH rfl br afr (ae (pv 4) af)) af))) (fun _ _=>rfl)))
    (ao (aE (cC (ae (aZ bz au (aR cg rfl eS (by decide +kernel) (ae (pv 5) af))) (ae au (ae (pv 1) (ae (aZ dE (pv 2) (bq (ae (pv 5) af))) af)))))))) aO))
   (ah (cn (bO (aT yP (pv 3) aq (aS _))
    (ah (aL (i:=5) cV.nd rfl (.inl rfl) (pcl aw ar (hr.mono (by decide:1<=3)) rfl (ae (pv 0) (ae (aZ kN (av aH rfl br afr (ae (a7 bJ (pv 1) aq (fun _ _=>rfl)) af)) aq) af))))
    (ah (bO (aT oM (pv 5) (pv 4) rfl)
     (ao (aE (cC (ae (aZ bz au (aR cg rfl eS (by decide +kernel) (ae (pv 5) af))) (ae au (ae (pv 1) (ae (aZ dE (pv 2) (bq (ae (pv 5) af))) af))))))) aO)
    (ao (aE (cC (ae (aZ bz au (aR cg rfl eS (by decide +kernel) (ae (pv 5) af))) (ae au (ae (pv 1) (ae (pv 2) af))))))))) aO))
   (ah (bO (aT yP (pv 3) aq (aS _))
    (ao (aE (cC (ae au (ae (a7 aX (bq (ae au (ae au af))) (aR cG rfl df (by decide +kernel) (ae (bN kQ (pv 2) eJ (aS _)) af)) (fun _ _=>rfl)) (ae (pv 1) (ae (d7 iy (pv 2) gJ (gB (yt qM aq))) af))))))) aO)
   (ah (bO (PW.pt (rT (aT kF (pv 3) aq (aS _)) (oQ (aT vj (a7 bJ (pv 1) aq (fun _ _=>rfl)) eJ (aS _)))))
    (ao (aE (cC (ae (aZ bz (aZ bz au (aR cg rfl eS (by decide +kernel) (ae (pcl aw ar (hr.mono (by decide:1<=3)) rfl (ae (pv 0) (ae (av aH rfl br afr (ae (a7 bJ (pv 1) aq (fun _ _=>rfl)) af)) af))) af))) au) (ae au (ae (pv 1) (ae (pv 2) af))))))) aO)
   (ah (bO (PW.pt (oX (aT zi (pcl aw ar (hr.mono (by decide:1<=3)) rfl (ae (pv 0) (ae aq af))) aq (aS _)) (jW (aT zi (av aH rfl br afr (ae (a7 bJ (pv 1) aq (fun _ _=>rfl)) af)) aq (aS _)))))
    (ao (aE (cC (ae au (ae (a7 aX (bq (ae au (ae au af))) (aR cG rfl df (by decide +kernel) (ae (bN kQ (pv 2) eJ (aS _)) af)) (fun _ _=>rfl)) (ae (pv 1) (ae (d7 iy (pv 2) gJ (gB (yt qM aq))) af))))))) aO)
   (ah (cn (bO (aT kF (pcl aw ar (hr.mono (by decide:1<=3)) rfl (ae (pv 0) (ae aq af))) aq (aS _))
    (ah (aL (i:=1) cV.nd rfl (.inl rfl) (cC (ae (pcl cW bG hr rfl (ae (pv 0) (ae aq (ae (a7 aX (bq (ae aq (ae aq af))) (pcl aw ar (hr.mono (by decide:1<=3)) rfl (ae (pv 0) (ae aq af))) (fun _ _=>rfl)) af)))) (ae (a7 bJ (pv 1) aq (fun _ _=>rfl)) af))))
    (ao (aE (cC (ae (a7 aX (pcl cy bo (hr.mono (by decide:2<=3)) rfl (ae (pv 0) (ae (pv 1) af))) aq (fun _ _=>rfl)) (ae au (ae (pv 1) (ae eJ af)))))))) aO))
   (ah (aL (i:=1) cV.nd rfl (.inl rfl) (cC (ae (a7 bJ (pv 1) aq (fun _ _=>rfl)) (ae (aZ dE (a7 bJ (pv 1) aq (fun _ _=>rfl)) (bq (ae (cC (ae (bq (ae (pcl bU bh (hr.mono (by decide:2<=3)) rfl (ae (pv 0) (ae aq af))) af)) (ae (pcl cW bG hr rfl (ae (pv 0) (ae aq (ae (a7 aX (bq (ae aq (ae aq af))) (pcl aw ar (hr.mono (by decide:1<=3)) rfl (ae (pv 0) (ae aq af))) (fun _ _=>rfl)) af)))) af))) af))) af))))
   (ao (aE (cC (ae (a7 aX (pcl cy bo (hr.mono (by decide:2<=3)) rfl (ae (pv 0) (ae (pv 1) af))) (yt qM aq) (fun _ _=>rfl)) (ae au (ae (pv 1) (ae eJ af)))))))))))))))),?_⟩
  try dsimp only [gL,Cx.nox]
  have lim:100000<=sizeLine:=by decide
  have gl:=h8 c.go;have hrl:=c.hs.rl;obtain⟨tt,ka,ra,us,rfl,k1,k2,k3,k4⟩:=c.hh;have ul:us.length=h.2.length:=k4.1;refine⟨_,rfl,p,12,rfl,dk,by decide,fun way H1 w0 w1 dk1 B1=>?_⟩;refine⟨_,rfl,_,rfl,.ref tt,l,h,g,rfl,c.at B1,c.hs.ok,c.gn B1,c.go,by lia,fun mA H2 s2 nm em=>?_⟩;have B2:But p H H2:=B1.trans (ay s2);have dk2:=dk1.same s2;have mp:=dk1.ne nm;have ns:=fun n=>yN (h:=h) (g:=g) (n:=n);have lt9:∀ n,eV h g n=true->n < 1000000000:=fun n z=>by
   unfold eV at z;rw [afx,agB] at z;lia
  generalize gr h.2 (aN h.1 h.2 g) g=nx at *;have nL:(aQ nx).length=nx.length:=aeT _
  let J:L2.St->Hp->Prop:=fun σ' H'=>∃ x5,σ'=stR p l (.ref tt) (some (.int way)) (some (.ref mA)) x5/\But p H H'/\DeckAt H' p/\H' mA=some (.lst (aQ nx))
  refine⟨J,?_,?_⟩;rotate_left
  ·refine⟨_,rfl,way,6,rfl,rfl,_,rfl,lJ (fun _=>?_) (fun _=>⟨none,rfl,B2,dk2,em⟩)⟩;refine⟨_,rfl,afh _,fun e ne=>?_⟩;have s3:Same H2 (upd H2 e (.lst [])):=aj ne;have e3:(upd H2 e (.lst [])) e=some (.lst []):=ag;generalize upd H2 e (.lst [])=H3 at *;have B3:=B2.trans (ay s3);refine mv (s3 _ _ em) (mF _ nx) (qe nx) e3 hu ⟨_,rfl,?_⟩;by_cases ve:nx=[]
   ·subst ve;exact⟨none,rfl,B3,dk2.same s3,s3 _ _ em⟩
   rw [show (!(aQ nx).isEmpty)=true by cases nx with | nil=>exact absurd rfl ve | cons _ _=>rfl];refine kW ?_;have pos:0 < nx.length:=ago.mpr ve;refine⟨_,rfl,_,rfl,_,rfl,mA,_,rfl,.inl (aAA (s3 _ _ em)),p,_,rfl,dk2.same s3,by rw [nL];lia,fun r H4 r0 r1 dk4 B4=>?_⟩;rw [nL] at r1;obtain⟨m,rfl⟩:∃ m:Nat,r=(m:Int):=⟨r.toNat,by lia⟩;have hm:m < nx.length:=by lia
   refine⟨mA,_,(m:Int),.int (nx[m]:Int),rfl,rfl,aAA (B4 _ _ mp (s3 _ _ em)),bP (by unfold aQ;rw [afg,aeS hm];rfl),?_⟩;have sb:=(ns _).mp (afz hm);exact sI c q (B3.trans B4) dk4 (lt9 _ sb) sb
  rintro σ H3 ⟨x5,rfl,B3,dk3,em3⟩;refine⟨J,?_,?_⟩;rotate_left
  ·refine⟨_,rfl,way,8,rfl,rfl,_,rfl,lJ (fun _=>?_) (fun _=>⟨x5,rfl,B3,dk3,em3⟩)⟩;have u3:=c.keep B3;refine⟨_,rfl,_,rfl,tt,_,1,.ref ra,rfl,rfl,aAB (bB (u3 _ _ k1)).2,rfl,ra,_,rfl,.inl (aAA (bB (u3 _ _ k3)).2),_,2,rfl,rfl,p,_,rfl,dk3,by lia,fun r H4 r0 r1 dk4 B4=>?_⟩;obtain⟨n,rfl⟩:∃ n:Nat,r=(n:Int):=⟨r.toNat,by lia⟩;have ii:inV (.int (n:Int)) (aQ nx)=decide (n∈nx):=qH n _;refine⟨_,rfl,_,rfl,mA,_,rfl,.inl (aAA (B4 _ _ mp em3)),rfl,oi nx,_,rfl,lJ (fun hb=>?_) (fun hb=>?_)⟩
   ·rw [if_neg (by decide),ii] at hb;exact sI c q (B3.trans B4) dk4 (by lia) ((ns n).mp (af4 hb))
   ·rw [if_neg (by decide),ii] at hb;exact yg c q (B3.trans B4) dk4 (by lia) (agI.mpr fun z=>hb (afm ((ns n).mpr z)))
  rintro σ H4 ⟨x5,rfl,B4,dk4,em4⟩;refine⟨_,rfl,way,10,rfl,rfl,_,rfl,lJ (fun _=>qr hu c q B4 dk4) (fun _=>?_)⟩;refine⟨_,rfl,rfl,_,rfl,lJ (fun _=>?_) (fun _=>yc hu c q B4 dk4)⟩;have u4:=c.keep B4;refine⟨_,rfl,tt,_,1,.ref ra,rfl,rfl,aAB (bB (u4 _ _ k1)).2,rfl,afh _,fun e ne=>?_⟩;have s5:Same H4 (upd H4 e (.lst [])):=aj ne;have e5:(upd H4 e (.lst [])) e=some (.lst []):=ag;generalize upd H4 e (.lst [])=H5 at *;have B5:=B4.trans (ay s5);have u5:=c.keep B5;have dk5:=dk4.same s5;refine mv (bB (u5 _ _ k3)).2 (jw ((k4.same u5).same my)) (ky fun r hr=>⟨(c.hs.ok.rs r hr).lk,(c.hs.ok.rs r hr).kk⟩) e5 hu ⟨_,rfl,?_⟩;by_cases ve:us=[]
  ·rw [ve];exact yc hu c q B5 dk5
  rw [show (!us.isEmpty)=true by cases us with | nil=>exact absurd rfl ve | cons _ _=>rfl];refine kW ?_;have pos:0 < us.length:=ago.mpr ve;refine⟨_,rfl,_,rfl,tt,_,1,.ref ra,rfl,rfl,aAB (bB (u5 _ _ k1)).2,rfl,ra,_,rfl,.inl (aAA (bB (u5 _ _ k3)).2),p,_,rfl,dk5,by lia,fun r H6 r0 r1 dk6 B6=>?_⟩;obtain⟨a,rfl⟩:∃ a:Nat,r=(a:Int):=⟨r.toNat,by lia⟩;have ha:a < 1000000000:=by lia
  have n9:=(lZ ha).l9;have c6:(Str.ofString "worth " : Str).length=6:=by decide +kernel
  have c2:(Str.ofString " 7" : Str).length=2:=by decide +kernel
  refine⟨(a:Int),rfl,xW ha,_,_,rfl,rfl,by rw [c6];show 6+(eI a).length<=_;lia,_,_,rfl,rfl,by rw [fO,c6,c2];show 6+(eI a).length+2<=_;lia,_,rfl,_,rfl,by show 4<=sizeLine;decide,fun t nt=>?_⟩;show Q _ (upd H6 t (.tup [.str (Str.ofString "worth " ++ eI a++Str.ofString " 7"),.str "ok",.ref tt,.ref l]));rw [uX];exact yb c q (B5.trans B6) dk6 nt (.worth a 7 (by lia) (by decide)) (by rw [← uX,fO,fO,c6,c2];lia)
def uZ (C:Addr):Sp:=fun vs H Q _=>∃ (d wA l:Addr) (v:V) (h:Hs) (g:List Nat),vs=[.ref d,v,.ref l]/\DeskAt C H d wA h g/\HouseAt H v h/\H l=some (.lst (aQ g))/\HouseS h/\jx h.1 h.2 g/\∀ H',Same H H'->Q (.bl true) H'
theorem oV:az ["desk","house","gone"] ["desk","house","gone"] (ak gC):=scM rfl rfl rfl rfl (by decide +kernel)
theorem xD {f fY fW fN fK fH C cT cS:Addr}{fd fdY fdW fdN fdK fdH:FuncData}(F:Fun K "_law_stands" "_law_stands" gC f fd)(C_Desk:Cls K C)(dH:wK K C "say" fY)(dW:FnOk P w K mg base (CXr P w) 9 fY fdY ["self","row"] (aaB C cT cS))(dP:Binds K fdY ["self","row"] [])
 (lH:FnOk P w K mg base CX0 1 fW fdW ["things"] xf)(gu:Cal K mg "_law_words" ["things"] fW fdW)(kj:FnOk P w K mg base CX0 1 fH fdH ["house","order"] uf)(dM:Cal K mg "_law_hand" ["house","order"] fH fdH)(kf:FnOk P w K mg base CX0 2 fN fdN ["house","order"] tX)(dI:Cal K mg "_law_next" ["house","order"] fN fdN)
 (bY:FnOk P w K mg base CX0 1 fK fdK ["keys"] uw)(aY:Cal K mg "_law_keys_written" ["keys"] fK fdK):FnOk P w K mg base CX0 10 f fd ["desk","house","gone"] (uZ C):=by
 refine F.ok oV (fun vs H Q E h=>?_) (fun cdv A outer s H vs Q E hr h=>?_)
 ·obtain⟨d,wA,l,v,h,g,rfl,_⟩:=h
  rfl
 ·obtain⟨d,wA,l,v,h,g,rfl,da,hh,hl,hs,go,q⟩:=h;refine⟨_,(ah (bO (PW.pt (oX (aT rM (qo (pv 0) C_Desk dH dW hr dP .nil uC (ae au af)) (pcl lH gu (hr.mono (by decide:1<=9)) rfl (ae (pv 2) af)) (aS _)) (jW (aT rM (qo (pv 0) C_Desk dH dW hr dP .nil uC (ae au af)) (pcl bY aY (hr.mono (by decide:1<=9)) rfl (ae (pcl kj dM (hr.mono (by decide:1<=9)) rfl (ae (pv 1) (ae (pv 2) af))) af)) (aS _)))))
   (ao (aE pU)) aO)
   (ao (aE (bN kF (qo (pv 0) C_Desk dH dW hr dP .nil uC (ae au af)) (pcl lH gu (hr.mono (by decide:1<=9)) rfl (ae (pcl kf dI (hr.mono (by decide:2<=9)) rfl (ae (pv 1) (ae (pv 2) af))) af)) (aS _))))),?_⟩
  have lim:100000<=sizeLine:=by decide
  have rl:=hs.rl;have kl:=hs.kl;have da0:=da;obtain⟨dx,gA,v',ws,h1,h2,h3,h4,h5⟩:=da;have D:∀ {H'},Same H H'->DeskAt C H' d wA h g:=fun s=>da0.same s;have D1:∀ {H'},Same H H'->H' d=some (.ins C dx (fs3 v' wA gA)):=fun s=>s _ _ h1;have gk:=yZ hs go;have hk:=yU hs go;have gl:=h8 go;have ne:∀ z:Str,V.bl (!decide (V.str z=V.str z))=V.bl false:=fun z=>by rw [afm rfl];rfl
  refine⟨_,rfl,d,dx,_,rfl,h1,rfl,d,wA,h,g,_,rfl,da0,by decide,.gone gk fun H2 s2=>?_⟩;refine⟨_,rfl,l,g,rfl,s2 _ _ hl,gk.1,gk.2,fun H3 s3=>⟨rfl,false,ne _,km ?_⟩⟩;have S3:=s2.trans s3;refine⟨_,rfl,d,dx,_,rfl,D1 S3,rfl,d,wA,h,g,_,rfl,D S3,by decide,.hand hk fun H4 s4=>?_⟩;have S4:=S3.trans s4;refine⟨_,rfl,_,rfl,v,l,h,g,rfl,hh.same S4,hs.ok,S4 _ _ hl,by lia,fun _ b ss H5 s5 nb pm eb=>?_,fun z=>absurd go z⟩;obtain⟨k1,k2,k3,k4,k5⟩:=hk;have pl:=pm.length_eq;refine⟨b,ss,rfl,eb,fun k hk=>k5 k (pm.mem_iff.mp hk),by lia,fun H6 s6=>?_⟩;rw [pA pm];refine⟨rfl,false,ne _,km ?_⟩;have S6:=S4.trans (s5.trans s6);refine⟨_,rfl,d,dx,_,rfl,D1 S6,rfl,d,wA,h,g,_,rfl,D S6,by decide,.next (wX hs go) fun H8 s8=>?_⟩;have S8:=S6.trans s8;refine⟨_,rfl,_,rfl,v,l,h,g,rfl,hh.same S8,hs.ok,S8 _ _ hl,go,by lia,fun b2 H9 s9 nb2 eb2=>?_⟩;have nx:∀ n∈gr h.2 (aN h.1 h.2 g) g,n < h.2.length:=fun n hn=>ahC.mp (ahi.mp hn).1;have nl2:(gr h.2 (aN h.1 h.2 g) g).length<=h.2.length:=by
   have:=ag4 (fun i=>!decide (i∈g) && o1 (aN h.1 h.2 g) ((h.2[i]?).getD ([],[])).1) (List.range h.2.length);rw [ahB] at this;exact this
  refine⟨b2,_,rfl,eb2,by lia,fun n hn=>by have:=nx n hn;lia,fun HB sB=>?_⟩;refine⟨rfl,?_⟩;show Q (.bl (decide (V.str (kx (gr h.2 (aN h.1 h.2 g) g))=V.str (kx (gr h.2 (aN h.1 h.2 g) g))))) HB;rw [afm rfl];exact q HB (S8.trans (s9.trans sB))
def aaN (K:PySem.W.Frag):Sp:=fun vs H Q _=>∃ (a:Addr) (ns:List Int),vs=[.ref a]/\SqL K H a (ns.map V.int)/\∀ H',Q (.bl true) H'
theorem aae {c A:Prop}[Decidable c](h:A):if c then A else A:=by split<;>exact h
inductive LwI (C a d:Addr)(Z0:List Addr)(H6:Hp)(σ:L2.St)(H':Hp):Prop
 | mk (l w:Addr) (v:V) (h:Hs) (g:List Nat) (S:List Addr) (x2 x4 x6 x7:Option V):σ=[some (.ref a),some (.ref d),x2,some v,x4,some (.ref l),x6,x7]->HouseAt (onl S H') v h->onl S H' l=some (.lst (aQ g))->InH S H'->HouseS h->jx h.1 h.2 g->Apart C hN (S++Z0) H' d w h g->(∀ b∈Z0,∀ u,H6 b=some u->H' b=some u)->LwI C a d Z0 H6 σ H'
theorem iH:az ["script","desk","deck","house","row","gone","k","due"] ["script"] (ak wQ):=scM rfl rfl rfl rfl (by decide +kernel)
theorem ac9 {f fI fY C cT cS fD fC fT fH fG fR fW fS fK fL:Addr}{fd fdI fdY fdD fdC fdT fdH fdG fdR fdW fdS fdK fdL:FuncData}(F:Fun K "law" "law" wQ f fd)(tE:FnOk P w K mg base CX0 2 fI fdI ["self"] (kX C))(M_Desk:Mk K C fI)(mg_Desk:mg "Desk" = some (.ref C))(uv:Binds K fdI ["self"] [])(C_Desk:Cls K C)(dH:wK K C "say" fY)(dW:FnOk P w K mg base (CXr P w) 9 fY fdY ["self","row"] (aaB C cT cS))(dP:Binds K fdY ["self","row"] [])
 (oO:FnOk P w K mg base CX0 2 fD fdD ["cell","many"] aa7)(iu:Cal K mg "_law_deck" ["cell","many"] fD fdD)(jR:FnOk P w K mg base CX0 1 fC fdC ["script","k"] (aa9 K))(eg:Cal K mg "_law_cell_at" ["script","k"] fC fdC)(aw:FnOk P w K mg base CX0 1 fT fdT ["deck","many"] gK)(ar:Cal K mg "_law_take" ["deck","many"] fT fdT)
 (rR:FnOk P w K mg base CX0 4 fH fdH ["deck","most","locks"] mr)(iW:Cal K mg "_law_house" ["deck","most","locks"] fH fdH)(lC:FnOk P w K mg base CX0 4 fG fdG ["deck","most","locks"] mr)(dO:Cal K mg "_law_good_house" ["deck","most","locks"] fG fdG)(cy:FnOk P w K mg base CX0 2 fR fdR ["deck","house"] rN)(bo:Cal K mg "_law_house_rows" ["deck","house"] fR fdR)(wy:FnOk P w K mg base CX0 4 fW fdW ["deck","house","gone"] xF)(ly:Cal K mg "_law_row" ["deck","house","gone"] fW fdW)
 (ou:FnOk P w K mg base CX0 10 fS fdS ["desk","row"] (abe C cT cS))(ie:Cal K mg "_law_said" ["desk","row"] fS fdS)(qh:FnOk P w K mg base CX0 10 fK fdK ["desk","house","gone"] (uZ C))(hW:Cal K mg "_law_stands" ["desk","house","gone"] fK fdK)(sO:FnOk P w K mg base CX0 2 fL fdL ["house"] yw)(iJ:Cal K mg "_law_lines" ["house"] fL fdL)(bf:mg "range" = none)(vK:mg "max" = none)(wF:mg "min" = none)(br:mg "len" = none):FnOk P w K mg base CX0 11 f fd ["script"] (aaN K):=by
 refine F.ok iH (fun vs H Q E h=>?_) (fun cdv A outer s H vs Q E hr h=>?_)
 ·obtain⟨a,ns,rfl,_⟩:=h
  rfl
 ·obtain⟨a,ns,rfl,hs,q⟩:=h;refine⟨_,(ah (aL (i:=1) iH.nd rfl (.inl rfl) (aal M_Desk tE (hr.mono (by decide:3<=10)) rfl mg_Desk uv .nil mn))
   (ah (aL (i:=2) iH.nd rfl (.inl rfl) (pcl oO iu (hr.mono (by decide:2<=10)) rfl (ae (pcl jR eg (hr.mono (by decide:1<=10)) rfl (ae (pv 0) (ae aq af))) (ae aq af))))
   (ah (aL (i:=3) iH.nd rfl (.inl rfl) (mD (aT kF (pcl aw ar (hr.mono (by decide:1<=10)) rfl (ae (pv 2) (ae aq af))) aq (aS _)) (pcl rR iW (hr.mono (by decide:4<=10)) rfl (ae (pv 2) (ae aq (ae aq af)))) (pcl lC dO (hr.mono (by decide:4<=10)) rfl (ae (pv 2) (ae aq (ae aq af))))))
   (ah (cn (gj afS rfl (dy (pcl cy bo (hr.mono (by decide:2<=10)) rfl (ae (pv 2) (ae (pv 3) af)))) (aA (i:=4) iH.nd rfl (.inl rfl))
    (ao (bO (aT rM (pcl ou ie hr rfl (ae (pv 1) (ae (pv 4) af))) au (aS _))
     (ao (aE pU)) aO))))
   (ah (aL (i:=5) iH.nd rfl (.inl rfl) eJ)
   (ah (cn (gj afS rfl (w8 rfl bf (ae aq (ae (av (qY rfl) rfl vK (by decide +kernel) (ae aq (ae (av (rE rfl) rfl wF (by decide +kernel) (ae (av aH rfl br afr (ae (pv 0) af)) (ae aq af))) af))) af))) (aA (i:=6) iH.nd rfl (.inl rfl))
    (ah (aL (i:=2) iH.nd rfl (.inl rfl) (pcl oO iu (hr.mono (by decide:2<=10)) rfl (ae (pcl jR eg (hr.mono (by decide:1<=10)) rfl (ae (pv 0) (ae (pv 6) af))) (ae aq af))))
    (ah (gv (pcl wy ly (hr.mono (by decide:4<=10)) rfl (ae (pv 2) (ae (pv 3) (ae (pv 5) af)))) (gz rfl (aM (aA (i:=4) iH.nd rfl (.inl rfl)) (aM (aA (i:=7) iH.nd rfl (.inl rfl)) (aM (aA (i:=3) iH.nd rfl (.inl rfl)) (aM (aA (i:=5) iH.nd rfl (.inl rfl)) cU))))))
    (ao (bO (PW.pt (oX (aT rM (pcl ou ie hr rfl (ae (pv 1) (ae (pv 4) af))) (pv 7) (aS _)) (jW (dq (eN (pcl qh hW hr rfl (ae (pv 1) (ae (pv 3) (ae (pv 5) af)))))))))
     (ao (aE pU)) aO))))))
   (ao (aE (bN kF (qo (pv 1) C_Desk dH dW (hr.mono (by decide:9<=10)) dP .nil uC (ae au af)) (dz afi afE afF fz au (ae (pcl sO iJ (hr.mono (by decide:2<=10)) rfl (ae (pv 3) af)) af)) (aS _)))))))))),?_⟩
  try dsimp only [gL,Cx.nox]
  have lim:100000<=sizeLine:=by decide
  have neS:∀ z:Str,V.bl (!decide (V.str z=V.str z))=V.bl false:=fun z=>by rw [afm rfl];rfl
  obtain⟨Z0,i0,hz⟩:=zT hs;refine xV ?_;refine xB fun d wA H1 nd s1 A1=>?_;obtain⟨Td,iTd,nTd,fTd⟩:=(A1 hN Z0 (uo _) i0).foot;refine⟨_,rfl,a,0,ns,rfl,s1.seq hs,fun c=>⟨c,300,rfl,by lia,fun p H2 np s2 dk2=>?_⟩⟩;refine⟨_,rfl,p,4,rfl,dk2,by decide,fun r H3 _ _ dk3 B3=>⟨rfl,_,rfl,aae ?_⟩⟩;have iZ1:InH (Z0++Td) H1:=(i0.same s1).app iTd;have S13:Same H1 H3:=fun b u e=>B3 b u (ai e np) (s2 b u e);refine⟨_,rfl,p,8,4,Z0++Td,rfl,dk3,iZ1.same S13,by lia,by lia,by lia,fun v h H4 hv hF dk4 B4=>?_⟩;have S14:Same H1 H4:=fun b u e=>B4 b u (ai e np) (S13 b u e);obtain⟨Tv,iTv',fTv'⟩:=hv.foot;have iTv:InH Tv H4:=fun b hb=>let ⟨u,e⟩:=iTv' b hb;⟨u,(aD e).2⟩;have nTv:∀ b∈Tv,b ∉ p::(Z0++Td):=fun b hb=>let ⟨u,e⟩:=iTv' b hb;(aD e).1;have fTv:HouseAt (onl Tv H4) v h:=fTv'.same fun b u e=>bu (bB e).1 (aD (bB e).2).2;have hsV:HouseS h:=⟨hF.ok,by have:=hF.rl;lia,hF.kl,hF.wl⟩;refine⟨fun σ' H'=>∃ x4 w',σ'=[some (.ref a),some (.ref d),some (.ref p),some v,x4,none,none,none]/\Apart C hN (Z0++Tv) H' d w' h []/\∀ b∈Z0++Tv,∀ u,H4 b=some u->H' b=some u,?_,?_⟩;rotate_left
  ·refine⟨_,rfl,_,rfl,p,v,h,rfl,dk4,fTv.same (fun b u e=>aG (fun z=>nTv b (bB e).1 (by rw [ae1.mp z];exact aeX)) (bB e).2),hF.ok,hsV.rl,hF.kl,hF.wl,fun l rows H5 nl B5 dk5 e5 ro=>?_⟩;have lp:=dk4.ne nl;have nZ:∀ b∈Z0++Tv,b≠p:=fun b hb z=>by
    rcases afc.mp hb with y | y
    ·obtain⟨u,e⟩:=(i0.same s1) b y;rw [z,np] at e;cases e
    ·exact nTv b y (by rw [z];exact aeX)
   have iZ5:InH (Z0++Tv++[l]) H5:=InH.app (fun b hb=>by
    obtain⟨u,e⟩:=InH.app ((i0.same s1).same S14) iTv b hb;exact⟨u,B5 b u (nZ b hb) e⟩) fun b hb=>by rw [ae1.mp hb];exact⟨_,e5⟩
   have ap5:Apart C hN (Z0++Tv++[l]) H5 d wA (hAt h 0) []:=z6 (T:=Td) (fTd.same (gS (fun b hb u e=>B5 b u (ai e np) (S14 b u e)) fun _ h=>h)) fun b hb z=>by
    rcases afc.mp z with y | y
    ·rcases afc.mp y with x | x
     ·exact nTd b hb x
     ·exact nTv b x (aeW _ (ae8 _ hb))
    ·obtain⟨u,e⟩:=iTd b hb;have:=S14 b u e;rw [ae1.mp y,nl] at this;cases this
   refine⟨l,rfl,⟨_,aAA e5⟩,?_⟩;refine kE (xs:=rows.map V.str) (fun i σ' H'=>∃ x4 w',σ'=[some (.ref a),some (.ref d),some (.ref p),some v,x4,none,none,none]/\Apart C hN (Z0++Tv++[l]) H' d w' (hAt h i) []/\(∀ b∈Z0++Tv++[l],∀ u,H5 b=some u->H' b=some u)/\InH (Z0++Tv++[l]) H') ⟨none,wA,rfl,ap5,fun _ _ _ e=>e,iZ5⟩ (fun i σ H' _ ⟨_,_,_,_,kp,_⟩=>aAA (kp l (ae8 _ aeX) _ e5)) ?_ ?_
   ·rintro i x σ H' hx ⟨x4,w',rfl,ap,kp,iz⟩;rw [afg] at hx;obtain⟨row,erow,rfl⟩:=Option.map_eq_some_iff.mp hx;have rs:=fun (Q:VK) (E:XK) q=>aaD (C:=C) (cT:=cT) (cS:=cS) (Q:=Q) (E:=E) ap iz hsV ro erow q;refine⟨_,rfl,_,rfl,d,w',hAt h i,[],row,rfl,ap.at,(rs (fun _ _=>True) (fun _ _ _=>True) fun _ _ _ _ _=>trivial).1,(rs (zR _) (ab8 cT cS _) fun w2 H9 ap2 k2 iz2=>⟨rfl,fun HA sA=>?_⟩).2⟩;refine⟨rfl,false,neS _,km ?_⟩;exact⟨_,w2,rfl,ap2.go (fun b u _ e=>sA b u e) (fun b hb=>.inl hb),fun b hb u e=>sA b u (k2 b hb u (kp b hb u e)),iz2.same sA⟩
   ·rintro σ H' ⟨x4,w',rfl,ap,kp,iz⟩;have e:hAt h (rows.map V.str).length=h:=by
     rw [aeT,ro.len];show (h.1,h.2.take h.2.length)=h;rw [afK]
    rw [e] at ap;exact⟨x4,w',rfl,ap.go (fun b u _ e=>e) (fun b hb=>.inl (afA _ hb)),fun b hb u e=>kp b (afA _ hb) u (B5 b u (nZ b hb) e)⟩
  rintro σ' H6 ⟨x4,w',rfl,apo,k46⟩;have i0':InH Z0 H6:=fun b hb=>let ⟨u,e⟩:=((i0.same s1).same S14) b hb;⟨u,k46 b (afA _ hb) u e⟩;have iTv6:InH Tv H6:=fun b hb=>let ⟨u,e⟩:=iTv b hb;⟨u,k46 b (ae8 _ hb) u e⟩;have hz6:∀ {G:Hp},(∀ b∈Z0,∀ u,H6 b=some u->G b=some u)->SqL K G a (ns.map V.int):=fun {G} k=>(show Same (onl Z0 H) G from fun b u e=>k b (bB e).1 u (k46 b (afA _ (bB e).1) u (S14 b u (s1 b u (bB e).2)))).seq hz;refine⟨afh _,fun gA nG=>?_⟩;have s7:Same H6 (upd H6 gA (.lst [])):=aj nG;have e7:(upd H6 gA (.lst [])) gA=some (.lst (aQ [])):=ag;generalize upd H6 gA (.lst [])=H7 at *;have L7:LwI C a d Z0 H6 [some (.ref a),some (.ref d),some (.ref p),some v,x4,some (.ref gA),none,none] H7:=by
   refine⟨gA,w',v,h,[],gA::Tv,_,_,_,_,rfl,fTv.same (gS (fun b hb u e=>s7 b u (k46 b (ae8 _ hb) u e)) fun _ hb=>aeW _ hb),bu aeX e7,fun b hb=>(aeY.mp hb).elim (fun z=>by rw [z];exact⟨_,e7⟩) fun z=>(iTv6.same s7) b z,hsV,(fun j i e=>by simp at e),apo.go (fun b u _ e=>s7 b u e) (fun b hb=>?_),fun b _ u e=>s7 b u e⟩;rcases afc.mp hb with z | z
   ·rcases aeY.mp z with y | y
    ·rw [y];exact .inr nG
    ·exact .inl (ae8 _ y)
   ·exact .inl (afA _ z)
  refine⟨LwI C a d Z0 H6,?_,?_⟩
  ·rintro σ H' ⟨l,w2,v2,h2,g2,S,x2,x4,x6,x7,rfl,hh,hl,iS,hs2,go2,ap2,k2⟩;have da:=ap2.at
   obtain⟨dx,gA,v',ws,d1,_,_,_,_⟩:=ap2.at
   refine⟨_,rfl,d,dx,_,rfl,d1,rfl,d,w2,h2,g2,_,rfl,da,by decide,.shown (yi hs2) fun H8 s8=>?_⟩;refine⟨rfl,_,rfl,v2,h2,rfl,(hh.same my).same s8,hs2.l,fun l3 H9 s9 e9=>?_⟩;have ps:=rD hs2;have rl2:=hs2.rl;have n13:(bQ h2.1::h2.2.map eO).length<=13:=by rw [afn,aeT];lia
   have c2:cSe.length=2:=by decide +kernel
   refine⟨cSe,l3,_,rfl,rfl,aAA e9,by rw [c2];lia,rfl,?_⟩;show Q (.bl (decide (V.str (pV h2)=V.str (pV h2)))) H9;rw [afm rfl];exact q H9
  generalize hL:((ns.map V.int).length:Int)=L;obtain⟨m,em⟩:∃ m:Nat,(if (if (30:Int) < L then 30 else L) > 2 then (if (30:Int) < L then 30 else L) else 2)=(m:Int)/\m<=30:=by
   refine⟨((if (if (30:Int) < L then 30 else L) > 2 then (if (30:Int) < L then 30 else L) else 2):Int).toNat,?_,?_⟩<;>split<;>split<;>lia
  refine⟨_,rfl,a,_,rfl,.inl (hz6 fun b _ u e=>s7 b u e),_,30,rfl,2,_,rfl,1,(m:Int),afH (fun z=>[V.int 1,V.int z]) (by rw [hL];exact em.1),by lia,?_⟩;refine fZ (fun _ σ' H'=>LwI C a d Z0 H6 σ' H') L7 ?_ (fun σ H' z=>z);rintro i σ H' hi ⟨l,w2,v2,h2,g2,S,x2,x4,x6,x7,rfl,hh,hl,iS,hs2,go2,ap2,k2⟩;refine⟨_,rfl,_,rfl,a,1+i,ns,afH (fun z=>[V.ref a,V.int z]) (show (1+(i:Int))=((1+i:Nat):Int) by lia),hz6 k2,fun c=>⟨c,80,rfl,by lia,fun pB HB np sB dkB=>?_⟩⟩;have sBo:Same (onl S H') (onl S HB):=gS (fun b _ u e=>sB b u e) fun _ h=>h;refine⟨_,rfl,_,rfl,_,rfl,pB,l,v2,h2,g2,S,rfl,dkB,⟨iS.same sB,iS.off np,hh.same sBo,sBo _ _ hl,hs2,go2⟩,fun t l3 v3 row due h3 g3 S3 HC nt et dkC BC pS3 iS3 hh3 hl3 sub3 hs3 go3 du rl=>?_⟩;refine⟨t,_,rfl,aAB et,rfl,_,_,rfl,_,_,rfl,_,_,rfl,_,_,rfl,rfl,?_⟩;have kC:∀ b u,H' b=some u->HC b=some u:=fun b u e=>BC b u (ai e np) (sB b u e);have apC:Apart C hN (S3++Z0) HC d w2 h2 g2:=ap2.go (fun b u _ e=>kC b u e) fun b hb=>by
   rcases afc.mp hb with y | y
   ·rcases sub3 b y with z | z
    ·exact .inl (afA _ z)
    ·exact .inr (sB.free z)
   ·exact .inl (ae8 _ y)
  have iC:InH (S3++Z0) HC:=iS3.app fun b hb=>let ⟨u,e⟩:=i0' b hb;⟨u,kC b u (k2 b hb u e)⟩;refine⟨_,rfl,_,rfl,d,w2,h2,g2,row,rfl,apC.at,rl,aaO apC (uo _) iC hs2 go2 du fun w3 HD apD _ kD iD=>?_⟩;refine⟨_,rfl,rfl,false,neS _,km ?_⟩;have kDo:Same (onl S3 HC) (onl S3 HD):=gS (fun b hb u e=>kD b (afA _ hb) u e) fun _ h=>h;have hhD:=hh3.same kDo;have hlD:=kDo _ _ hl3;refine⟨_,rfl,_,rfl,_,rfl,d,w3,l3,v3,h3,g3,rfl,apD.at,hhD.same my,(bB hlD).2,hs3,go3,fun HE sE=>⟨_,rfl,lJ (fun z=>nomatch z) fun _=>?_⟩⟩;have sEo:Same (onl S3 HD) (onl S3 HE):=gS (fun b _ u e=>sE b u e) fun _ h=>h;exact⟨l3,w3,v3,h3,g3,S3,_,_,_,_,rfl,hhD.same sEo,sEo _ _ hlD,fun b hb=>(iD.same sE) b (afA _ hb),hs3,go3,apD.go (fun b u _ e=>sE b u e) (fun b hb=>.inl hb),fun b hb u e=>sE b u (kD b (ae8 _ hb) u (kC b u (k2 b hb u e)))⟩
end
abbrev bmV:List Value:=[.type "ValueError",.type "Exception",.type "BaseException",.type "object"]
def nr (es:Array DictEntry):Bool:=es.toList.all fun e=>match e.key with | .str _ _=>true | _=>false
theorem ad3 {K:PySem.W.Frag}{N:Addr}{nc:Value}{nd:Option Addr}{es:Array DictEntry}{ep:Nat}{nsl:Array (Option Value)}(y:K.lookup N=some ⟨nc,nd,.dict es ep,nsl⟩)(s:nr es=true):nsOkIn K N=true:=by
 unfold nsOkIn;rw [y];show es.all _=true;rw [← Array.all_toList];exact s
theorem ya {K:PySem.W.Frag}:tailIn K bmV bmV=true:=by
 rw [ai6];show ((bmV == bmV) || _)=true;rw [show (bmV == bmV)=true by decide,Bool.true_or]
theorem adG {h:Heap}{C:Addr}{bm:List Value}(t:OwnTail h bmV (.ref C::bm)):∃ (c0:Value) (dd:Option Addr) (cd:ClassData) (sl:Array (Option Value)) (mA:Str->Option Value),h.get? C=some { cls:=c0,dict:=dd,data:=.cls cd,slots:=sl }/\h.Ns cd.ns mA/\mA "__init__" = none/\OwnTail h bmV bm:=by
 generalize e:(Value.ref C::bm)=l at t;cases t with
 | base=>cases e
 | own a b c d=>cases e;exact⟨_,_,_,_,_,a,b,c,d⟩
section
variable {K:PySem.W.Frag}{C N:Addr}{bm:List Value}{nm q:Str}{bs:List Value}{hdct:Bool}{sn:List Str}{sub:List Value}{ab:Bool}{col:Option Bool}{dd:Option Addr}{k0 k1 k2 k3 k5:Option Value}
theorem nU (x:K.lookup C=some (excClassObj nm q C N bs bm hdct sn sub ab col dd k0 k1 k2 k3 k5 "ValueError.__new__"))(ok:nsOkIn K N=true)(i:nsIn K N "__init__" = some none)(t:tailIn K bmV bm=true):tailIn K bmV (.ref C::bm)=true:=by
 rw [ai6];simp only [x,ok,i,t];rw [show ((some none:Option (Option Value)) == some none)=true from rfl];simp
theorem b8 {c:Addr}{d:Option Addr}{cd:ClassData}{sl:Array (Option Value)}{b:Bool}(x:K.lookup C=some (excClassObj nm q C N bs bm hdct sn sub ab col dd k0 k1 k2 k3 k5 "ValueError.__new__"))(z:K.lookup c=some ⟨.type "type",d,.cls cd,sl⟩)(e:((Value.ref C == Value.ref c) || (Value.ref C::bm).contains (.ref c))=b):kitOne K (.ref C) (.ref c)=some b:=by
 unfold kitOne;cases h:(Value.ref C == Value.ref c) with
 | true=>rw [if_pos rfl];rw [h,Bool.true_or] at e;rw [e]
 | false =>
  rw [if_neg (by decide)];rw [h,Bool.false_or] at e;unfold kitCls subIn mroIn clsIn typeIn;simp only [z,x];rw [← e]
  rfl
theorem aaT {T:String}{b:Bool}(x:K.lookup C=some (excClassObj nm q C N bs bm hdct sn sub ab col dd k0 k1 k2 k3 k5 "ValueError.__new__"))(m:PySem.W.kitMeta T=true)(e:(Value.ref C::bm).contains (.type T)=b):kitOne K (.ref C) (.type T)=some b:=by
 unfold kitOne;rw [show (Value.ref C == Value.type T)=false from rfl,if_neg (by decide)];unfold kitCls subIn mroIn clsIn;simp only [x,m];rw [← e]
 rfl
theorem ac6 {h:Heap}(l:K.lookup C=some (excClassObj nm q C N bs bm hdct sn sub ab col dd k0 k1 k2 k3 k5 "ValueError.__new__"))(t:tailIn K bmV (.ref C::bm)=true)(kin:K.In h):h.get? C=some (excClassObj nm q C N bs bm hdct sn sub ab col dd k0 k1 k2 k3 k5 "ValueError.__new__")/\(∃ mA,h.Ns N mA/\mA "__init__" = none)/\OwnTail h bmV bm:=by
 have g:=kin C _ l;obtain⟨c0,d0,cd,sl,mA,g',ns,i,tl⟩:=adG (tail_of_in kin t);rw [g] at g';cases g';exact⟨g,⟨mA,ns,i⟩,tl⟩
theorem yp {nc:Value}{nd:Option Addr}{es:Array DictEntry}{ep:Nat}{nsl:Array (Option Value)}(l:K.lookup C=some (excClassObj nm q C N bs bm hdct sn sub ab col dd k0 k1 k2 k3 k5 "ValueError.__new__"))(lN:K.lookup N=some ⟨nc,nd,.dict es ep,nsl⟩)(t:tailIn K bmV (.ref C::bm)=true)(b:bm.contains (.type "BaseException")=true):pq K C bm:=by
 refine⟨nm,q,N,bs,bmV,hdct,sn,sub,ab,col,dd,k0,k1,k2,k3,k5,"ValueError","ValueError","ValueError.__new__","ValueError.__new__","ValueError.__init__","ValueError.__init__",bmV,(fun n=>if n = "__init__" then none else nsFind es n),ags,by decide,ags,b,if_pos rfl,fun h kin=>?_⟩;obtain⟨g,⟨mA,⟨o,es',ep',g1,g2,g3,g4⟩,i⟩,tl⟩:=ac6 l t kin;refine⟨g,⟨o,es',ep',g1,g2,g3,fun n=>?_⟩,tl⟩;have:=kin N _ lN;rw [g1] at this;cases this;cases g2;show nsFind es n=if n = "__init__" then none else nsFind es n
 by_cases e:n = "__init__"
 ·rw [if_pos e,e];exact (g4 _).trans i
 ·rw [if_neg e]
theorem yK {cK NK:Addr}{nmK qK:Str}{bsK:List Value}{hdctK:Bool}{snK:List Str}{subK:List Value}{abK:Bool}{colK:Option Bool}{ddK:Option Addr}{j0 j1 j2 j3 j5:Option Value}(l:K.lookup C=some (excClassObj nm q C N bs (.ref cK::bmV) hdct sn sub ab col dd k0 k1 k2 k3 k5 "ValueError.__new__"))
 (lK:K.lookup cK=some (excClassObj nmK qK cK NK bsK bmV hdctK snK subK abK colK ddK j0 j1 j2 j3 j5 "ValueError.__new__"))(tK:tailIn K bmV (.ref cK::bmV)=true)(i0:nsIn K NK "__init__" = some none)(i1:nsIn K NK "__getattribute__" = some none)(i2:nsIn K NK "__getattr__" = some none)(i3:nsIn K NK "args" = some none)
 (ga:findIn K (.ref C) "__getattribute__" = some (some (.builtin "BaseException.__getattribute__")))(gt:findIn K (.ref C) "__getattr__" = some none)(cl:findIn K (.ref C) "__class__" = some (some (.builtin "object.__class__")))(sp:specialIn K (.builtin "object.__class__") "__get__" = some (some (.builtin "getset_descriptor.__get__")))(tk:takesIn K (.builtin "object.__class__")=some true)(ob:(Value.ref cK::bmV).contains (.type "object")=true):k7 K C (.ref cK::bmV):=by
 refine⟨ga,gt,cl,sp,tk,ob,nm,q,N,bs,bmV,hdct,sn,sub,ab,col,dd,k0,k1,k2,k3,k5,"ValueError","ValueError.__new__",PySem.F.attrBase_ValueError,fun h kin=>⟨kin C _ l,?_⟩⟩;obtain⟨g,⟨mA,ns,i⟩,_⟩:=ac6 lK tK kin;exact .own (cd:={ name:=nmK,bases:=bsK,mro:=.ref cK::bmV,ns:=NK,qualname:=_,hasDict:=hdctK,slotNames:=snK,subclasses:=subK,abstract:=abK,collection:=colK }) g ns (fun n hn=>PySem.W.ns_none_of kin ns (by simp only [quietNames,aeY,afL,ahc] at hn;rcases hn with rfl | rfl | rfl | rfl<;>assumption)) .base
end
theorem aem {K:PySem.W.Frag}{C c0 c1 c2 c3:Addr}(a0:kitOne K (.ref C) (.ref c0)=some false)(a1:kitOne K (.ref C) (.ref c1)=some false)(a2:kitOne K (.ref C) (.ref c2)=some false)(a3:kitOne K (.ref C) (.ref c3)=some false):kitAny K (.ref C) ([c0,c1,c2,c3].map Value.ref)=some false:=by
 simp only [afl,List.map_nil,kitAny,a0,a1,a2,a3]
theorem aen {K:PySem.W.Frag}{C c0 c1 c2 c3 c4:Addr}{j:Nat}(a0:kitOne K (.ref C) (.ref c0)=some (decide (0=j)))(a1:kitOne K (.ref C) (.ref c1)=some (decide (1=j)))(a2:kitOne K (.ref C) (.ref c2)=some (decide (2=j)))(a3:kitOne K (.ref C) (.ref c3)=some (decide (3=j)))(a4:kitOne K (.ref C) (.ref c4)=some (decide (4=j))):∀ i c,([c0,c1,c2,c3,c4]:List Addr)[i]? = some c->kitOne K (.ref C) (.ref c)=some (decide (i=j)):=by
 intro i c e
 match i,e with
 | 0,e=>cases e;exact a0
 | 1,e=>cases e;exact a1
 | 2,e=>cases e;exact a2
 | 3,e=>cases e;exact a3
 | 4,e=>cases e;exact a4
 | n+5,e=>simp at e
theorem adf {K:PySem.W.Frag}{C N f cK:Addr}{nm q:Str}{bs:List Value}{sn:List Str}{sub:List Value}{ab:Bool}{col:Option Bool}{dd od:Option Addr}{k0 k1 k2 k3 k5:Option Value}{nc:Value}{nd:Option Addr}{es:Array DictEntry}{ep:Nat}{nsl sl:Array (Option Value)}{da:Data}(l:K.lookup C=some (excClassObj nm q C N bs (.ref cK::bmV) true sn sub ab col dd k0 k1 k2 k3 k5 "ValueError.__new__"))(lN:K.lookup N=some ⟨nc,nd,.dict es ep,nsl⟩)(st:nr es=true)(i:nsIn K N "__init__" = some (some (.ref f)))(t:tailIn K bmV (.ref cK::bmV)=true)(kp:keepIn K (.ref C)=true)(sa:findIn K (.ref C) "__setattr__" = some (some (.builtin "object.__setattr__")))(lf:K.lookup f=some ⟨.type "function",od,da,sl⟩):kT K C f (.ref cK::bmV):=by
 refine⟨kp,sa,by simp [bmV],by simp [bmV],fun prog w A E s Q e oe kin he hc q=>?_,nm,q,N,bs,bmV,sn,sub,ab,col,dd,k0,k1,k2,k3,k5,"ValueError","ValueError","ValueError.__new__","ValueError.__new__","ValueError.__init__",bmV,nsFind es,_,ags,by decide,ags,?_,rfl,fun h kin=>⟨kin C _ l,⟨_,es,ep,kin N _ lN,rfl,?_,fun _=>rfl⟩,tail_of_in kin t,kin f _ lf⟩⟩
 ·rw [PySem.refuse_eq];refine aeU (afQ he ?_);rw [hc];refine aeU ?_;unfold mroOf classData;refine aeU (aeU (wpAny_load' (kin C _ l) ?_));refine ae3 (ae3 ?_);dsimp only;rw [PySem.refuseLoop_ref,PySem.refuseLoop_ref,PySem.F.store_ValueError.passes];exact ae3 q
 ·unfold nsIn at i;rw [lN] at i;dsimp only at i;unfold nsFind findBy;rw [← Array.find?_toList];split at i
  ·rename_i en he;rw [he];exact afP i
  ·split at i<;>cases i
 ·intro e he;unfold nr at st;have:=agf.mp st e (ahR.mpr he)
  revert this
  cases e.key<;>simp
def EntOk (w:World):List DictEntry->List (Key×V)->Prop
 | [],[]=>True
 | e::es,kv::kvs=>(ud kv.1 e.key=true/\e.hash=aev w kv.1/\RelV kv.2 e.val)/\EntOk w es kvs
 | _,_=>False
theorem EntOk.pairs {P:Program}{w:World}:∀ {es:List DictEntry} {kvs:List (Key×V)},EntOk w es kvs->∃ vs,KV kvs vs/\Pairs (gD P w) es vs/\vs.map (·.1)=kvs.map (·.1)/\∀ e∈es,∃ k,(gD P w).is k e.key=true/\e.hash=(gD P w).hash k
 | [],[],_=>⟨[],.nil,.nil,rfl,fun _ h=>nomatch h⟩
 | e::es,kv::kvs,⟨⟨h1,h2,h3⟩,h4⟩=>by
  obtain⟨vs,a,b,c,d⟩:=EntOk.pairs (P:=P) h4;refine⟨(kv.1,e.val)::vs,.cons ⟨rfl,h3⟩ a,.cons h1 rfl b,by rw [afl,afl,c],fun e' he=>?_⟩;rcases aeY.mp he with rfl | he
  ·exact⟨kv.1,h1,h2⟩
  ·exact d e' he
 | [],_::_,h=>h.elim
 | _::_,[],h=>h.elim
theorem vw {P:Program}{w:World}{K:PySem.W.Frag}{d:Addr}{ep:Nat}{es:Array DictEntry}{kvs:List (Key×V)}(l:K.lookup d=some ⟨.type "dict",none,.dict es ep,#[]⟩)(lo:(d == sysModules)=false)(E:EntOk w es.toList kvs)(nd:(kvs.map (·.1)).Nodup):rP P w K d kvs:=by
 obtain⟨vs,a,b,c,d'⟩:=EntOk.pairs (P:=P) E;exact⟨lo,vs,a,fun h kin=>⟨_,es,ep,kin d _ l,⟨rfl,rfl,rfl⟩,rfl,fun e he=>d' e (ahR.mpr he),b,by rw [c];exact nd⟩⟩
theorem aaq {f0 f1 f2 f3 f4 f5 f6 f7 f8 f9 fa fb fc:Addr}:((cF f0 f1 f2 f3 f4 f5 f6 f7 f8 f9 fa fb fc).map (·.1)).Nodup:=by
 show List.Nodup ([.inr "back",.inr "new",.inr "hand",.inr "next",.inr "gone",.inr "all",.inr "first",.inr "buy",.inr "orders",.inr "most",.inr "best",.inr "show",.inr "rooms"]:List Key);decide +kernel
theorem aco {g0 g1 g2 g3 g4:Addr}:((lz g0 g1 g2 g3 g4).map (·.1)).Nodup:=by
 show List.Nodup ([.inr "keys",.inr "room",.inr "worth",.inr "open",.inr "nth"]:List Key);decide +kernel
structure Has (K:PySem.W.Frag)(x:Str)(st:Stmt)(f:Addr)(fd:FuncData):Prop where
 a:nsIn K mainGlobals x=some (some (.ref f))
 F:Fun K x x st f fd
theorem Has.c1 {K:PySem.W.Frag}{h:Heap}{mg:Str->Option Value}{n:Str}{st:Stmt}{f:Addr}{fd:FuncData}{p0:Str}(H:Has K n st f fd)(X:K.In h)(G:h.Ns mainGlobals mg)(b:∀ (kV doc pm:Value) (an:Option Addr) (cdv ct x:Value),bindArgs (fnOf n n (eU st) (b9 st) (ak st) .none kV doc pm an cdv ct) ⟨[x],[]⟩=pure [(p0,x)]):Cal K mg n [p0] f fd :=
 ⟨afw X G H.a,H.F.kp,H.F.binds fun kV doc pm an cdv ct us hl=>match us,hl with | [x],_=>b kV doc pm an cdv ct x⟩
theorem Has.c2 {K:PySem.W.Frag}{h:Heap}{mg:Str->Option Value}{n:Str}{st:Stmt}{f:Addr}{fd:FuncData}{p0 p1:Str}(H:Has K n st f fd)(X:K.In h)(G:h.Ns mainGlobals mg)(b:∀ (kV doc pm:Value) (an:Option Addr) (cdv ct x y:Value),bindArgs (fnOf n n (eU st) (b9 st) (ak st) .none kV doc pm an cdv ct) ⟨[x,y],[]⟩=pure [(p0,x),(p1,y)]):Cal K mg n [p0,p1] f fd :=
 ⟨afw X G H.a,H.F.kp,H.F.binds fun kV doc pm an cdv ct us hl=>match us,hl with | [x,y],_=>b kV doc pm an cdv ct x y⟩
theorem Has.c3 {K:PySem.W.Frag}{h:Heap}{mg:Str->Option Value}{n:Str}{st:Stmt}{f:Addr}{fd:FuncData}{p0 p1 p2:Str}(H:Has K n st f fd)(X:K.In h)(G:h.Ns mainGlobals mg)(b:∀ (kV doc pm:Value) (an:Option Addr) (cdv ct x y z:Value),bindArgs (fnOf n n (eU st) (b9 st) (ak st) .none kV doc pm an cdv ct) ⟨[x,y,z],[]⟩=pure [(p0,x),(p1,y),(p2,z)]):Cal K mg n [p0,p1,p2] f fd :=
 ⟨afw X G H.a,H.F.kp,H.F.binds fun kV doc pm an cdv ct us hl=>match us,hl with | [x,y,z],_=>b kV doc pm an cdv ct x y z⟩
theorem Has.c4 {K:PySem.W.Frag}{h:Heap}{mg:Str->Option Value}{n:Str}{st:Stmt}{f:Addr}{fd:FuncData}{p0 p1 p2 p3:Str}(H:Has K n st f fd)(X:K.In h)(G:h.Ns mainGlobals mg)(b:∀ (kV doc pm:Value) (an:Option Addr) (cdv ct x y z t:Value),bindArgs (fnOf n n (eU st) (b9 st) (ak st) .none kV doc pm an cdv ct) ⟨[x,y,z,t],[]⟩=pure [(p0,x),(p1,y),(p2,z),(p3,t)]):Cal K mg n [p0,p1,p2,p3] f fd :=
 ⟨afw X G H.a,H.F.kp,H.F.binds fun kV doc pm an cdv ct us hl=>match us,hl with | [x,y,z,t],_=>b kV doc pm an cdv ct x y z t⟩
set_option autoImplicit true in
theorem all_mk {l:PySem.W.OpenLaw}{w:World}{K:PySem.W.Frag}{h:Heap}{mg:Str->Option Value}{fa:Addr}(X:K.In h)(G:h.Ns mainGlobals mg)(hfa:mg "law" = some (.ref fa))
 (pL:Has K "is_whole" j6 f_is_whole d_is_whole)
 (rS:Has K "is_kind" sH f_is_kind d_is_kind)
 (om:Has K "are_kinds" oh f_are_kinds d_are_kinds)
 (mR:Has K "are_locks" yz f_are_locks d_are_locks)
 (qN:Has K "is_room" ab7 f_is_room d_is_room)
 (pz:Has K "is_house" mM f_is_house d_is_house)
 (i8:Has K "require_house" adQ f_require_house d_require_house)
 (uR:Has K "serves" kq f_serves d_serves)
 (kO:Has K "hand_behind" gE f_hand_behind d_hand_behind)
 (si:Has K "is_step" lu f_is_step d_is_step)
 (jo:Has K "hand_after" fh f_hand_after d_hand_after)
 (iB:Has K "keys_behind" d9 f_keys_behind d_keys_behind)
 (lP:Has K "next_rooms" eZ f_next_rooms d_next_rooms)
 (mO:Has K "show_keys" ji f_show_keys d_show_keys)
 (mP:Has K "show_room" iV f_show_room d_show_room)
 (lI:Has K "show_house" eX f_show_house d_show_house)
 (ma:Has K "split_keys" iF f_split_keys d_split_keys)
 (m9:Has K "is_number" gi f_is_number d_is_number)
 (jS:Has K "read_numbers" cj f_read_numbers d_read_numbers)
 (m7:Has K "read_keys" jq f_read_keys d_read_keys)
 (lX:Has K "read_locks" iE f_read_locks d_read_locks)
 (jO:Has K "show_numbers" dj f_show_numbers d_show_numbers)
 (pC:Has K "put_keys" kn f_put_keys d_put_keys)
 (pO:Has K "put_room" kg f_put_room d_put_room)
 (oK:Has K "put_worth" i9 f_put_worth d_put_worth)
 (mV:Has K "open_room" jv f_open_room d_open_room)
 (rY:Has K "go_back" lD f_go_back d_go_back)
 (pf:Has K "put_anew" kh f_put_anew d_put_anew)
 (mG:Has K "tell_hand" ja f_tell_hand d_tell_hand)
 (mT:Has K "tell_next" jd f_tell_next d_tell_next)
 (mQ:Has K "tell_gone" jn f_tell_gone d_tell_gone)
 (oA:Has K "tell_show" jc f_tell_show d_tell_show)
 (lT:Has K "tell_rooms" iq f_tell_rooms d_tell_rooms)
 (jP:Has K "_law_cell_at" fw f__law_cell_at d__law_cell_at)
 (jN:Has K "_law_numbers" fM f__law_numbers d__law_numbers)
 (oG:Has K "_law_deck" i6 f__law_deck d__law_deck)
 (oz:Has K "_law_take" iM f__law_take d__law_take)
 (nV:Has K "_law_kind" ju f__law_kind d__law_kind)
 (nJ:Has K "_law_keys" gm f__law_keys d__law_keys)
 (lV:Has K "_law_house" fk f__law_house d__law_house)
 (fJ:Has K "_law_keys_written" cD f__law_keys_written d__law_keys_written)
 (lF:Has K "_law_lines" ij f__law_lines d__law_lines)
 (ny:Has K "_law_hand" iL f__law_hand d__law_hand)
 (oa:Has K "_law_next" gq f__law_next d__law_next)
 (lL:Has K "_law_words" fj f__law_words d__law_words)
 (nA:Has K "_law_said" iY f__law_said d__law_said)
 (gP:Has K "_law_house_rows" dv f__law_house_rows d__law_house_rows)
 (gM:Has K "_law_good_house" bL f__law_good_house d__law_good_house)
 (pK:Has K "_law_row" jX f__law_row d__law_row)
 (kI:Has K "_law_stands" gC f__law_stands d__law_stands)
 (aC:nsIn K mainGlobals "Desk" = some (some (.ref C)))
 (ainit:findIn K (.ref C) "__init__" = some (some (.ref finit)))
 (iinit:isFn K (.ref finit)=true)
 (Finit:Fun K "__init__" "Desk.__init__" iN finit dinit)
 (abegin:findIn K (.ref C) "begin" = some (some (.ref fbegin)))
 (ibegin:isFn K (.ref fbegin)=true)
 (Fbegin:Fun K "begin" "Desk.begin" gZ fbegin dbegin)
 (asay:findIn K (.ref C) "say" = some (some (.ref fsay)))
 (isay:isFn K (.ref fsay)=true)
 (Fsay:Fun K "say" "Desk.say" dJ fsay dsay)
 (pg:plainGet K C Str.empty=true)
 (hd:hasDictIn K C=true)
 (po:plainOver K C=true)
 (sa:findIn K (.ref C) "__setattr__" = some (some (.builtin "object.__setattr__")))
 (mk:makesIn K C=true)
 (kc:keepIn K (.ref C)=true)
 (n1:findIn K (.ref C) "house" = some none)
 (n2:findIn K (.ref C) "worths" = some none)
 (n3:findIn K (.ref C) "gone" = some none)
 (as:nsIn K mainGlobals "require_small" = some (some (.ref fs9)))
 (Fs:FunD K "require_small" "require_small" cQ Ts9 fs9 ds9)
 (ts:K.lookup Ts9=some ⟨ots9,ods9,.seq #[.int 12 tk9] ns9,sls9⟩)
 (al:nsIn K mainGlobals "law" = some (some (.ref fl9)))
 (Fl:Fun K "law" "law" wQ fl9 dl9)
 (bl:∀ (s:Shared) (v:Value),BindsTo s dl9 ⟨[v],[]⟩ [("script",v)])
 (g_LETTERS:nsIn K mainGlobals "LETTERS" = some (some (.str lettersS t_LETTERS)))
 (g_MOST_LETTERS:nsIn K mainGlobals "MOST_LETTERS" = some (some (.int 4 t_MOST_LETTERS)))
 (g_MOST_LOCKS:nsIn K mainGlobals "MOST_LOCKS" = some (some (.int 4 t_MOST_LOCKS)))
 (g_FIGURES:nsIn K mainGlobals "FIGURES" = some (some (.str figS t_FIGURES)))
 (g_MOST_FIGURES:nsIn K mainGlobals "MOST_FIGURES" = some (some (.int 9 t_MOST_FIGURES)))
 (z_isinstance:nsIn K mainGlobals "isinstance" = some none)
 (z_str:nsIn K mainGlobals "str" = some none)
 (z_len:nsIn K mainGlobals "len" = some none)
 (z_all:nsIn K mainGlobals "all" = some none)
 (z_list:nsIn K mainGlobals "list" = some none)
 (z_tuple:nsIn K mainGlobals "tuple" = some none)
 (z_sorted:nsIn K mainGlobals "sorted" = some none)
 (z_range:nsIn K mainGlobals "range" = some none)
 (z_min:nsIn K mainGlobals "min" = some none)
 (z_max:nsIn K mainGlobals "max" = some none)
 (z_int:nsIn K mainGlobals "int" = some none)
 (z_bool:nsIn K mainGlobals "bool" = some none)
 (z_enumerate:nsIn K mainGlobals "enumerate" = some none)
 (z_ValueError:nsIn K mainGlobals "ValueError" = some none)
 (n_H:nsIn K mainGlobals "NoHouse" = some (some (.ref cH)))
 (n_P:nsIn K mainGlobals "NoPlain" = some (some (.ref cP)))
 (n_S:nsIn K mainGlobals "NoStep" = some (some (.ref cS)))
 (n_T:nsIn K mainGlobals "TooMany" = some (some (.ref cT)))
 (n_O:nsIn K mainGlobals "NoOrder" = some (some (.ref cO)))
 (n_N:nsIn K mainGlobals "NoNumber" = some (some (.ref cN)))
 (n_I:nsIn K mainGlobals "NoKind" = some (some (.ref cI)))
 (n_X:nsIn K mainGlobals "NoText" = some (some (.ref cX)))
 (n_R:nsIn K mainGlobals "NoRow" = some (some (.ref cR)))
 (n_K:nsIn K mainGlobals "KeyroomError" = some (some (.ref cK)))
 (x_K:K.lookup cK=some (excClassObj nmK qnK cK NK bsK bmV hdK snK sbK abK coK ddK kaK kbK kcK kdK keK "ValueError.__new__"))
 (y_K:K.lookup NK=some ⟨ncK,ndK,.dict esK epK,nsK⟩)
 (s_K:nr esK=true)
 (i_K0:nsIn K NK "__init__" = some none)
 (i_K1:nsIn K NK "__getattribute__" = some none)
 (i_K2:nsIn K NK "__getattr__" = some none)
 (i_K3:nsIn K NK "args" = some none)
 (v_K:List.contains (bmV) (.type "BaseException")=true)
 (x_T:K.lookup cT=some (excClassObj nmT qnT cT NT bsT (.ref cK::bmV) hdT snT sbT abT coT ddT kaT kbT kcT kdT keT "ValueError.__new__"))
 (y_T:K.lookup NT=some ⟨ncT,ndT,.dict esT epT,nsT⟩)
 (s_T:nr esT=true)
 (i_T0:nsIn K NT "__init__" = some none)
 (v_T:List.contains (Value.ref cK::bmV) (.type "BaseException")=true)
 (x_R:K.lookup cR=some (excClassObj nmR qnR cR NR bsR (.ref cK::bmV) hdR snR sbR abR coR ddR kaR kbR kcR kdR keR "ValueError.__new__"))
 (y_R:K.lookup NR=some ⟨ncR,ndR,.dict esR epR,nsR⟩)
 (s_R:nr esR=true)
 (i_R0:nsIn K NR "__init__" = some none)
 (v_R:List.contains (Value.ref cK::bmV) (.type "BaseException")=true)
 (x_S:K.lookup cS=some (excClassObj nmS qnS cS NS bsS (.ref cK::bmV) true snS sbS abS coS ddS kaS kbS kcS kdS keS "ValueError.__new__"))
 (y_S:K.lookup NS=some ⟨ncS,ndS,.dict esS epS,nsS⟩)
 (s_S:nr esS=true)
 (iS:nsIn K NS "__init__" = some (some (.ref fS9)))
 (kS:keepIn K (.ref cS)=true)
 (saS:findIn K (.ref cS) "__setattr__" = some (some (.builtin "object.__setattr__")))
 (naS:findIn K (.ref cS) "at" = some none)
 (lS:K.lookup fS9=some ⟨.type "function",odS9,.func (fnOf "__init__" "NoStep.__init__" (eU b5) (b9 b5) (ak b5) .none kVS9 dcS9 pmS9 anS9 cdS9 ctS9),slS9⟩)
 (cS9:codeIn K cdS9 "NoStep.__init__" = true)
 (kS9:keepIn K (.ref fS9)=true)
 (z_H:K.lookup cH=some ⟨.type "type",zdH,.cls zcH,zsH⟩)
 (z_P:K.lookup cP=some ⟨.type "type",zdP,.cls zcP,zsP⟩)
 (z_S:K.lookup cS=some ⟨.type "type",zdS,.cls zcS,zsS⟩)
 (z_T:K.lookup cT=some ⟨.type "type",zdT,.cls zcT,zsT⟩)
 (z_O:K.lookup cO=some ⟨.type "type",zdO,.cls zcO,zsO⟩)
 (z_N:K.lookup cN=some ⟨.type "type",zdN,.cls zcN,zsN⟩)
 (z_I:K.lookup cI=some ⟨.type "type",zdI,.cls zcI,zsI⟩)
 (z_X:K.lookup cX=some ⟨.type "type",zdX,.cls zcX,zsX⟩)
 (z_R:K.lookup cR=some ⟨.type "type",zdR,.cls zcR,zsR⟩)
 (w_TH:((Value.ref cT == Value.ref cH) || (Value.ref cT::.ref cK::bmV).contains (.ref cH))=false)
 (w_TP:((Value.ref cT == Value.ref cP) || (Value.ref cT::.ref cK::bmV).contains (.ref cP))=false)
 (w_TS:((Value.ref cT == Value.ref cS) || (Value.ref cT::.ref cK::bmV).contains (.ref cS))=false)
 (w_TT:((Value.ref cT == Value.ref cT) || (Value.ref cT::.ref cK::bmV).contains (.ref cT))=true)
 (w_TO:((Value.ref cT == Value.ref cO) || (Value.ref cT::.ref cK::bmV).contains (.ref cO))=false)
 (w_TN:((Value.ref cT == Value.ref cN) || (Value.ref cT::.ref cK::bmV).contains (.ref cN))=false)
 (w_TI:((Value.ref cT == Value.ref cI) || (Value.ref cT::.ref cK::bmV).contains (.ref cI))=false)
 (w_TX:((Value.ref cT == Value.ref cX) || (Value.ref cT::.ref cK::bmV).contains (.ref cX))=false)
 (w_TR:((Value.ref cT == Value.ref cR) || (Value.ref cT::.ref cK::bmV).contains (.ref cR))=false)
 (w_Te:List.contains (Value.ref cT::.ref cK::bmV) (.type "ValueError")=true)
 (p_T1:findIn K (.ref cT) "__getattribute__" = some (some (.builtin "BaseException.__getattribute__")))
 (p_T2:findIn K (.ref cT) "__getattr__" = some none)
 (p_T3:findIn K (.ref cT) "__class__" = some (some (.builtin "object.__class__")))
 (u_T:List.contains (Value.ref cT::.ref cK::bmV) (.ref cK)=true)
 (w_SH:((Value.ref cS == Value.ref cH) || (Value.ref cS::.ref cK::bmV).contains (.ref cH))=false)
 (w_SP:((Value.ref cS == Value.ref cP) || (Value.ref cS::.ref cK::bmV).contains (.ref cP))=false)
 (w_SS:((Value.ref cS == Value.ref cS) || (Value.ref cS::.ref cK::bmV).contains (.ref cS))=true)
 (w_ST:((Value.ref cS == Value.ref cT) || (Value.ref cS::.ref cK::bmV).contains (.ref cT))=false)
 (w_SO:((Value.ref cS == Value.ref cO) || (Value.ref cS::.ref cK::bmV).contains (.ref cO))=false)
 (w_SN:((Value.ref cS == Value.ref cN) || (Value.ref cS::.ref cK::bmV).contains (.ref cN))=false)
 (w_SI:((Value.ref cS == Value.ref cI) || (Value.ref cS::.ref cK::bmV).contains (.ref cI))=false)
 (w_SX:((Value.ref cS == Value.ref cX) || (Value.ref cS::.ref cK::bmV).contains (.ref cX))=false)
 (w_SR:((Value.ref cS == Value.ref cR) || (Value.ref cS::.ref cK::bmV).contains (.ref cR))=false)
 (w_Se:List.contains (Value.ref cS::.ref cK::bmV) (.type "ValueError")=true)
 (p_S1:findIn K (.ref cS) "__getattribute__" = some (some (.builtin "BaseException.__getattribute__")))
 (p_S2:findIn K (.ref cS) "__getattr__" = some none)
 (p_S3:findIn K (.ref cS) "__class__" = some (some (.builtin "object.__class__")))
 (u_S:List.contains (Value.ref cS::.ref cK::bmV) (.ref cK)=true)
 (p_1:specialIn K (.builtin "object.__class__") "__get__" = some (some (.builtin "getset_descriptor.__get__")))
 (p_2:takesIn K (.builtin "object.__class__")=some true)
 (p_3:List.contains (Value.ref cK::bmV) (.type "object")=true)
 (q_1:specialIn K (.ref cK) "__getattribute__" = some (some (.builtin "type.__getattribute__")))
 (q_2:readsIn K cK (.type "type")=true)
 (q_3:findCls K (.ref cK) (.type "type") "__init__" = some (.val (.builtin "ValueError.__init__")))
 (aSh:nsIn K mainGlobals "SHORT_ROWS" = some (some (.ref dS)))
 (lSh:K.lookup dS=some ⟨.type "dict",none,.dict esSh epSh,#[]⟩)
 (oSh:(dS == sysModules)=false)
 (eSh:EntOk w esSh.toList (cF f_go_back f_put_anew f_tell_hand f_tell_next f_tell_gone f5 f6 f7 f8 f9 fa9 f_tell_show f_tell_rooms))
 (aLo:nsIn K mainGlobals "LONG_ROWS" = some (some (.ref dL)))
 (lLo:K.lookup dL=some ⟨.type "dict",none,.dict esLo epLo,#[]⟩)
 (oLo:(dL == sysModules)=false)
 (eLo:EntOk w esLo.toList (lz f_put_keys f_put_room f_put_worth f_open_room g4))
 : ∃ fd:FuncData,(∀ (s:Shared) (v:Value),BindsTo s fd ⟨[v],[]⟩ [("script",v)])/\∀ base:Heap,K.In base->base.Ns mainGlobals mg->FnOk l.prog w K mg base CX0 11 fa fd ["script"] (aaN K):=by
 have e:=hfa.symm.trans (afw X G al);cases e;have k9:=pL.c1 (p0 := "thing") X G fun _ _ _ _ _ _ _=>rfl;have yk:=rS.c1 (p0 := "thing") X G fun _ _ _ _ _ _ _=>rfl;have dN:=om.c1 (p0 := "thing") X G fun _ _ _ _ _ _ _=>rfl;have hJ:=mR.c1 (p0 := "thing") X G fun _ _ _ _ _ _ _=>rfl;have xu:=qN.c1 (p0 := "thing") X G fun _ _ _ _ _ _ _=>rfl;have wc:=pz.c1 (p0 := "thing") X G fun _ _ _ _ _ _ _=>rfl;have aK:=i8.c1 (p0 := "thing") X G fun _ _ _ _ _ _ _=>rfl;have p7:=uR.c2 (p0 := "hand") (p1 := "locks") X G fun _ _ _ _ _ _ _ _=>rfl;have cB:=kO.c2 (p0 := "hand") (p1 := "room") X G fun _ _ _ _ _ _ _ _=>rfl;have dC:=si.c4 (p0 := "rooms") (p1 := "hand") (p2 := "gone") (p3 := "number") X G fun _ _ _ _ _ _ _ _ _ _=>rfl;have bx:=jo.c2 (p0 := "house") (p1 := "order") X G fun _ _ _ _ _ _ _ _=>rfl;have bK:=iB.c2 (p0 := "house") (p1 := "order") X G fun _ _ _ _ _ _ _ _=>rfl;have jf:=lP.c2 (p0 := "house") (p1 := "order") X G fun _ _ _ _ _ _ _ _=>rfl;have bV:=mO.c1 (p0 := "keys") X G fun _ _ _ _ _ _ _=>rfl;have j7:=mP.c1 (p0 := "room") X G fun _ _ _ _ _ _ _=>rfl;have eP:=lI.c1 (p0 := "house") X G fun _ _ _ _ _ _ _=>rfl;have jk:=ma.c1 (p0 := "text") X G fun _ _ _ _ _ _ _=>rfl;have j8:=m9.c1 (p0 := "word") X G fun _ _ _ _ _ _ _=>rfl;have b7:=jS.c2 (p0 := "text") (p1 := "many") X G fun _ _ _ _ _ _ _ _=>rfl;have d5:=m7.c1 (p0 := "text") X G fun _ _ _ _ _ _ _=>rfl;have jl:=lX.c1 (p0 := "text") X G fun _ _ _ _ _ _ _=>rfl;have b6:=jO.c1 (p0 := "numbers") X G fun _ _ _ _ _ _ _=>rfl;have vL:=pC.c2 (p0 := "desk") (p1 := "rest") X G fun _ _ _ _ _ _ _ _=>rfl;have wI:=pO.c2 (p0 := "desk") (p1 := "rest") X G fun _ _ _ _ _ _ _ _=>rfl;have tO:=oK.c2 (p0 := "desk") (p1 := "rest") X G fun _ _ _ _ _ _ _ _=>rfl;have uj:=mV.c2 (p0 := "desk") (p1 := "rest") X G fun _ _ _ _ _ _ _ _=>rfl;have wU:=rY.c1 (p0 := "desk") X G fun _ _ _ _ _ _ _=>rfl;have vP:=pf.c1 (p0 := "desk") X G fun _ _ _ _ _ _ _=>rfl;have tP:=mG.c1 (p0 := "desk") X G fun _ _ _ _ _ _ _=>rfl;have uc:=mT.c1 (p0 := "desk") X G fun _ _ _ _ _ _ _=>rfl;have tM:=mQ.c1 (p0 := "desk") X G fun _ _ _ _ _ _ _=>rfl;have ub:=oA.c1 (p0 := "desk") X G fun _ _ _ _ _ _ _=>rfl;have qR:=lT.c1 (p0 := "desk") X G fun _ _ _ _ _ _ _=>rfl;have eg:=jP.c2 (p0 := "script") (p1 := "k") X G fun _ _ _ _ _ _ _ _=>rfl;have gF:=jN.c2 (p0 := "cell") (p1 := "many") X G fun _ _ _ _ _ _ _ _=>rfl;have iu:=oG.c2 (p0 := "cell") (p1 := "many") X G fun _ _ _ _ _ _ _ _=>rfl;have ar:=oz.c2 (p0 := "deck") (p1 := "many") X G fun _ _ _ _ _ _ _ _=>rfl;have bh:=nV.c2 (p0 := "deck") (p1 := "few") X G fun _ _ _ _ _ _ _ _=>rfl;have bG:=nJ.c3 (p0 := "deck") (p1 := "few") (p2 := "most") X G fun _ _ _ _ _ _ _ _ _=>rfl;have iW:=lV.c3 (p0 := "deck") (p1 := "most") (p2 := "locks") X G fun _ _ _ _ _ _ _ _ _=>rfl;have aY:=fJ.c1 (p0 := "keys") X G fun _ _ _ _ _ _ _=>rfl;have iJ:=lF.c1 (p0 := "house") X G fun _ _ _ _ _ _ _=>rfl;have dM:=ny.c2 (p0 := "house") (p1 := "order") X G fun _ _ _ _ _ _ _ _=>rfl;have dI:=oa.c2 (p0 := "house") (p1 := "order") X G fun _ _ _ _ _ _ _ _=>rfl;have gu:=lL.c1 (p0 := "things") X G fun _ _ _ _ _ _ _=>rfl;have ie:=nA.c2 (p0 := "desk") (p1 := "row") X G fun _ _ _ _ _ _ _ _=>rfl;have bo:=gP.c2 (p0 := "deck") (p1 := "house") X G fun _ _ _ _ _ _ _ _=>rfl;have dO:=gM.c3 (p0 := "deck") (p1 := "most") (p2 := "locks") X G fun _ _ _ _ _ _ _ _ _=>rfl;have ly:=pK.c3 (p0 := "deck") (p1 := "house") (p2 := "gone") X G fun _ _ _ _ _ _ _ _ _=>rfl;have hW:=kI.c3 (p0 := "desk") (p1 := "house") (p2 := "gone") X G fun _ _ _ _ _ _ _ _ _=>rfl;have binit:=Finit.binds (ps:=["self"]) fun _ _ _ _ _ _ us hl=>match us,hl with | [_],_=>rfl
 have bbegin:=Fbegin.binds (ps:=["self"]) fun _ _ _ _ _ _ us hl=>match us,hl with | [_],_=>rfl
 have bsay:=Fsay.binds (ps:=["self","row"]) fun _ _ _ _ _ _ us hl=>match us,hl with | [_,_],_=>rfl
 have vJ:=afw X G g_LETTERS;have mZ:=afw X G g_MOST_LETTERS;have qz:=afw X G g_MOST_LOCKS;have k8:=afw X G g_FIGURES;have gg:=afw X G g_MOST_FIGURES;have aB:=afB X G z_isinstance;have eS:=afB X G z_str;have br:=afB X G z_len;have nW:=afB X G z_all;have cZ:=afB X G z_list;have xJ:=afB X G z_tuple;have aW:=afB X G z_sorted;have bf:=afB X G z_range;have wF:=afB X G z_min;have vK:=afB X G z_max;have df:=afB X G z_int;have wZ:=afB X G z_bool;have dZ:=afB X G z_enumerate;have jg:=afB X G z_ValueError;have m_H:=afw X G n_H;have m_P:=afw X G n_P;have m_S:=afw X G n_S;have m_T:=afw X G n_T;have m_O:=afw X G n_O;have m_N:=afw X G n_N;have m_I:=afw X G n_I;have m_X:=afw X G n_X;have m_R:=afw X G n_R;have m_K:=afw X G n_K;have FS:=fun_mk (st:=b5) lS cS9 kS9;have bS:=FS.binds (ps:=["self","at"]) fun _ _ _ _ _ _ us hl=>match us,hl with | [_,_],_=>rfl
 refine⟨dl9,bl,fun base _ _=>?_⟩;have DC:kK K C:=⟨⟨pg,hd,po,sa⟩,n1,n2,n3⟩;have t_K:=nU x_K (ad3 y_K s_K) i_K0 ya;have t_T:=nU x_T (ad3 y_T s_T) i_T0 t_K;have t_R:=nU x_R (ad3 y_R s_R) i_R0 t_K;have xK:=yp x_K y_K t_K v_K;have xT:=yp x_T y_T t_T v_T;have xR:=yp x_R y_R t_R v_R;have oS:=adf x_S y_S s_S iS t_K kS saS lS;have tpK:yR K cK:=⟨q_1,q_2,q_3⟩;have clT:adB K cK cT 4 [cR,cS,cP,cN,cT] [cH,cI,cO,cX]:=⟨aen (b8 x_T z_R w_TR) (b8 x_T z_S w_TS) (b8 x_T z_P w_TP) (b8 x_T z_N w_TN) (b8 x_T z_T w_TT),aem (b8 x_T z_H w_TH) (b8 x_T z_I w_TI) (b8 x_T z_O w_TO) (b8 x_T z_X w_TX),aaT x_T (by decide +kernel) w_Te,⟨_,yK x_T x_K t_K i_K0 i_K1 i_K2 i_K3 p_T1 p_T2 p_T3 p_1 p_2 p_3⟩,⟨_,_,rfl,⟨_,_,_,_,_,_,_,_,_,_,_,_,_,_,_,_,fun h kin=>kin cT _ x_T⟩,u_T⟩⟩;have clS:adB K cK cS 1 [cR,cS,cP,cN,cT] [cH,cI,cO,cX]:=⟨aen (b8 x_S z_R w_SR) (b8 x_S z_S w_SS) (b8 x_S z_P w_SP) (b8 x_S z_N w_SN) (b8 x_S z_T w_ST),aem (b8 x_S z_H w_SH) (b8 x_S z_I w_SI) (b8 x_S z_O w_SO) (b8 x_S z_X w_SX),aaT x_S (by decide +kernel) w_Se,⟨_,yK x_S x_K t_K i_K0 i_K1 i_K2 i_K3 p_S1 p_S2 p_S3 p_1 p_2 p_3⟩,⟨_,_,rfl,⟨_,_,_,_,_,_,_,_,_,_,_,_,_,_,_,_,fun h kin=>kin cS _ x_S⟩,u_S⟩⟩;have kdS:rP l.prog w K dS (cF f_go_back f_put_anew f_tell_hand f_tell_next f_tell_gone f5 f6 f7 f8 f9 fa9 f_tell_show f_tell_rooms):=vw lSh oSh eSh aaq;have kdL:rP l.prog w K dL (lz f_put_keys f_put_room f_put_worth f_open_room g4):=vw lLo oLo eLo aco;have Gl:Glb mg:=⟨aB,eS,br,nW,⟨_,vJ⟩,⟨_,mZ⟩⟩;have GK:=aah (P:=l.prog) (w:=w) (base:=base) om.F rS.F yk Gl cZ;have GL:=aay mR.F GK dN br aW ⟨_,qz⟩;have GR:=abk qN.F GL hJ GK dN aB br xJ;have GH:=zY pz.F GR xu GK dN aB br xJ cZ nW;have GQ:=acU i8.F GH wc;have GW:=z9 (P:=l.prog) (w:=w) (mg:=mg) (base:=base) pL.F wZ df aB;have GV:=yB (P:=l.prog) (w:=w) (mg:=mg) (base:=base) uR.F nW;have GB:=xc (P:=l.prog) (w:=w) (mg:=mg) (base:=base) kO.F cZ;have GSW:=zF si.F GW k9 GV p7 br;have GS:=abH GSW;have GA:=aaa jo.F GS dC GB cB dZ aB cZ;have GY:=aaL iB.F GQ aK GA bx aW;have GN:=aaC lP.F GQ aK GA bx GS dC br bf;have S1:=aap (P:=l.prog) (w:=w) (mg:=mg) (base:=base) mO.F aW;have S2:=aas mP.F S1 bV;have S3:=zx lI.F GQ aK S1 bV S2 j7;have S4:=yo (P:=l.prog) (w:=w) (mg:=mg) (base:=base) ma.F;have R1:=aat (P:=l.prog) (w:=w) (base:=base) m9.F k8 gg br nW;have R2:=vO jS.F R1 j8 br nW df;have R3:=zE m7.F S4 jk GK dN;have R4:=yj lX.F GL hJ aW;have R5:=z8 (P:=l.prog) (w:=w) (mg:=mg) (base:=base) jO.F eS;have D1:=zK (P:=l.prog) (w:=w) (mg:=mg) (base:=base) Fbegin DC;have mB:wK K C "begin" fbegin:=⟨abegin,ibegin,Fbegin.kp⟩;have mY:wK K C "say" fsay:=⟨asay,isay,Fsay.kp⟩;have D2:=aaF Finit DC ⟨pg,hd,po,sa⟩ mB D1 bbegin;have D3:=abx pf.F DC ⟨pg,hd,po,sa⟩ mB D1 bbegin;have D4:=z4 mQ.F DC R5 b6;have D5:=yI (P:=l.prog) (w:=w) (mg:=mg) (base:=base) lT.F DC eS br;have D6:=aam oA.F DC S3 eP;have D7:=aaw mG.F DC S1 bV GY bK;have D8:=aag mT.F DC R5 b6 GN jf;have I1:=zS (P:=l.prog) (w:=w) (base:=base) FS oS tpK m_K eS naS;have I2:=acb Fs GQ aK br xT m_T;have E1:=abh pC.F DC R3 d5;have E2:=abY pO.F DC R3 d5 R4 jl I2 (afw X G as) Fs.kp (wq Fs ts);have E3:=ab2 oK.F DC R2 b7 br oS I1 bS m_S;have GAR:=acn jo.F GSW dC GB cB dZ aB cZ oS I1 bS m_S;have GYR:=ach iB.F GQ aK GAR bx aW;have E4:=abP mV.F DC R2 b7 GYR bK;have E5:=abW rY.F DC oS I1 bS m_S;have Y:=ade Fsay kdS (afw X G aSh) kdL (afw X G aLo) xR m_R aB eS D3 vP D7 tP D8 uc D4 tM D6 ub D5 qR E1 vL E2 wI E3 tO E5 wU E4 uj;have L1:=aci (P:=l.prog) (w:=w) (mg:=mg) (base:=base) jP.F br;have L2:=ab6 (P:=l.prog) (w:=w) (mg:=mg) (base:=base) jN.F bf;have L3:=abF oG.F L2 gF;have L4:=abt (P:=l.prog) (w:=w) (mg:=mg) (base:=base) oz.F;have L5:=zN nV.F L4 ar bf;have L6:=aad nJ.F L4 ar L5 bh bf;have L6D:=abN L6;have L7:=w6 lV.F L4 ar L5 bh L6D bG bf aW df;have L7G:=aca gM.F L4 ar L5 bh L6 bG bf aW df wF vK br cZ;have L8:=zJ (P:=l.prog) (w:=w) (mg:=mg) (base:=base) fJ.F aW df;have L9:=aab lF.F L8 aY;have M1:=zW (P:=l.prog) (w:=w) (mg:=mg) (base:=base) ny.F br cZ bf aW;have M2:=aar oa.F M1 dM br bf;have M3:=zw (P:=l.prog) (w:=w) (mg:=mg) (base:=base) lL.F eS df;have M4:=abz nA.F ⟨pg,hd,po,sa⟩ mY Y bsay m_K xK clT clS m_H m_P m_S m_T m_O m_N m_I m_X m_R aB jg df eS;have M5:=acf gP.F L4 ar df br;have M6:=z7 pK.F L4 ar L5 bh L6 bG M2 dI M5 bo df eS br;have M7:=xD kI.F ⟨pg,hd,po,sa⟩ mY Y bsay M3 gu M1 dM M2 dI L8 aY;exact ac9 Fl D2 ⟨mk,ainit,iinit,kc⟩ (afw X G aC) binit ⟨pg,hd,po,sa⟩ mY Y bsay L3 iu L1 eg L4 ar L7 iW L7G dO M5 bo M6 ly M4 ie M7 hW L9 iJ bf vK wF br
theorem walk {l:PySem.W.OpenLaw}{q:Program}{loose:List Str}{XP:(Str->Option Value)->Heap->Prop}{YP:World->Heap->Prop}{d:DefRec}{K:Params->PySem.W.Frag}(hn:l.most=some 63)(hdf:d.params.defaults=[])
 (hY:∀ (w:World) (h:Heap),YP w h->(K w.params).In h)
 (F:∀ (w:World) (mg:Str->Option Value) (fa:Addr) (h:Heap),(K w.params).In h->h.Ns mainGlobals mg->mg d.name=some (.ref fa) →
  ∃ fd:FuncData,(∀ (s:Shared) (u:Value),BindsTo s fd ⟨[u],[]⟩ [("script",u)])/\∀ base:Heap,(K w.params).In base->base.Ns mainGlobals mg->FnOk l.prog w (K w.params) mg base CX0 11 fa fd ["script"] (aaN (K w.params))) :
 PySem.W.WalkO q loose XP YP l.row.toRowW d [] (fun f vs=>PySem.call f vs) :=
 L2.walk_of (n:=63) (k:=11) (x := "script") (CX:=fun _=>CX0) (sp:=fun w=>aaN (K w.params)) hn (by decide) hdf ⟨rfl,by decide,by decide⟩ hY F (fun _ _ a ns hl _ hS=>⟨a,ns,rfl,hS,fun _=>rfl⟩) fun _ _ _ _ _ z=>z
end K7
namespace PySem.W.Fast
def tw10135478749783073380:=0
def tw10144007921136385067:=0
def tw10218708776160732645:=0
def tw1025192869432564119:=0
def tw1026326279002440473:=0
def tw10354937987068913499:=0
def tw10505418630003140709:=0
def tw10715152293532127263:=0
def tw10902962798236560794:=0
def tw10966120315742646832:=0
def tw11066737143392264546:=0
def tw11075512416307541770:=0
def tw11243998172223850673:=0
def tw11280041011041198184:=0
def tw11450855203592684202:=0
def tw1148168212122082407:=0
def tw11486966863883969397:=0
def tw11488649007330313283:=0
def tw11727419765079369441:=0
def tw11730389243805616025:=0
def tw11768806740385260650:=0
def tw11786714670664393347:=0
def tw1179489706713706419:=0
def tw11997709912850061440:=0
def tw12028289194577810113:=0
def tw125386614657401568:=0
def tw1257265235612025028:=0
def tw12813445846777220541:=0
def tw12906778428382576180:=0
def tw12927440104131370766:=0
def tw12950206823905763319:=0
def tw13093055277299840083:=0
def tw13260296090227352751:=0
def tw13285936735481098471:=0
def tw13476985344551149937:=0
def tw13490349776306373542:=0
def tw13632691309740454069:=0
def tw13722138918813589341:=0
def tw1379970027802176779:=0
def tw13802978595773727312:=0
def tw13842087015950637603:=0
def tw13922482449244805903:=0
def tw14059250671766270429:=0
def tw14071362530100766800:=0
def tw14298580841956060606:=0
def tw14375532096777770747:=0
def tw14626238469193280834:=0
def tw14699803152525071705:=0
def tw14873658470636688131:=0
def tw14890042683820433640:=0
def tw1492442665098939806:=0
def tw14970954927589752814:=0
def tw14982268092040231002:=0
def tw15090405247096003746:=0
def tw15106136231917438945:=0
def tw15160172943996802168:=0
def tw15184354835188487525:=0
def tw15288734335704063035:=0
def tw15298457246145199291:=0
def tw15399219516427157248:=0
def tw15448603214906020041:=0
def tw1551947925085816233:=0
def tw15528678680445221399:=0
def tw15550672543925848967:=0
def tw15608651045317154678:=0
def tw15622796190617258280:=0
def tw15653595561914093157:=0
def tw15773800542479749586:=0
def tw15802707315870055637:=0
def tw158230303154303500:=0
def tw16010773800491341295:=0
def tw16037049383135470343:=0
def tw16218920366618905305:=0
def tw16266134578669558960:=0
def tw16409252190676905874:=0
def tw16452180253869278527:=0
def tw16560561807266058331:=0
def tw16606753444721536836:=0
def tw16689493387658544396:=0
def tw16694431730377404512:=0
def tw16806810690163498097:=0
def tw16821976107168024010:=0
def tw16838062047946755106:=0
def tw16839542058934695669:=0
def tw17089278612498652738:=0
def tw17301232773631610373:=0
def tw17354933044618758805:=0
def tw17583260982600062219:=0
def tw17675275779015491094:=0
def tw17805259515996722583:=0
def tw17931462764834013160:=0
def tw18012773864948332937:=0
def tw18065828474715874913:=0
def tw18127682154138646533:=0
def tw18169733629877234195:=0
def tw18301915098659396511:=0
def tw18322693690008183134:=0
def tw18341233233160541556:=0
def tw18372174532991241368:=0
def tw18395013881870847321:=0
def tw1887799959854294808:=0
def tw2047228299630695453:=0
def tw2159879649681044356:=0
def tw2230820033483328475:=0
def tw2399163654957877421:=0
def tw2504100238866833288:=0
def tw2603507792661851626:=0
def tw2683707429227503088:=0
def tw2783077140464505066:=0
def tw2878764723679180657:=0
def tw2951151848187885650:=0
def tw3058191287377522484:=0
def tw3085489395930879097:=0
def tw3145711389514004048:=0
def tw340633470951014120:=0
def tw3417069937545211669:=0
def tw3428749431913006224:=0
def tw3466383783432234743:=0
def tw3661811664365133552:=0
def tw3711144859730748384:=0
def tw3880706517377015011:=0
def tw3932022875555135641:=0
def tw3968724528016803000:=0
def tw4212546596877409076:=0
def tw4814880261318935030:=0
def tw4966342198591217412:=0
def tw5067067451633977294:=0
def tw5169019130283969979:=0
def tw5234365273955912780:=0
def tw5356593323186007435:=0
def tw5496215693498611146:=0
def tw5510531502304018073:=0
def tw5538077731399507641:=0
def tw5634852407987430294:=0
def tw5676537876244297788:=0
def tw5948192818732423229:=0
def tw5968856536453702786:=0
def tw6065264144348960004:=0
def tw6105864721915520700:=0
def tw6183009138785363889:=0
def tw6239558782468761669:=0
def tw6421704586380356638:=0
def tw646161379335720857:=0
def tw6493890095473419990:=0
def tw6579585754527899182:=0
def tw6584058769021263116:=0
def tw6671189861463075473:=0
def tw6678350310021691992:=0
def tw6688301238536933790:=0
def tw6748909544330984365:=0
def tw6835388821474752577:=0
def tw6860598976293077563:=0
def tw6905743525791873122:=0
def tw6906375997623478783:=0
def tw6915047828115934961:=0
def tw7060404650992314052:=0
def tw7100986192178386548:=0
def tw7547898406102268760:=0
def tw7720514657046242980:=0
def tw7724257604267898120:=0
def tw7934025143643860843:=0
def tw7936101451031528332:=0
def tw7944427430766055080:=0
def tw8012922184296487398:=0
def tw809847771706722048:=0
def tw8105145969938667687:=0
def tw8294508982029821258:=0
def tw8450081753940274682:=0
def tw8812872062798735433:=0
def tw8982035207657430643:=0
def tw9138110127059441276:=0
def tw9154102765342490869:=0
def tw9174740973538328730:=0
def tw9378196388555698371:=0
def tw9435447583741117384:=0
def tw950313518593662941:=0
def tw9579566744248335751:=0
def tw9674391380449992902:=0
def tw9814235656141628351:=0
def tw9818852582450402155:=0
def tw9834046212747395652:=0
def tw9921808816689281610:=0
end PySem.W.Fast
open PySem PySem.W PyProof.Rows
set_option maxRecDepth 100000 in
set_option maxHeartbeats 0 in
theorem PySem.Challenge.cw_keyrooms_k54_orders_gone_at_the_desk_holds : PySem.Challenge.rw_keyrooms_k54_orders_gone_at_the_desk.Holds := by
  w_on; o_law; k_head; (case hw => w_witness2)
  k_fill
  refine K7.walk (l := PySem.Challenge.rw_keyrooms_k54_orders_gone_at_the_desk) rfl rfl (fun w h Y => PySem.W.kIn_of Y) ?F
  case F =>
    intro w mg fa h KX G hmg
    refine' K7.all_mk KX G hmg ⟨_,L2.fun_mk _ _ _⟩ ⟨_,L2.fun_mk _ _ _⟩ ⟨_,L2.fun_mk _ _ _⟩ ⟨_,L2.fun_mk _ _ _⟩ ⟨_,L2.fun_mk _ _ _⟩ ⟨_,L2.fun_mk _ _ _⟩ ⟨_,L2.fun_mk _ _ _⟩ ⟨_,L2.fun_mk _ _ _⟩ ⟨_,L2.fun_mk _ _ _⟩ ⟨_,L2.fun_mk _ _ _⟩ ⟨_,L2.fun_mk _ _ _⟩ ⟨_,L2.fun_mk _ _ _⟩ ⟨_,L2.fun_mk _ _ _⟩ ⟨_,L2.fun_mk _ _ _⟩ ⟨_,L2.fun_mk _ _ _⟩ ⟨_,L2.fun_mk _ _ _⟩ ⟨_,L2.fun_mk _ _ _⟩ ⟨_,L2.fun_mk _ _ _⟩ ⟨_,L2.fun_mk _ _ _⟩ ⟨_,L2.fun_mk _ _ _⟩ ⟨_,L2.fun_mk _ _ _⟩ ⟨_,L2.fun_mk _ _ _⟩ ⟨_,L2.fun_mk _ _ _⟩ ⟨_,L2.fun_mk _ _ _⟩ ⟨_,L2.fun_mk _ _ _⟩ ⟨_,L2.fun_mk _ _ _⟩ ⟨_,L2.fun_mk _ _ _⟩ ⟨_,L2.fun_mk _ _ _⟩ ⟨_,L2.fun_mk _ _ _⟩ ⟨_,L2.fun_mk _ _ _⟩ ⟨_,L2.fun_mk _ _ _⟩ ⟨_,L2.fun_mk _ _ _⟩ ⟨_,L2.fun_mk _ _ _⟩ ⟨_,L2.fun_mk _ _ _⟩ ⟨_,L2.fun_mk _ _ _⟩ ⟨_,L2.fun_mk _ _ _⟩ ⟨_,L2.fun_mk _ _ _⟩ ⟨_,L2.fun_mk _ _ _⟩ ⟨_,L2.fun_mk _ _ _⟩ ⟨_,L2.fun_mk _ _ _⟩ ⟨_,L2.fun_mk _ _ _⟩ ⟨_,L2.fun_mk _ _ _⟩ ⟨_,L2.fun_mk _ _ _⟩ ⟨_,L2.fun_mk _ _ _⟩ ⟨_,L2.fun_mk _ _ _⟩ ⟨_,L2.fun_mk _ _ _⟩ ⟨_,L2.fun_mk _ _ _⟩ ⟨_,L2.fun_mk _ _ _⟩ ⟨_,L2.fun_mk _ _ _⟩ ⟨_,L2.fun_mk _ _ _⟩ _ _ _ (L2.fun_mk _ _ _) _ _ (L2.fun_mk _ _ _) _ _ (L2.fun_mk _ _ _) _ _ _ _ _ _ _ _ _ _ (K7.fund_mk _ _ _) _ _ (L2.fun_mk _ _ _) ?bl _ _ _ _ _ _ _ _ _ _ _ _ _ _ _ _ _ _ _ _ _ _ _ _ _ _ _ _ _ _ _ ?s_K _ _ _ _ ?v_K _ _ ?s_T _ ?v_T _ _ ?s_R _ ?v_R _ _ ?s_S _ _ _ _ _ _ _ _ _ _ _ _ _ _ _ _ ?w_TH ?w_TP ?w_TS ?w_TT ?w_TO ?w_TN ?w_TI ?w_TX ?w_TR ?w_Te _ _ _ ?u_T ?w_SH ?w_SP ?w_SS ?w_ST ?w_SO ?w_SN ?w_SI ?w_SX ?w_SR ?w_Se _ _ _ ?u_S _ _ ?p_3 _ _ _ _ _ ?oSh ?eSh _ _ ?oLo ?eLo
    (case bl => exact fun s v => .of_eq rfl)
    any_goals k_is
    (case s_K => first | rfl | decide | decide +kernel)
    (case v_K => first | rfl | decide | decide +kernel)
    (case s_T => first | rfl | decide | decide +kernel)
    (case v_T => first | rfl | decide | decide +kernel)
    (case s_R => first | rfl | decide | decide +kernel)
    (case v_R => first | rfl | decide | decide +kernel)
    (case s_S => first | rfl | decide | decide +kernel)
    (case w_TH => first | rfl | decide | decide +kernel)
    (case w_TP => first | rfl | decide | decide +kernel)
    (case w_TS => first | rfl | decide | decide +kernel)
    (case w_TT => first | rfl | decide | decide +kernel)
    (case w_TO => first | rfl | decide | decide +kernel)
    (case w_TN => first | rfl | decide | decide +kernel)
    (case w_TI => first | rfl | decide | decide +kernel)
    (case w_TX => first | rfl | decide | decide +kernel)
    (case w_TR => first | rfl | decide | decide +kernel)
    (case w_Te => first | rfl | decide | decide +kernel)
    (case u_T => first | rfl | decide | decide +kernel)
    (case w_SH => first | rfl | decide | decide +kernel)
    (case w_SP => first | rfl | decide | decide +kernel)
    (case w_SS => first | rfl | decide | decide +kernel)
    (case w_ST => first | rfl | decide | decide +kernel)
    (case w_SO => first | rfl | decide | decide +kernel)
    (case w_SN => first | rfl | decide | decide +kernel)
    (case w_SI => first | rfl | decide | decide +kernel)
    (case w_SX => first | rfl | decide | decide +kernel)
    (case w_SR => first | rfl | decide | decide +kernel)
    (case w_Se => first | rfl | decide | decide +kernel)
    (case u_S => first | rfl | decide | decide +kernel)
    (case p_3 => first | rfl | decide | decide +kernel)
    (case oSh => first | rfl | decide | decide +kernel)
    (case eSh => exact ⟨⟨by first | rfl | decide +kernel, by first | rfl | kernel_rfl | decide +kernel, rfl⟩, ⟨⟨by first | rfl | decide +kernel, by first | rfl | kernel_rfl | decide +kernel, rfl⟩, ⟨⟨by first | rfl | decide +kernel, by first | rfl | kernel_rfl | decide +kernel, rfl⟩, ⟨⟨by first | rfl | decide +kernel, by first | rfl | kernel_rfl | decide +kernel, rfl⟩, ⟨⟨by first | rfl | decide +kernel, by first | rfl | kernel_rfl | decide +kernel, rfl⟩, ⟨⟨by first | rfl | decide +kernel, by first | rfl | kernel_rfl | decide +kernel, rfl⟩, ⟨⟨by first | rfl | decide +kernel, by first | rfl | kernel_rfl | decide +kernel, rfl⟩, ⟨⟨by first | rfl | decide +kernel, by first | rfl | kernel_rfl | decide +kernel, rfl⟩, ⟨⟨by first | rfl | decide +kernel, by first | rfl | kernel_rfl | decide +kernel, rfl⟩, ⟨⟨by first | rfl | decide +kernel, by first | rfl | kernel_rfl | decide +kernel, rfl⟩, ⟨⟨by first | rfl | decide +kernel, by first | rfl | kernel_rfl | decide +kernel, rfl⟩, ⟨⟨by first | rfl | decide +kernel, by first | rfl | kernel_rfl | decide +kernel, rfl⟩, ⟨⟨by first | rfl | decide +kernel, by first | rfl | kernel_rfl | decide +kernel, rfl⟩, True.intro⟩⟩⟩⟩⟩⟩⟩⟩⟩⟩⟩⟩⟩)
    (case oLo => first | rfl | decide | decide +kernel)
    (case eLo => exact ⟨⟨by first | rfl | decide +kernel, by first | rfl | kernel_rfl | decide +kernel, rfl⟩, ⟨⟨by first | rfl | decide +kernel, by first | rfl | kernel_rfl | decide +kernel, rfl⟩, ⟨⟨by first | rfl | decide +kernel, by first | rfl | kernel_rfl | decide +kernel, rfl⟩, ⟨⟨by first | rfl | decide +kernel, by first | rfl | kernel_rfl | decide +kernel, rfl⟩, ⟨⟨by first | rfl | decide +kernel, by first | rfl | kernel_rfl | decide +kernel, rfl⟩, True.intro⟩⟩⟩⟩⟩)
