import PyProof.Rows.All
import Wide.All
import OpenK.AllK
import Wide.FinOn
import Lean
import PyProof.EqAt
import PyProof.EqKinds
import PyProof.TupleCall
import PyProof.StationsW
import PyProof.ExcClass3
import PyProof.RulesTry
import PyProof.RulesAs
import PyProof.NsDelKeeps
import PyProof.ExcArgsOwn
import PyProof.Rows.SetFrom
import PyProof.SetRoads
import KE.KDictSum
import PyProof.DictCompW
import KE.KEqDict
import KE.KSortAsk
import PyProof.NeKinds
import KE.KIsAll
import KE.KxText
import PyProof.WalksEnum
import PyProof.EnumMake
import PyProof.DictItems
import PyProof.DictValues
import PyProof.DictWalks
import KE.KDictOf
import PyProof.Rows.SortStr
import PyProof.P3In
import KE.KDictLaws
import PyProof.ReprBulk
import KE.KRevSl
import PyProof.AttrMissHeap
import PyProof.ZipIter
import PyProof.ListRange
import KE.KUnpackStar
import PyProof.Rows.StrNews2
import PyProof.Rows.StrItems
import PyProof.FString5
import PyProof.ExcInit
import PyProof.Rows.ReprShort
import PyProof.Rows.StrRev
import PyProof.Rows.StrSplitMax
import KE.KIntText
import KE.BitLaws
import PySem.Challenge.RW_keyrooms_k28_orders_counted_and_told
set_option Elab.async false
set_option linter.all false
set_option maxRecDepth 100000
set_option maxHeartbeats 4000000
open PySem.W (instObj methodObj hideAll lookIn plainGet hasDictIn findIn handedIn isFn plainOver takerIn makesIn emptyDict keepIn kitOne kitx_list kitx_dict fnOf codeIn nsOkIn tailIn nsIn)
def adD:=@List.getElem?_eq_getElem
def adE:=@PySem.wpAny_bind
def adF:=@List.getElem?_eq_some_iff
def adG:=@List.length_map
def adH:=@PySem.Heap.get?_push_of_some
def adI:=@List.length_append
def adJ:=@PySem.wpAny_pure
def adK:=@List.getElem?_map
def adL:=@Nat.le_refl
def adM:=@Bool.false_ne_true
def adN:=@List.mem_cons_of_mem
def adO:=@List.mem_cons
def adP:=@List.mem_append_right
def adQ:=@PySem.Heap.lt_size
def adR:=@List.mem_of_getElem?
def adS:=@List.map_cons
def adT:=@List.mem_singleton
def adU:=@Nat.lt_of_lt_of_le
def adV:=@List.mem_cons_self
def adW:=@List.map_append
def adX:=@PySem.Heap.get?_push_size
def adY:=@decide_eq_true
def adZ:=@Nat.le_trans
def ad0:=@List.getElem?_append_left
def ad1:=@List.getElem?_append_right
def ad2:=@Nat.ne_of_lt
def ad3:=@List.size_toArray
def ad4:=@decide_eq_false
def ad5:=@List.mem_map
def ad6:=@List.mem_append
def ad7:=@Nat.zero_le
def ad8:=@List.length_singleton
def ad9:=@PySem.F.plainAttrs_list
def aea:=@List.filter_cons
def aeb:=@List.length_take
def aec:=@Array.length_toList
def aed:=@PySem.wpAny_mono
def aee:=@List.take_add_one
def aef:=@List.length_cons
def aeg:=@Nat.lt_of_le_of_lt
def aeh:=@PySem.PassesOwn.never
def aei:=@Bool.and_eq_true
def aej:=@PySem.W.mg_none_of
def aek:=@Int.toNat_natCast
def ael:=@List.map_map
def aem:=@List.take_length
def aen:=@List.filter_append
def aeo:=@List.getElem_mem
def aep:=@PySem.boot_len
def aeq:=@Nat.add_le_add_left
def aer:=@List.append_assoc
def aes:=@List.all_eq_true
def aet:=@List.not_mem_nil
def aeu:=@congrArg
def aev:=@Option.some.inj
def aew:=@List.append_nil
def aex:=@PySem.Heap.size_push
def aey:=@List.length_replicate
def aez:=@Nat.lt_irrefl
def aeA:=@List.mem_filter
def aeB:=@List.length_range
def aeC:=@PySem.wpAny_standAt
def aeD:=@decide_eq_true_iff
def aeE:=@PyProof.Rows.callWith_type1
def aeF:=@List.length_filter_le
def aeG:=@PySem.wpAny_truthy_bool
def aeH:=@List.getElem?_of_mem
def aeI:=@Bool.false_eq_true
def aeJ:=@PySem.W.kia_one
def aeK:=@List.nodup_cons
def aeL:=@Ne.symm
def aeM:=@PySem.wpAny_newObj_type
def aeN:=@Nat.lt_succ_of_lt
def aeO:=@PySem.F.slot_list_append
def aeP:=@PySem.F.type_list_append
def aeQ:=@PySem.wpAny_holding
def aeR:=@Bool.eq_iff_iff
def aeS:=@PySem.F.slot_list_count
def aeT:=@PySem.F.type_list_count
def aeU:=@List.lookup_cons
def aeV:=@decide_eq_decide
def aeW:=@List.getD_eq_getElem?_getD
def aeX:=@PySem.Heap.get?_update_other
def aeY:=@List.nodup_append
def aeZ:=@of_decide_eq_true
def ae0:=@List.mem_map_of_mem
def ae1:=@List.mem_range
def ae2:=@Array.getElem?_eq_getElem
def ae3:=@PySem.W.mg_of
def ae4:=@PySem.Heap.get?_update_self
def ae5:=@PySem.wpAny_comprehension_free
def ae6:=@List.pairwise_cons
def ae7:=@Nat.le_succ
def ae8:=@List.count_eq_zero_of_not_mem
def ae9:=@List.take_append_of_le_length
def afa:=@PySem.W.hideAll_none
def afb:=@Nat.le_of_lt
def afc:=@List.flatMap_cons
def afd:=@List.filterMap_cons
def afe:=@List.map_congr_left
def aff:=@List.length_reverse
def afg:=@List.range_succ
def afh:=@beq_iff_eq
def afi:=@beq_self_eq_true
def afj:=@Array.getElem?_toList
def afk:=@Nat.pow_le_pow_right
def afl:=@PySem.wpAny_passesOwn
def afm:=@decide_eq_true_eq
def afn:=@PySem.wpAny_setState_of
def afo:=@beq_eq_false_iff_ne
def afp:=@PySem.W.hideAll_get
def afq:=@PySem.mem_of_lookup
def afr:=@List.getElem?_replicate
def afs:=@PySem.Heap.SameBut.update
def aft:=@List.getElem?_cons_succ
def afu:=@Nat.lt_succ_self
def afv:=@PySem.wpAny_call_entry
def afw:=@List.any_eq_true
def afx:=@List.eq_nil_of_length_eq_zero
def afy:=@List.getElem?_set_self
def afz:=@Option.map_eq_some_iff
def afA:=@PySem.wpAny_Call_Name_kw
def afB:=@List.getElem?_take
def afC:=@PySem.codeAny_mono
def afD:=@List.find?_cons
def afE:=@Bool.eq_false_iff
def afF:=@Bool.true_and
def afG:=@List.count_append
def afH:=@Array.getElem?_eq_some_iff
def afI:=@List.mem_append_left
def afJ:=@List.getElem?_set_ne
def afK:=@PySem.wpAny_newFunctionEnv
def afL:=@List.drop_eq_getElem_cons
def afM:=@PySem.wpAny_askSetting
def afN:=@PySem.F.slot_dict_itemiterator_iter
def afO:=@PySem.wpAny_rule
def afP:=@PySem.W.of_hideAll
def afQ:=@PySem.wpAny_execs_nil
def afR:=@PySem.W.callWith_K
def afS:=@List.any_cons
def afT:=@PySem.Obj.data_mapFields
def afU:=@Nat.not_lt_zero
def afV:=@Nat.min_le_left
def afW:=@PySem.Calls.callWith_builtin
def afX:=@PySem.codeAny_compStart_list
def afY:=@List.filter_eq_nil_iff
def afZ:=@List.eraseIdxIfInBounds_toArray
def af0:=@PySem.fits_of_scanBound
def af1:=@bne_self_eq_false
def af2:=@List.map_id
def af3:=@List.foldl_append
def af4:=@List.filter_congr
def af5:=@Nat.ne_of_gt
def af6:=@List.all_map
def af7:=@List.getElem?_eq_none
def af8:=@List.take_append_drop
def af9:=@Nat.sub_self
def aga:=@List.eq_nil_or_concat
def agb:=@List.concat_eq_append
def agc:=@List.length_drop
def agd:=@List.getElem_map
def age:=@List.getElem?_append
def agf:=@List.replicate_succ'
def agg:=@List.mem_of_mem_take
def agh:=@PySem.wpAny_AugAssign_SubscriptAny
def agi:=@if_false
def agj:=@PySem.Value.isStrOf_shape
def agk:=@PySem.W.plainGet_of
def agl:=@Option.map_some
def agm:=@List.forIn_cons
def agn:=@Array.getD_eq_getD_getElem?
def ago:=@List.filter_nil
def agp:=@List.foldl_cons
def agq:=@List.flatMap_append
def agr:=@Nat.testBit_two_pow_sub_one
def agt:=@Int.fdiv_eq_ediv_of_nonneg
def agu:=@List.length_eraseIdx_of_lt
def agv:=@List.perm_ext_iff_of_nodup
def agw:=@PySem.F.excBase_ValueError
def agx:=@PySem.tupleKind_room_in1
def agy:=@or_false
def agz:=@List.map_singleton
def agA:=@Int.emod_lt_of_pos
def agB:=@PySem.F.plain_extend_loop
def agC:=@Classical.byContradiction
def agD:=@PySem.wpAny_assign_Name
def agE:=@PySem.wpAny_pyIter_list
def agF:=@Option.isSome_iff_exists
def agG:=@PySem.slot_list_getitem
def agI:=@Bool.not_eq_true'
def agJ:=@PySem.Heap.SameBut.refl
def agK:=@PySem.wpAny_pyIter_slot
def agL:=@List.length_erase_of_mem
def agM:=@PySem.PassesOwn.leaving
def agN:=@PySem.Paired.length
def agO:=@if_true
def agP:=@List.all_cons
def agR:=@List.eraseIdx_cons_succ
def agS:=@List.length_eq_zero_iff
def agT:=@Option.bind_eq_some_iff
def agU:=@PySem.F.plain_list_iadd
def agV:=@PySem.F.slot_dict_items
def agW:=@PySem.F.slot_list_index
def agX:=@Nat.succ_le_succ
def agY:=@List.cons_append
def agZ:=@PySem.pairTrees_length
def ag0:=@List.nodup_range
def ag1:=@List.mem_flatMap
def ag2:=@List.map_reverse
def ag3:=@PySem.W.cellsFrom_some
def ag5:=@Array.getElem?_eq_none
def ag6:=@List.take_of_length_le
def ag8:=@PySem.W.methodCall_KW
def ag9:=@List.of_mem_zip
def aha:=@PySem.wpAny_loadPart'
def ahb:=@List.length_set
def ahc:=@List.map_nil
def ahd:=@List.length_nil
def ahe:=@PySem.wpAny_tests_nil
def ahf:=@PySem.codeAny_loop
def ahg:=@Bool.or_eq_true
def ahj:=@PySem.wpAny_ite_split
def ahl:=@Int.emod_nonneg
def ahm:=@List.nil_append
def ahn:=@List.filter_map
def aho:=@PySem.W.tailIn.eq_def
def ahD:=@List.nodup_nil
def ahE:=@List.take_left
def ahF:=@List.drop_zero
def ahI:=@PySem.wpAny_noted
def ah4:=@Bool.and_self
def air:=@Nat.lt_trans
def ait:=@List.map_set
def aiu:=@Nat.zero_add
def aiv:=@List.any_map
namespace L2
open PySem PySem.Spec PyProof.Rows
abbrev Key:=Sum Int Str
def uZ:Key->Value->Bool
 | .inl k,v=>Value.isInt k v
 | .inr x,v=>Value.isStrOf x v
def adA (w:World):Key->Int
 | .inl k=>hashInt k
 | .inr x=>hashStr w x
theorem bQ:∀ {k:Key} {v:Value},uZ k v=true->(∃ i t,k=Sum.inl i/\v=Value.int i t)\/(∃ x t,k=Sum.inr x/\v=Value.str x t)
 | .inl i,v,h=>by
  obtain⟨t,e⟩:=Value.isInt_shape (k:=i) (v:=v) h;exact .inl ⟨i,t,rfl,e⟩
 | .inr x,v,h=>by
  obtain⟨t,e⟩:=agj (x:=x) (v:=v) h;exact .inr ⟨x,t,rfl,e⟩
theorem wH (i:Int)(t:Tok):uZ (.inl i) (.int i t)=true:=by simp [uZ,Value.isInt]
theorem wm (x:Str)(t:Tok):uZ (.inr x) (.str x t)=true:=by simp [uZ,Value.isStrOf]
theorem ab9 (a b:Int):decide ((Sum.inl a:Key)=Sum.inl b)=(a == b):=by
 by_cases e:a=b
 ·subst e;simp
 ·have h:¬ (Sum.inl a:Key)=Sum.inl b:=fun q=>e (Sum.inl.inj q);rw [ad4 h];exact (afo.mpr e).symm
theorem abZ (a b:Str):decide ((Sum.inr a:Key)=Sum.inr b)=decide (a=b):=by
 by_cases e:a=b
 ·subst e;simp
 ·have h:¬ (Sum.inr a:Key)=Sum.inr b:=fun q=>e (Sum.inr.inj q);rw [ad4 h,ad4 e]
theorem abM (a:Int)(b:Str):decide ((Sum.inl a:Key)=Sum.inr b)=false:=ad4 (fun q=>nomatch q)
theorem abI (a:Str)(b:Int):decide ((Sum.inr a:Key)=Sum.inl b)=false:=ad4 (fun q=>nomatch q)
def aT (prog:Program)(w:World):PySem.KeyKind prog w Key where
 is:=uZ
 hash:=adA w
 inj:=fun v a b ha hb=>by
  rcases bQ ha with ⟨i,t,rfl,rfl⟩ | ⟨x,t,rfl,rfl⟩
  ·rcases bQ hb with ⟨j,u,rfl,e⟩ | ⟨y,u,rfl,e⟩
   ·injection e with e1 _;rw [e1]
   ·exact nomatch e
  ·rcases bQ hb with ⟨j,u,rfl,e⟩ | ⟨y,u,rfl,e⟩
   ·exact nomatch e
   ·injection e with e1 _;rw [e1]
 byValue:=fun k v h=>by
  rcases bQ h with ⟨i,t,rfl,rfl⟩ | ⟨x,t,rfl,rfl⟩<;>rfl
 pyHash:=fun hv h=>by
  rcases bQ hv with ⟨i,t,rfl,rfl⟩ | ⟨x,t,rfl,rfl⟩
  ·exact wpAny_pyHash_int h
  ·exact wpAny_pyHash_str h
 eqBool:=fun hu hv h=>by
  rcases bQ hu with ⟨i,t,rfl,rfl⟩ | ⟨x,t,rfl,rfl⟩
  ·rcases bQ hv with ⟨j,u,rfl,rfl⟩ | ⟨y,u,rfl,rfl⟩
   ·rw [ab9] at h;exact wpAny_eqBool_int h
   ·rw [abM] at h;exact SeqAt.EqAt.int_str i t y u _ _ _ _ h
  ·rcases bQ hv with ⟨j,u,rfl,rfl⟩ | ⟨y,u,rfl,rfl⟩
   ·rw [abI] at h;exact SeqAt.EqAt.str_int x t j u _ _ _ _ h
   ·rw [abZ] at h;exact wpAny_eqBool_str h
 «strs»:=fun k x t v h=>by
  rcases bQ h with ⟨i,u,rfl,e⟩ | ⟨y,u,rfl,e⟩
  ·exact nomatch e
  ·injection e with e1 _
   subst e1;cases v<;>rfl
theorem sg (prog:Program)(w:World)(i:Int)(t:Tok):(aT prog w).is (.inl i) (.int i t)=true:=wH i t
theorem rX (prog:Program)(w:World)(x:Str)(t:Tok):(aT prog w).is (.inr x) (.str x t)=true:=wm x t
inductive V where
 | non | bl (b:Bool) | int (i:Int) | str (x:Str) | byt (b:Array UInt8) | flt (b:UInt64) | ref (a:Addr) | ty (n:String)
 deriving DecidableEq
def RelV:V->Value->Prop
 | .non,u=>u=Value.none
 | .bl b,u=>u=Value.bool b
 | .int i,u=>∃ t,u=Value.int i t
 | .str x,u=>∃ t,u=Value.str x t
 | .byt b,u=>∃ t,u=Value.bytes b t
 | .flt b,u=>∃ t,u=Value.float b t
 | .ref a,u=>u=Value.ref a
 | .ty n,u=>u=Value.type n
abbrev Vals:List V->List Value->Prop:=Paired RelV
theorem Vals.length {xs:List V}{us:List Value}(r:Vals xs us):xs.length=us.length:=agN r
theorem Vals.get:∀ {xs:List V} {us:List Value} {i:Nat} {x:V},Vals xs us->xs[i]? = some x->∃ u,us[i]? = some u/\RelV x u
 | _,_,_,_,.nil,e=>by simp at e
 | _,_,0,_,.cons r _,e=>by simp at e;subst e;exact⟨_,rfl,r⟩
 | _,_,i+1,x,.cons _ t,e=>by
  obtain⟨u,h1,h2⟩:=Vals.get (i:=i) (x:=x) t (by simpa using e);exact⟨u,by simpa using h1,h2⟩
theorem Vals.set {x:V}{u:Value}(r:RelV x u):∀ {xs:List V} {us:List Value} (i:Nat),Vals xs us->Vals (xs.set i x) (us.set i u)
 | _,_,_,.nil=>.nil
 | _,_,0,.cons _ t=>.cons r t
 | _,_,i+1,.cons q t=>.cons q (Vals.set r i t)
theorem Vals.append:∀ {xs ys:List V} {us ws:List Value},Vals xs us->Vals ys ws->Vals (xs++ys) (us++ws)
 | _,_,_,_,.nil,s=>s
 | _,_,_,_,.cons r t,s=>.cons r (Vals.append t s)
theorem Vals.take:∀ {xs:List V} {us:List Value} (n:Nat),Vals xs us->Vals (xs.take n) (us.take n)
 | _,_,0,_=>.nil
 | _,_,_+1,.nil=>.nil
 | _,_,n+1,.cons r t=>.cons r (Vals.take n t)
theorem Vals.drop:∀ {xs:List V} {us:List Value} (n:Nat),Vals xs us->Vals (xs.drop n) (us.drop n)
 | _,_,0,r=>r
 | _,_,_+1,.nil=>.nil
 | _,_,n+1,.cons _ t=>Vals.drop n t
def RelO:Option V->Option Value->Prop
 | some v,some u=>RelV v u
 | none,none=>True
 | _,_=>False
def KV {κ:Type}:List (κ×V)->List (κ×Value)->Prop:=Paired fun (p:κ×V) (q:κ×Value)=>p.1=q.1/\RelV p.2 q.2
def kV:Key->V
 | .inl i=>.int i
 | .inr x=>.str x
inductive HO where
 | lst (xs:List V)
 | tup (xs:List V)
 | dK (kvs:List (Key×V)) | dT (kvs:List (List Key×V))
 | set (S:Int->Bool) (n:Nat)
 | ins (C dx:Addr) (fs:List (Str×V))
 | own (x:Addr)
 | xd (fs:List (Str×V))
 | met (f x:Addr)
 | rng (lo hi:Int)
 | frz (o:Obj) (u:HO)
 | tbl (ps:Array Value)
 | ext (φ:Heap->Prop)
abbrev Hp:=Addr->Option HO
def upd (H:Hp)(a:Addr)(o:HO):Hp:=fun b=>if b=a then some o else H b
theorem af {H:Hp}{a:Addr}{o:HO}:upd H a o a=some o:=by unfold upd;rw [if_pos rfl]
theorem aj {H:Hp}{a b:Addr}{o:HO}(h:b≠a):upd H a o b=H b:=by unfold upd;rw [if_neg h]
theorem vT {H:Hp}{a b:Addr}{o u:HO}(h:H a=some o)(h':H b=some u)(d:o≠u):a≠b:=by
 intro e;subst e;rw [h] at h';exact d (aev h')
theorem aq {H:Hp}{a b:Addr}{o:HO}(h:H a=some o)(h':H b=none):a≠b:=by
 intro e;subst e;rw [h] at h';cases h'
section
variable (P:Program)(w:World)
def ObjOk (H:Hp)(h:Heap)(a:Addr):HO->Prop
 | .lst xs=>xs.length<=sizeLine/\∃ (its:List Value) (n:Nat),Vals xs its/\h.get? a=some { cls:=.type "list",data:=.seq its.toArray n }
 | .tup xs=>xs.length<=sizeLine/\∃ its:List Value,Vals xs its/\IsTup h a its.toArray
 | .dK kvs=>kvs.length<=sizeLine/\(a == sysModules)=false/\∃ vs,KV kvs vs/\h.DictOf (aT P w) a vs
 | .dT kvs=>kvs.length<=sizeLine/\(a == sysModules)=false/\∃ xs:List (List Key×Addr×Value),
  Paired (fun (p:List Key×V) (q:List Key×Addr×Value)=>p.1=q.1/\H q.2.1=some (.tup (p.1.map kV))/\RelV p.2 q.2.2) kvs xs ∧
  ∃ o es ep,h.get? a=some o/\o.ExactDict/\o.data=.dict es ep/\es.toList=xs.map (entryOfKey (tupleKind (aT P w)))/\(xs.map (·.1)).Nodup
 | .set S n=>h.SetOf (intKind P w) a S n
 | .ins C dx fs=>H dx=some (.own a)/\fs.length<=1000/\dx≠a/\h.get? a=some (instObj C dx) ∧
  ∃ mA,h.Ns1 dx mA/\(∀ f,RelO (fs.lookup f) (mA f))/\PySem.Within mA (fs.map (·.1))
 | .own _=>∃ o,h.get? a=some o
 | .xd fs=>∃ mA,h.Ns1 a mA/\∀ f,RelO (fs.lookup f) (mA f)
 | .rng lo hi=>∃ t u v,h.get? a=some { cls:=.type "range",data:=.fields #[.int lo t,.int hi u,.int 1 v] }
 | .frz o u=>h.get? a=some o/\ObjOk H h a u
 | .tbl ps=>h.get? a=some { cls:=.none,data:=.fields ps }
 | .met f x=>h.get? a=some (methodObj (.ref f) (.ref x))
 | .ext φ=>φ h/\(∃ o,h.get? a=some o)/\∀ h1 h2:Heap,φ h1->(∀ o,h1.get? a=some o->h2.get? a=some o)->φ h2
def HOk (H:Hp)(h:Heap):Prop:=∀ a o,H a=some o->ObjOk P w H h a o
end
section
variable {P:Program}{w:World}{H H':Hp}{h h':Heap}{a:Addr}{o:HO}
theorem ObjOk.lt (x:ObjOk P w H h a o):a < h.objs.size:=by
 cases o with
 | lst xs=>obtain⟨_,_,_,_,e⟩:=x;exact adQ e
 | tup xs=>obtain⟨_,_,_,p⟩:=x;exact p.lt
 | dK kvs=>obtain⟨_,_,_,_,o,_,_,e,_⟩:=x;exact adQ e
 | dT kvs=>obtain⟨_,_,_,_,o,_,_,e,_⟩:=x;exact adQ e
 | set S n=>obtain⟨o,_,_,_,e,_⟩:=x;exact adQ e
 | ins C dx fs=>obtain⟨_,_,_,e,_⟩:=x;exact adQ e
 | own y=>obtain⟨_,e⟩:=x;exact adQ e
 | xd fs=>obtain⟨_,⟨_,_,_,e,_⟩,_⟩:=x;exact adQ e
 | rng lo hi=>obtain⟨_,_,_,e⟩:=x;exact adQ e
 | frz ob u=>obtain⟨e,_⟩:=x;exact adQ e
 | tbl ps=>exact adQ (show h.get? a=some _ from x)
 | met f y=>exact adQ (show h.get? a=some _ from x)
 | ext φ=>obtain⟨_,⟨_,e⟩,_⟩:=x;exact adQ e
theorem Paired.mapP {α β:Type}{F G:α->β->Prop}:∀ {l₁:List α} {l₂:List β},Paired F l₁ l₂->(∀ a b,F a b->G a b)->Paired G l₁ l₂
 | _,_,.nil,_=>.nil
 | _,_,.cons r t,f=>.cons (f _ _ r) (Paired.mapP t f)
theorem ObjOk.stay (x:ObjOk P w H h a o)(k:∀ b u,(b=a\/H b=some (.own a))->h.get? b=some u->h'.get? b=some u)
 (ho:∀ b,H b=some (.own a)->H' b=some (.own a))(ht:∀ b xs,H b=some (.tup xs)->H' b=some (.tup xs)):ObjOk P w H' h' a o:=by
 induction o with
 | lst xs=>obtain⟨z,its,n,r,e⟩:=x;exact⟨z,its,n,r,k _ _ (.inl rfl) e⟩
 | tup xs=>obtain⟨z,its,r,ob,e,c⟩:=x;exact⟨z,its,r,ob,k _ _ (.inl rfl) e,c⟩
 | dK kvs=>obtain⟨z,y,vs,r,ob,es,ep,e,c⟩:=x;exact⟨z,y,vs,r,ob,es,ep,k _ _ (.inl rfl) e,c⟩
 | dT kvs =>
  obtain⟨z,y,xs,r,ob,es,ep,e,c⟩:=x;exact⟨z,y,xs,Paired.mapP r fun p q z=>⟨z.1,ht _ _ z.2.1,z.2.2⟩,ob,es,ep,k _ _ (.inl rfl) e,c⟩
 | set S n=>obtain⟨ob,es,ep,t,e,c⟩:=x;exact⟨ob,es,ep,t,k _ _ (.inl rfl) e,c⟩
 | ins C dx fs =>
  obtain⟨d,z,ne,e,mA,⟨od,es,ep,e2,c⟩,r⟩:=x;exact⟨ho _ d,z,ne,k _ _ (.inl rfl) e,mA,⟨od,es,ep,k _ _ (.inr d) e2,c⟩,r⟩
 | own y=>obtain⟨ob,e⟩:=x;exact⟨ob,k _ _ (.inl rfl) e⟩
 | xd fs=>obtain⟨mA,⟨od,es,ep,e,c⟩,r⟩:=x;exact⟨mA,⟨od,es,ep,k _ _ (.inl rfl) e,c⟩,r⟩
 | rng lo hi=>obtain⟨t,u,v,e⟩:=x;exact⟨t,u,v,k _ _ (.inl rfl) e⟩
 | frz ob u ih=>obtain⟨e,q⟩:=x;exact⟨k _ _ (.inl rfl) e,ih q⟩
 | tbl ps =>
  have e:h.get? a=some { cls:=.none,data:=.fields ps }:=x;show h'.get? a=some { cls:=.none,data:=.fields ps };exact k a _ (.inl rfl) e
 | met f y =>
  have e:h.get? a=some (methodObj (.ref f) (.ref y)):=x;show h'.get? a=some (methodObj (.ref f) (.ref y));exact k a _ (.inl rfl) e
 | ext φ=>obtain⟨p,⟨o,e⟩,st⟩:=x;exact⟨st _ _ p fun o q=>k _ _ (.inl rfl) q,⟨o,k _ _ (.inl rfl) e⟩,st⟩
theorem HOk.lt (x:HOk P w H h)(e:H a=some o):a < h.objs.size:=(x a o e).lt
theorem HOk.fresh (x:HOk P w H h)(e:h.objs.size<=a):H a=none:=by
 cases q:H a with
 | none=>rfl
 | some u=>exact absurd (adU (x.lt q) e) (aez _)
theorem HOk.kept (x:HOk P w H h)(k:∀ b u,h.get? b=some u->h'.get? b=some u):HOk P w H h':=fun a o e =>
 (x a o e).stay (fun b u _ q=>k b u q) (fun _ q=>q) fun _ _ q=>q
theorem HOk.laid (x:HOk P w H h)(k:∀ b u,h.get? b=some u->h'.get? b=some u)(hp:h.objs.size<=a)(new:ObjOk P w (upd H a o) h' a o):HOk P w (upd H a o) h':=fun b u e=>by
 have hn:=x.fresh hp;by_cases hb:b=a
 ·subst hb;rw [af] at e;cases e;exact new
 ·rw [aj hb] at e;exact (x b u e).stay (fun c v _ q=>k c v q) (fun c q=>by rw [aj (aq q hn)];exact q) fun c xs q=>by rw [aj (aq q hn)];exact q
end
def Rd (H:Hp)(a:Addr)(u:HO):Prop:=H a=some u\/∃ o,H a=some (.frz o u)
theorem Rd.ok {P:Program}{w:World}{H:Hp}{h:Heap}{a:Addr}{u:HO}(r:Rd H a u)(x:HOk P w H h):ObjOk P w H h a u:=by
 rcases r with r | ⟨o,r⟩
 ·exact x a u r
 ·obtain⟨_,q⟩:=x a _ r;exact q
def Mut:Option HO->Prop
 | some (.lst _)=>True
 | some (.dK _)=>True
 | some (.dT _)=>True
 | some (.set _ _)=>True
 | some (.ins _ _ _)=>True
 | some (.ext _)=>True
 | _=>False
section
variable {P:Program}{w:World}{H:Hp}{h h':Heap}{x e:Addr}{o':HO}
theorem HOk.write (ok:HOk P w H h)(mu:Mut (H x))(he:e=x\/H e=some (.own x))(k:∀ b u,b≠e->h.get? b=some u->h'.get? b=some u)(heo:∃ u,h'.get? e=some u)
 (new:ObjOk P w (upd H x o') h' x o'):HOk P w (upd H x o') h':=fun b u q=>by
 have nown:∀ c y,H c=some (.own y)->c≠x:=fun c y r z=>by subst z;rw [r] at mu;exact mu
 have ntup:∀ c xs,H c=some (.tup xs)->c≠x:=fun c xs r z=>by subst z;rw [r] at mu;exact mu
 by_cases hb:b=x
 ·subst hb;rw [af] at q;cases q;exact new
 ·rw [aj hb] at q;by_cases hbe:b=e
  ·have q':H b=some (.own x):=by
    rcases he with z | z
    ·exact absurd (hbe.trans z) hb
    ·rw [hbe];exact z
   rw [q] at q';cases q';obtain⟨v,hv⟩:=heo;exact⟨v,by rw [hbe];exact hv⟩
  ·refine (ok b u q).stay (fun c v hc r=>k c v ?_ r) (fun c r=>by rw [aj (nown c b r)];exact r) fun c xs r=>by rw [aj (ntup c xs r)];exact r
   rcases hc with rfl | hc
   ·exact hbe
   ·rintro rfl;rcases he with z | z
    ·exact nown c b hc z
    ·rw [hc] at z;cases z;exact hb rfl
end
structure Un (fs ex:List Addr)(H H':Hp)(h h':Heap):Prop where
 keep:∀ b o,h.get? b=some o->H b=none->b ∉ fs->b ∉ ex->h'.get? b=some o
 slot:∀ b o,h.get? b=some o->H b=none->b∈fs->b ∉ ex->∃ sl,h'.get? b=some { o with slots:=sl }
 free:∀ b o,h.get? b=some o->H b=none->b ∉ ex->H' b=none
 there:∀ b o,h.get? b=some o->b ∉ ex->∃ o',h'.get? b=some o'
 tups:∀ b xs,H b=some (.tup xs)->H' b=some (.tup xs)
 frzs:∀ b o u,H b=some (.frz o u)->H' b=some (.frz o u)
 tbls:∀ b ps,H b=some (.tbl ps)->∃ more,H' b=some (.tbl (ps++more))
section
variable {fs fs' ex ex':List Addr}{H H1 H2:Hp}{h h1 h2 h':Heap}{a x e:Addr}{o:HO}
theorem Un.any (u:Un fs ex H H1 h h1){b:Addr}{ob:Obj}(q:h.get? b=some ob)(n:H b=none)(hx:b ∉ ex):∃ sl,h1.get? b=some { ob with slots:=sl }:=by
 by_cases hb:b∈fs
 ·exact u.slot b ob q n hb hx
 ·exact⟨ob.slots,u.keep b ob q n hb hx⟩
theorem Un.kept (k:∀ b u,h.get? b=some u->h'.get? b=some u):Un fs ex H H h h' :=
 ⟨fun b ob q _ _ _=>k b ob q,fun b ob q _ _ _=>⟨ob.slots,k b ob q⟩,fun _ _ _ n _=>n,fun b ob q _=>⟨ob,k b ob q⟩,fun _ _ q=>q,fun _ _ _ q=>q,fun _ ps q=>⟨#[],by rw [q];simp⟩⟩
theorem Un.refl:Un fs ex H H h h:=Un.kept fun _ _ q=>q
theorem Un.laid (k:∀ b u,h.get? b=some u->h'.get? b=some u)(hp:h.objs.size<=a)(hn:H a=none):Un fs ex H (upd H a o) h h' where
 keep:=fun b u q _ _ _=>k b u q
 slot:=fun b u q _ _ _=>⟨u.slots,k b u q⟩
 free:=fun b u q n _=>by rw [aj (ad2 (adU (adQ q) hp))];exact n
 there:=fun b u q _=>⟨u,k b u q⟩
 tups:=fun b xs q=>by rw [aj (aq q hn)];exact q
 frzs:=fun b u xs q=>by rw [aj (aq q hn)];exact q
 tbls:=fun b ps q=>⟨#[],by rw [aj (aq q hn),q];simp⟩
theorem Un.write (mu:Mut (H x))(he:e=x\/H e=some (.own x))(k:∀ b u,b≠e->h.get? b=some u->h'.get? b=some u)(heo:∃ u,h'.get? e=some u):Un fs ex H (upd H x o) h h':=by
 have hx:∀ b,H b=none->b≠x:=fun b n z=>by subst z;rw [n] at mu;exact mu
 have hb:∀ b,H b=none->b≠e:=fun b n z=>by
  subst z;rcases he with r | r
  ·exact hx b n r
  ·rw [n] at r;cases r
 have hm:∀ b u,H b=some u->¬ Mut (some u)->b≠x:=fun b u q nm z=>by subst z;rw [q] at mu;exact nm mu
 refine⟨fun b u q n _ _=>k b u (hb b n) q,fun b u q n _ _=>⟨u.slots,k b u (hb b n) q⟩,fun b u q n _=>by rw [aj (hx b n)];exact n,fun b u q _=>?_,
  fun b xs q=>by rw [aj (hm b _ q fun z=>z)];exact q,fun b u xs q=>by rw [aj (hm b _ q fun z=>z)];exact q,fun b ps q=>⟨#[],by rw [aj (hm b _ q fun z=>z),q];simp⟩⟩
 by_cases hbe:b=e
 ·subst hbe;exact heo
 ·exact⟨u,k b u hbe q⟩
end
def trk (h:Heap)(H:Hp):List Addr:=(List.range h.objs.size).filter fun a=>(H a).isSome
def yG (h:Heap)(H:Hp):Heap:=hideAll h (trk h H)
theorem xx (h:Heap)(H:Hp):(yG h H).objs.size=h.objs.size:=PySem.W.hideAll_size _ _
theorem yB {h:Heap}{H:Hp}{b:Addr}{o:Obj}(e:h.get? b=some o)(n:H b=none):(yG h H).get? b=some o :=
 afp _ e fun hm=>by
  have q:(H b).isSome=true:=(aeA.mp hm).2;rw [n] at q;simp at q
theorem aag {h:Heap}{H:Hp}{b:Addr}{o:Obj}(e:(yG h H).get? b=some o):h.get? b=some o/\H b=none:=by
 have e':h.get? b=some o:=afP (trk h H) e;refine⟨e',?_⟩;cases q:H b with
 | none=>rfl
 | some x =>
  have hm:b∈trk h H:=aeA.mpr ⟨ae1.mpr (adQ e'),by simp [q]⟩;have z:(yG h H).get? b=none:=afa (trk h H) hm;rw [z] at e;cases e
def aat (g h:Heap)(L:Addr):List (Addr×Obj):=(List.range h.objs.size).filterMap fun a=>if a=L\/(g.get? a).isSome=true then none else (h.get? a).map fun o=>(a,o)
def pG (g h:Heap)(L d:Addr):List (Addr×Obj):=(aat g h L).filter fun p=>decide (p.1≠d)
structure Mod (K:PySem.W.Frag)(mg:Str->Option Value)(base:Heap):Prop where
 kin:K.In base
 glob:base.Ns mainGlobals mg
 blt:∃ mb,base.Ns builtinsNs mb/\∀ x:Str,x ≠ "__name__" → mb x=bootBuiltins x
 nolimit:base.NoLimit
structure Cx where
 prog:Program
 w:World
 K:PySem.W.Frag
 mg:Str->Option Value
 base:Heap
 A:Around
 N:List Str
 s₀:Shared
 H₀:Hp
 env:Env
 outer:List Env
 stack:List Env
 ex:List Addr
 fn:Str->Bool
 calm:Bool
 pn:List (Addr×Obj)
 xe:Value->Shared->Prop
def frs (l:List Env):List Addr:=l.filterMap (·.frame)
abbrev Cx.fs (X:Cx):List Addr:=frs X.outer
def Vis (sc:Scope)(x:Str):Prop:=sc.names.lookup x=some .local\/sc.names.lookup x=some .cell\/sc.names.lookup x=some .free
def Loc (sc:Scope)(x:Str):Prop:=sc.names.lookup x=some .local\/sc.names.lookup x=some .cell
def ac1 (env:Env)(h:Heap)(m:Str->Option Value)(x:Str)(u:Value):Prop :=
 (env.kindOf x=some .local/\m x=some u)\/((env.kindOf x=some .cell\/env.kindOf x=some .free)/\∃ c,env.cells.lookup x=some c/\h.IsCell c (some u))
structure Cx.Ok (X:Cx):Prop where
 mod:Mod X.K X.mg X.base
 kind:X.env.scope.kind=.function
 glob:X.env.globals=mainGlobals
 blt:X.env.builtins=builtinsNs
 above:X.s₀.heap.objs.size<=X.env.locals
 inj:∀ x y c,X.env.cells.lookup x=some c->X.env.cells.lookup y=some c->x=y
 has:∀ x,(X.env.kindOf x=some .cell\/X.env.kindOf x=some .free)->∃ c,X.env.cells.lookup x=some c
 cab:∀ x c,X.fn x=true->X.env.cells.lookup x=some c->X.s₀.heap.objs.size<=c
 hd:X.calm=true->X.A.handled=none
 frames:X.A.frames=some X.stack
 stk:X.stack=X.outer\/(X.stack=X.env::X.outer/\X.env.frame=some X.env.locals)
 exf:∀ b∈X.ex,b≠X.env.locals/\∀ x c,X.env.cells.lookup x=some c->c≠b
 bs:∀ b o,X.base.get? b=some o->X.s₀.heap.get? b=some o/\X.H₀ b=none
 bsz:X.base.objs.size<=X.s₀.heap.objs.size
 noex:∀ b o,X.base.get? b=some o->b ∉ X.ex
 exfs:∀ b∈X.ex,b ∉ X.fs
 funs:X.s₀.heap.FunFrames X.base X.outer
 frf:∀ b∈X.fs,X.H₀ b=none
structure Inv (X:Cx)(pins:List (Addr×Obj))(σ:List (Option V))(H:Hp)(s:Shared):Prop where
 ok:X.Ok
 os:s.os=X.s₀.os
 bare:AllBare s.gens
 base:Un X.fs X.ex X.H₀ H X.s₀.heap s.heap
 loc:∃ m,s.heap.Ns X.env.locals m/\∀ (i:Nat) (x:Str) (v:V),X.N[i]? = some x->σ[i]? = some (some v)->Vis X.env.scope x->∃ u,RelV v u/\ac1 X.env s.heap m x u
 cell:∀ x c,X.env.cells.lookup x=some c->∃ v,s.heap.IsCell c v
 free:H X.env.locals=none
 freeC:∀ x c,X.env.cells.lookup x=some c->H c=none
 pin:∀ p∈X.pn++pins,s.heap.get? p.1=some p.2/\H p.1=none/\p.1≠X.env.locals/\p.1 ∉ X.fs/\∀ v,p.2.data≠.cell v
 hok:HOk X.prog X.w H s.heap
 len:σ.length=X.N.length
section
variable {X:Cx}{pins:List (Addr×Obj)}{σ:List (Option V)}{H H':Hp}{s:Shared}{h':Heap}
theorem Cx.Ok.nofr (ok:X.Ok){b:Addr}{o:Obj}(e:X.base.get? b=some o):b ∉ X.fs:=fun hb=>by
 have:=(ok.funs.mem hb).1;rw [e] at this;cases this
theorem Inv.bs (I:Inv X pins σ H s):∀ b o,X.base.get? b=some o->s.heap.get? b=some o/\H b=none:=fun b o e =>
 ⟨I.base.keep b o (I.ok.bs b o e).1 (I.ok.bs b o e).2 (I.ok.nofr e) (I.ok.noex b o e),I.base.free b o (I.ok.bs b o e).1 (I.ok.bs b o e).2 (I.ok.noex b o e)⟩
theorem Inv.bk (I:Inv X pins σ H s):∀ b o,X.base.get? b=some o->s.heap.get? b=some o:=fun b o e=>(I.bs b o e).1
theorem Inv.mod (I:Inv X pins σ H s):Mod X.K X.mg X.base:=I.ok.mod
theorem Inv.kIn (I:Inv X pins σ H s):X.K.In s.heap:=I.ok.mod.kin.keeps I.bk
theorem Inv.fr (I:Inv X pins σ H s):∃ m,Fr X.base X.env.locals s.heap m :=
 let ⟨m,hn,_⟩:=I.loc
 ⟨m,hn,I.bk,adZ I.ok.bsz I.ok.above⟩
theorem Inv.lt (I:Inv X pins σ H s):X.env.locals < s.heap.objs.size:=let ⟨_,hn,_⟩:=I.loc;hn.lt
theorem Inv.sz (I:Inv X pins σ H s):X.s₀.heap.objs.size<=s.heap.objs.size:=adZ I.ok.above (afb I.lt)
theorem Inv.nofs (I:Inv X pins σ H s){a:Addr}(h:s.heap.objs.size<=a):a ∉ X.fs:=fun hb=>by
 obtain⟨_,o,ho,_⟩:=I.ok.funs.mem hb;exact absurd (adU (adQ ho) (adZ I.sz h)) (aez _)
theorem Inv.cne (I:Inv X pins σ H s):∀ x c,X.env.cells.lookup x=some c->c≠X.env.locals:=fun x c e z=>by
 obtain⟨v,o,ho,hd⟩:=I.cell x c e;obtain⟨m,⟨o',es,ep,ho',hd',_⟩,_⟩:=I.loc;rw [z,ho'] at ho;cases ho;rw [hd'] at hd;cases hd
theorem Inv.funs (I:Inv X pins σ H s):s.heap.FunFrames X.base X.outer:=by
 have all:∀ (l:List Env),(∀ b∈frs l,b∈X.fs)->X.s₀.heap.FunFrames X.base l->s.heap.FunFrames X.base l:=by
  intro l
  induction l with
  | nil=>intro _ _;trivial
  | cons env r ih =>
   intro hs hl;obtain⟨hk,⟨L,o,hf,hn,ho,hd⟩,hr⟩:=hl;have hL:L∈X.fs:=hs L (by unfold frs;rw [afd,hf];exact adV);obtain⟨sl,e⟩:=I.base.slot L o ho (I.ok.frf L hL) hL fun z=>I.ok.exfs L z hL;exact⟨hk,⟨L,_,hf,hn,e,hd⟩,ih (fun b hb=>hs b (by unfold frs;rw [afd,hf];exact adN _ hb)) hr⟩
 exact all X.outer (fun _ hb=>hb) I.ok.funs
theorem Inv.stack (I:Inv X pins σ H s):s.heap.FunFrames X.base X.stack:=by
 rcases I.ok.stk with e | ⟨e,hf⟩
 ·rw [e];exact I.funs
 ·rw [e];obtain⟨m,hn,_⟩:=I.loc;refine .cons (by rw [I.ok.kind];decide) hf hn ?_ I.funs;exact Heap.get?_none_of_le (adZ I.ok.bsz I.ok.above)
theorem Inv.stkSub (I:Inv X pins σ H s):∀ b∈frs X.stack,b∈X.env.locals::X.fs:=fun b hb=>by
 rcases I.ok.stk with e | ⟨e,hf⟩
 ·rw [e] at hb;exact adN _ hb
 ·rw [e] at hb;unfold frs at hb;rw [afd,hf] at hb;exact hb
theorem Inv.stkFree (I:Inv X pins σ H s):∀ b∈frs X.stack,H b=none:=fun b hb=>by
 rcases adO.mp (I.stkSub b hb) with e | hb
 ·rw [e];exact I.free
 ·obtain⟨_,o,ho,_⟩:=I.ok.funs.mem hb;exact I.base.free b o ho (I.ok.frf b hb) fun z=>I.ok.exfs b z hb
theorem Inv.step {g':Array GenState}{t':Nat}{d':Drawn}{ch:List Addr}(I:Inv X pins σ H s)
 (hch:∀ b∈ch,(b∈X.ex\/X.s₀.heap.objs.size<=b)/\b≠X.env.locals/\(∀ x c,X.env.cells.lookup x=some c->c≠b)/\∀ p∈X.pn++pins,p.1≠b)
 (keep:∀ b o,b≠X.env.locals->b ∉ X.fs->b ∉ ch->s.heap.get? b=some o->H b=none->h'.get? b=some o)
 (slot:∀ b o,b≠X.env.locals->b∈X.fs->b ∉ ch->s.heap.get? b=some o->H b=none->∃ sl,h'.get? b=some { o with slots:=sl })(free:∀ b o,b ∉ ch->s.heap.get? b=some o->H b=none->H' b=none)
 (there:∀ b o,b ∉ ch->s.heap.get? b=some o->∃ o',h'.get? b=some o')
 (tups:∀ b xs,H b=some (.tup xs)->H' b=some (.tup xs))(frzs:∀ b o u,H b=some (.frz o u)->H' b=some (.frz o u))(tbls:∀ b ps,H b=some (.tbl ps)->∃ more,H' b=some (.tbl (ps++more)))
 (ns:∀ m,s.heap.Ns X.env.locals m->h'.Ns X.env.locals m)(hok:HOk X.prog X.w H' h')(hg:AllBare g') :
 Inv X pins σ H' { s with heap:=h',gens:=g',drawn:=d',toks:=t' }:=by
 have neL:∀ b o,X.s₀.heap.get? b=some o->b≠X.env.locals:=fun b o e=>ad2 (adU (adQ e) I.ok.above);have neC:∀ b o,X.s₀.heap.get? b=some o->b ∉ X.ex->b ∉ ch:=fun b o e hx hb=>by
  rcases (hch b hb).1 with z | z
  ·exact hx z
  ·exact absurd (adU (adQ e) z) (aez _)
 have cellK:∀ x c,X.env.cells.lookup x=some c->∀ v,s.heap.IsCell c v->h'.IsCell c v:=fun x c e v ⟨o,ho,hd⟩=>by
  have nch:c ∉ ch:=fun z=>(hch c z).2.2.1 x c e rfl;by_cases hc:c∈X.fs
  ·obtain⟨sl,q⟩:=slot c o (I.cne x c e) hc nch ho (I.freeC x c e);exact⟨_,q,hd⟩
  ·exact⟨o,keep c o (I.cne x c e) hc nch ho (I.freeC x c e),hd⟩
 refine⟨I.ok,I.os,hg,⟨fun b o e n hb hx=>?_,fun b o e n hb hx=>?_,fun b o e n hx=>?_,fun b o e hx=>?_,fun b xs e=>tups b xs (I.base.tups b xs e),fun b o xs e=>frzs b o xs (I.base.frzs b o xs e),fun b ps e=>?_⟩,?_,fun x c e=>?_,?_,fun x c e=>?_,fun p hp=>?_,hok,I.len⟩
 ·exact keep b o (neL b o e) hb (neC b o e hx) (I.base.keep b o e n hb hx) (I.base.free b o e n hx)
 ·obtain⟨sl,e1⟩:=I.base.slot b o e n hb hx;obtain⟨sl',e2⟩:=slot b _ (neL b o e) hb (neC b o e hx) e1 (I.base.free b o e n hx);exact⟨sl',e2⟩
 ·obtain⟨o',e1⟩:=I.base.there b o e hx;exact free b o' (neC b o e hx) e1 (I.base.free b o e n hx)
 ·obtain⟨o',e1⟩:=I.base.there b o e hx;exact there b o' (neC b o e hx) e1
 ·obtain⟨m1,e1⟩:=I.base.tbls b ps e;obtain⟨m2,e2⟩:=tbls b _ e1;exact⟨m1++m2,by rw [e2,Array.append_assoc]⟩
 ·obtain⟨m,hn,hl⟩:=I.loc;refine⟨m,ns m hn,fun i x v e1 e2 e3=>?_⟩;obtain⟨u,r,l⟩:=hl i x v e1 e2 e3;refine⟨u,r,?_⟩;rcases l with l | ⟨k,c,e,z⟩
  ·exact .inl l
  ·exact .inr ⟨k,c,e,cellK x c e _ z⟩
 ·obtain⟨v,z⟩:=I.cell x c e;exact⟨v,cellK x c e v z⟩
 ·obtain⟨m,⟨o,_,_,ho,_⟩,_⟩:=I.loc;exact free _ o (fun z=>(hch _ z).2.1 rfl) ho I.free
 ·obtain⟨v,o,ho,hd⟩:=I.cell x c e;exact free c o (fun z=>(hch c z).2.2.1 x c e rfl) ho (I.freeC x c e)
 ·obtain⟨e,n,ne,nf,d⟩:=I.pin p hp;have nch:p.1 ∉ ch:=fun z=>(hch p.1 z).2.2.2 p hp rfl;exact⟨keep p.1 p.2 ne nf nch e n,free p.1 p.2 nch e n,ne,nf,d⟩
theorem Inv.un {t':Nat}(I:Inv X pins σ H s)(u:Un X.fs [] H H' s.heap h')(hok:HOk X.prog X.w H' h'):Inv X pins σ H' { s with heap:=h',toks:=t' }:=by
 obtain⟨m,⟨o,es,ep,ho,r⟩,_⟩:=id I.loc;obtain⟨sl,hL⟩:=u.any ho I.free (by simp);exact I.step (g':=s.gens) (d':=s.drawn) (ch:=[]) (fun _ z=>nomatch z) (fun b o _ hb _ e n=>u.keep b o e n hb (by simp)) (fun b o _ hb _ e n=>u.slot b o e n hb (by simp)) (fun b o _ e n=>u.free b o e n (by simp)) (fun b o _ e=>u.there b o e (by simp)) u.tups u.frzs u.tbls (fun m' hm=>by
  obtain⟨o',es',ep',ho',r'⟩:=hm;rw [ho] at ho';cases ho';exact⟨_,es',ep',hL,r'⟩) hok I.bare
theorem Inv.call {g':Array GenState}{t':Nat}{d':Drawn}{ch:List Addr}(I:Inv X pins σ H s)(u:Un (frs X.stack) ch H H' s.heap h')(hok:HOk X.prog X.w H' h')(hg:AllBare g')
 (hch:∀ b∈ch,(b∈X.ex\/X.s₀.heap.objs.size<=b)/\b≠X.env.locals/\(∀ x c,X.env.cells.lookup x=some c->c≠b)/\∀ p∈X.pn++pins,p.1≠b) :
 Inv X pins σ H' { s with heap:=h',gens:=g',drawn:=d',toks:=t' }:=by
 obtain⟨m,⟨o,es,ep,ho,r⟩,_⟩:=id I.loc;obtain⟨sl,hL⟩:=u.any ho I.free fun z=>(hch _ z).2.1 rfl;exact I.step (ch:=ch) hch (fun b o hL hb hc e n=>u.keep b o e n (fun z=>(adO.mp (I.stkSub b z)).elim hL hb) hc) (fun b o _ _ hc e n=>u.any e n hc) (fun b o hc e n=>u.free b o e n hc) (fun b o hc e=>u.there b o e hc) u.tups u.frzs u.tbls (fun m' hm=>by
  obtain⟨o',es',ep',ho',r'⟩:=hm;rw [ho] at ho';cases ho';exact⟨_,es',ep',hL,r'⟩) hok hg
theorem Inv.turned {t':Nat}{it:Addr}(I:Inv X pins σ H s)(k:∀ b o,b≠it->s.heap.get? b=some o->h'.get? b=some o)(hn:H it=none)(hL:it≠X.env.locals)
 (h1:it∈X.ex\/X.s₀.heap.objs.size<=it)(h2:∀ x c,X.env.cells.lookup x=some c->c≠it)(h3:∀ p∈X.pn++pins,p.1≠it):Inv X pins σ H { s with heap:=h',toks:=t' }:=by
 have nit:∀ b u,H b=some u->b≠it:=fun b u e z=>by rw [z,hn] at e;cases e
 refine I.step (g':=s.gens) (d':=s.drawn) (ch:=[it]) (fun b hb=>?_) (fun b o _ _ hc e _=>k b o (fun z=>hc (by simp [z])) e) (fun b o _ _ hc e _=>⟨o.slots,k b o (fun z=>hc (by simp [z])) e⟩) (fun _ _ _ _ n=>n)
  (fun b o hc e=>⟨o,k b o (fun z=>hc (by simp [z])) e⟩) (fun _ _ e=>e) (fun _ _ _ e=>e) (fun b ps e=>⟨#[],by rw [e];simp⟩) (fun m hm=>?_) (fun b u e=>?_) I.bare
 ·have e:b=it:=by simpa using hb
  subst e;exact⟨h1,hL,h2,h3⟩
 ·obtain⟨o,es,ep,ho,r⟩:=hm;exact⟨o,es,ep,k _ o (aeL hL) ho,r⟩
 ·refine (I.hok b u e).stay (fun c v hc q=>k c v ?_ q) (fun _ q=>q) fun _ _ q=>q;rcases hc with z | z
  ·rw [z];exact nit b u e
  ·exact nit c _ z
theorem Inv.tok (I:Inv X pins σ H s)(t:Nat):Inv X pins σ H { s with toks:=t }:=I.un (h':=s.heap) (t':=t) Un.refl I.hok
theorem Inv.kept {t':Nat}(I:Inv X pins σ H s)(k:∀ b u,s.heap.get? b=some u->h'.get? b=some u):Inv X pins σ H { s with heap:=h',toks:=t' }:=I.un (Un.kept k) (I.hok.kept k)
theorem Inv.laid {a:Addr}{o:HO}{t':Nat}(I:Inv X pins σ H s)(k:∀ b u,s.heap.get? b=some u->h'.get? b=some u)(hp:s.heap.objs.size<=a)(new:ObjOk X.prog X.w (upd H a o) h' a o) :
 Inv X pins σ (upd H a o) { s with heap:=h',toks:=t' }:=I.un (Un.laid k hp (I.hok.fresh hp)) (I.hok.laid k hp new)
theorem Inv.write {x e:Addr}{o:HO}{t':Nat}(I:Inv X pins σ H s)(mu:Mut (H x))(he:e=x\/H e=some (.own x))(k:∀ b u,b≠e->s.heap.get? b=some u->h'.get? b=some u)(heo:∃ u,h'.get? e=some u)
 (new:ObjOk X.prog X.w (upd H x o) h' x o):Inv X pins σ (upd H x o) { s with heap:=h',toks:=t' }:=I.un (Un.write mu he k heo) (I.hok.write mu he k heo new)
theorem Inv.weak {σ':List (Option V)}(I:Inv X pins σ H s)(hl:σ'.length=σ.length)(w:∀ (i:Nat) v,σ'[i]? = some (some v)->σ[i]? = some (some v)):Inv X pins σ' H s :=
 ⟨I.ok,I.os,I.bare,I.base,let ⟨m,hn,hl'⟩:=I.loc;⟨m,hn,fun i x v e1 e2 e3=>hl' i x v e1 (w i v e2) e3⟩,I.cell,I.free,I.freeC,I.pin,I.hok,hl.trans I.len⟩
theorem Inv.pins_of {pins':List (Addr×Obj)}(I:Inv X pins σ H s)(h:∀ p∈pins',s.heap.get? p.1=some p.2/\H p.1=none/\p.1≠X.env.locals/\p.1 ∉ X.fs/\∀ v,p.2.data≠.cell v):Inv X pins' σ H s :=
 ⟨I.ok,I.os,I.bare,I.base,I.loc,I.cell,I.free,I.freeC,fun p hp=>(ad6.mp hp).elim (fun z=>I.pin p (afI _ z)) (h p),I.hok,I.len⟩
theorem oQ {N:List Str}(hN:N.Nodup){i j:Nat}{x:Str}(a:N[i]? = some x)(b:N[j]? = some x):i=j:=by
 obtain⟨h1,e1⟩:=adF.mp a;obtain⟨h2,e2⟩:=adF.mp b;exact (List.getElem_inj hN).mp (e1.trans e2.symm)
theorem jB {M:Model}{A:Around}{E:Value->Shared->Prop}{i:Nat}{x:Str}{v:V}{u:Value}{Q:Unit->Shared->Prop}(I:Inv X pins σ H s)(hN:X.N.Nodup)(hi:X.N[i]? = some x)(hx:Loc X.env.scope x)(r:RelV v u)
 (h:∀ s',Inv X pins (σ.set i (some v)) H s'->(∃ a,Heap.SameBut a s.heap s'.heap/\(a=X.env.locals\/X.env.cells.lookup x=some a))->Q () s')(hf:X.fn x=true\/X.env.scope.names.lookup x=some .local:=by first | exact .inl rfl | exact .inr rfl | assumption):wpAny M A (storeName X.env x u) Q E s:=by
 obtain⟨m,hn,hl⟩:=id I.loc;have hcls:(X.env.scope.kind == .class || (X.env.scope.kind == .module && X.env.locals != X.env.globals))=false:=by rw [I.ok.kind];rfl
 have hiσ:i < σ.length:=by rw [I.len];exact (adF.mp hi).1
 have cne:=I.cne;have tracked:∀ {a:Addr} {h':Heap},(∃ o,s.heap.get? a=some o/\H a=none)->Heap.SameBut a s.heap h'->HOk X.prog X.w H h':=fun {a h'} ha hs b ob e=>by
  obtain⟨_,_,hfree⟩:=ha;refine (I.hok b ob e).stay (fun c w' hc q=>(hs.2 c ?_).trans q) (fun _ q=>q) fun _ _ q=>q;rintro rfl;rcases hc with rfl | hc
  ·rw [hfree] at e;cases e
  ·rw [hfree] at hc;cases hc
 rcases hx with hk | hk
 ·refine wpAny_storeName_local hk hn (fun h' hn' hs=>?_) hcls;obtain⟨oL,_,_,hoL,_⟩:=id hn;refine h _ ⟨I.ok,I.os,I.bare,⟨fun b o e n hb hx=>?_,fun b o e n hb hx=>?_,I.base.free,fun b o e hx=>?_,I.base.tups,I.base.frzs,I.base.tbls⟩,⟨_,hn',fun j y v' e1 e2 e3=>?_⟩,fun y c e=>?_,I.free,I.freeC,fun p hp=>?_,tracked ⟨oL,hoL,I.free⟩ hs,by simpa using I.len⟩ ⟨_,hs,.inl rfl⟩
  ·exact (hs.2 b (ad2 (adU (adQ e) I.ok.above))).trans (I.base.keep b o e n hb hx)
  ·obtain⟨sl,e1⟩:=I.base.slot b o e n hb hx;exact⟨sl,(hs.2 b (ad2 (adU (adQ e) I.ok.above))).trans e1⟩
  ·obtain⟨o',e1⟩:=I.base.there b o e hx;exact⟨o',(hs.2 b (ad2 (adU (adQ e) I.ok.above))).trans e1⟩
  ·by_cases hj:j=i
   ·subst hj;rw [hi] at e1;cases e1;rw [afy hiσ] at e2;cases e2;exact⟨u,r,.inl ⟨hk,by simp⟩⟩
   ·rw [afJ (aeL hj)] at e2;obtain⟨u',r',q⟩:=hl j y v' e1 e2 e3;refine⟨u',r',?_⟩;rcases q with ⟨k,e⟩ | ⟨k,c,e,z⟩
    ·refine .inl ⟨k,?_⟩;have:y≠x:=fun e=>hj (oQ hN e1 (e▸hi));simp [this,e]
    ·exact .inr ⟨k,c,e,z.sameBut hs (cne y c e)⟩
  ·obtain⟨w',z⟩:=I.cell y c e;exact⟨w',z.sameBut hs (cne y c e)⟩
  ·obtain⟨e,n,ne,nf,d⟩:=I.pin p hp;exact⟨(hs.2 p.1 ne).trans e,n,ne,nf,d⟩
 ·have hfn:X.fn x=true:=by
   rcases hf with z | z
   ·exact z
   ·rw [z] at hk;cases hk
  obtain⟨c,hc⟩:=I.ok.has x (.inl hk);obtain⟨w',z⟩:=I.cell x c hc;refine wpAny_storeName_cell I.ok.kind hk hc z (fun h' hc' hs=>?_);obtain⟨oc,hoc,hocd⟩:=id z;refine h { s with heap:=h' } ⟨I.ok,I.os,I.bare,⟨fun b o e n hb hx=>?_,fun b o e n hb hx=>?_,I.base.free,fun b o e hx=>?_,I.base.tups,I.base.frzs,I.base.tbls⟩,⟨m,hn.sameBut hs (aeL (cne x c hc)),fun j y v' e1 e2 e3=>?_⟩,fun y c' e=>?_,I.free,I.freeC,fun p hp=>?_,tracked ⟨oc,hoc,I.freeC x c hc⟩ hs,by simpa using I.len⟩ ⟨c,hs,.inr hc⟩
  ·exact (hs.2 b (ad2 (adU (adQ e) (I.ok.cab x c hfn hc)))).trans (I.base.keep b o e n hb hx)
  ·obtain⟨sl,e1⟩:=I.base.slot b o e n hb hx;exact⟨sl,(hs.2 b (ad2 (adU (adQ e) (I.ok.cab x c hfn hc)))).trans e1⟩
  ·obtain⟨o',e1⟩:=I.base.there b o e hx;exact⟨o',(hs.2 b (ad2 (adU (adQ e) (I.ok.cab x c hfn hc)))).trans e1⟩
  ·by_cases hj:j=i
   ·subst hj;rw [hi] at e1;cases e1;rw [afy hiσ] at e2;cases e2;exact⟨u,r,.inr ⟨.inl hk,c,hc,hc'⟩⟩
   ·rw [afJ (aeL hj)] at e2;obtain⟨u',r',q⟩:=hl j y v' e1 e2 e3;refine⟨u',r',?_⟩;rcases q with q | ⟨k,c',e,z'⟩
    ·exact .inl q
    ·refine .inr ⟨k,c',e,z'.sameBut hs ?_⟩;rintro rfl;exact hj (oQ hN e1 (I.ok.inj _ _ _ e hc▸hi))
  ·by_cases hcc:c'=c
   ·subst hcc;exact⟨_,hc'⟩
   ·obtain⟨w2,z2⟩:=I.cell y c' e;exact⟨w2,z2.sameBut hs hcc⟩
  ·obtain⟨e,n,ne,nf,d⟩:=I.pin p hp;refine⟨(hs.2 p.1 ?_).trans e,n,ne,nf,d⟩;intro q;rw [q,hoc] at e;have q':oc=p.2:=aev e;exact d w' (by rw [← q'];exact hocd)
theorem o4 {M:Model}{A:Around}{E:Value->Shared->Prop}{i:Nat}{x:Str}{v:V}{u:Value}{Q:Unit->Shared->Prop}(I:Inv X pins σ H s)(hN:X.N.Nodup)(hi:X.N[i]? = some x)(hx:Loc X.env.scope x)(r:RelV v u)
 (h:∀ s',Inv X pins (σ.set i (some v)) H s'->Q () s')(hf:X.fn x=true\/X.env.scope.names.lookup x=some .local:=by first | exact .inl rfl | exact .inr rfl | assumption):wpAny M A (storeName X.env x u) Q E s :=
 jB I hN hi hx r (fun s' I' _=>h s' I') hf
theorem Inv.call' {s':Shared}{ch:List Addr}(I:Inv X pins σ H s)(ho:s'.os=s.os)(u:Un (frs X.stack) ch H H' s.heap s'.heap)(hok:HOk X.prog X.w H' s'.heap)(hg:AllBare s'.gens)
 (hch:∀ b∈ch,(b∈X.ex\/X.s₀.heap.objs.size<=b)/\b≠X.env.locals/\(∀ x c,X.env.cells.lookup x=some c->c≠b)/\∀ p∈X.pn++pins,p.1≠b):Inv X pins σ H' s':=by
 obtain⟨h',g',d',t',o'⟩:=s';have e:o'=s.os:=ho;subst e;exact I.call (g':=g') (t':=t') (d':=d') u hok hg hch
end
abbrev XK:=Value->Option Addr->Hp->Prop
abbrev St:=List (Option V)
abbrev VK:=V->Hp->Prop
abbrev TE:=St->Hp->VK->Prop
abbrev TT:=St->Hp->(Bool->Hp->Prop)->Prop
abbrev TA:=St->Hp->(List V->Hp->Prop)->Prop
structure Ends where
 nx:St->Hp->Prop
 rt:VK
 bk:St->Hp->Prop:=fun _ _=>False
 ct:St->Hp->Prop:=fun _ _=>False
abbrev TS:=Ends->St->Hp->Prop
def EP (X:Cx)(pins:List (Addr×Obj))(σ:St)(Q:VK)(u:Value)(s':Shared):Prop:=∃ v H',Inv X pins σ H' s'/\RelV v u/\Q v H'
def TP (X:Cx)(pins:List (Addr×Obj))(σ:St)(Q:Bool->Hp->Prop)(b:Bool)(s':Shared):Prop:=∃ H',Inv X pins σ H' s'/\Q b H'
def AP (X:Cx)(pins:List (Addr×Obj))(σ:St)(Q:List V->Hp->Prop)(us:List Value)(s':Shared):Prop:=∃ vs H',Inv X pins σ H' s'/\Vals vs us/\Q vs H'
def SP (X:Cx)(pins:List (Addr×Obj))(D:Ends)(f:Flow)(s':Shared):Prop :=
 match f with
 | .next=>∃ σ' H',Inv X pins σ' H' s'/\D.nx σ' H'
 | .brk=>∃ σ' H',Inv X pins σ' H' s'/\D.bk σ' H'
 | .cont=>∃ σ' H',Inv X pins σ' H' s'/\D.ct σ' H'
 | .ret u=>∃ v σ' H',Inv X pins σ' H' s'/\RelV v u/\D.rt v H'
def PE (X:Cx)(e:Expr)(t:TE):Prop :=
 ∀ (pins:List (Addr×Obj)) (s:Shared) (σ:St) (H:Hp) (Q:VK),Inv X pins σ H s->t σ H Q->wpAny (model X.prog X.w) X.A (eval e X.env) (EP X pins σ Q) X.xe s
def PT (X:Cx)(e:Expr)(t:TT):Prop :=
 ∀ (pins:List (Addr×Obj)) (s:Shared) (σ:St) (H:Hp) (Q:Bool->Hp->Prop),Inv X pins σ H s->t σ H Q->wpAny (model X.prog X.w) X.A (isTrue e X.env (eval e X.env)) (TP X pins σ Q) X.xe s
def PW (X:Cx)(e:Expr)(t:TT):Prop :=
 ∀ (whole:Sem Value) (pins:List (Addr×Obj)) (s:Shared) (σ:St) (H:Hp) (Q:Bool->Hp->Prop),Inv X pins σ H s->t σ H Q->wpAny (model X.prog X.w) X.A (isTrue e X.env whole) (TP X pins σ Q) X.xe s
theorem PW.pt {X:Cx}{e:Expr}{t:TT}(h:PW X e t):PT X e t:=h _
def PA (X:Cx)(es:List Expr)(t:TA):Prop :=
 ∀ (pos:Pos) (pins:List (Addr×Obj)) (s:Shared) (σ:St) (H:Hp) (Q:List V->Hp->Prop),Inv X pins σ H s->t σ H Q->wpAny (model X.prog X.w) X.A (spliced (backTo pos (starEach es X.env))) (AP X pins σ Q) X.xe s
def PS (X:Cx)(st:Stmt)(t:TS):Prop :=
 ∀ (pins:List (Addr×Obj)) (s:Shared) (σ:St) (H:Hp) (D:Ends),Inv X pins σ H s->t D σ H->wpAny (model X.prog X.w) X.A (exec st X.env) (SP X pins D) X.xe s
def PSs (X:Cx)(st:List Stmt)(t:TS):Prop :=
 ∀ (pins:List (Addr×Obj)) (s:Shared) (σ:St) (H:Hp) (D:Ends),Inv X pins σ H s->t D σ H->wpAny (model X.prog X.w) X.A (execs st X.env) (SP X pins D) X.xe s
theorem thn {α:Type}{t:Sem α}{Q Q':α->Shared->Prop}{M:Model}{A:Around}{E:Value->Shared->Prop}{s:Shared}(h:wpAny M A t Q E s)(hQ:∀ a s,Q a s->Q' a s):wpAny M A t Q' E s:=aed h hQ fun _ _ x=>x
section
variable {X:Cx}
theorem bin {a b:Expr}{ta tb:TE}(ha:PE X a ta)(hb:PE X b tb){pins:List (Addr×Obj)}{s:Shared}{σ:St}{H:Hp}{R:V->V->Hp->Prop}(I:Inv X pins σ H s)(h:ta σ H fun x H1=>tb σ H1 fun y H2=>R x y H2)
 {α:Type}{Q:α->Shared->Prop}{f:Value->Value->Sem α}
 (hf:∀ v u s2 x y H2,Inv X pins σ H2 s2->RelV x v->RelV y u->R x y H2->wpAny (model X.prog X.w) X.A (f v u) Q X.xe s2) :
 wpAny (model X.prog X.w) X.A (eval a X.env) (fun v s₁=>wpAny (model X.prog X.w) X.A (eval b X.env) (fun u s₂=>wpAny (model X.prog X.w) X.A (f v u) Q X.xe s₂) X.xe s₁) X.xe s:=by
 refine thn (ha pins s σ H _ I h) fun v s1 ⟨x,H1,I1,r1,q1⟩=>?_;refine thn (hb pins s1 σ H1 _ I1 q1) fun u s2 ⟨y,H2,I2,r2,q2⟩=>?_;exact hf v u s2 x y H2 I2 r1 r2 q2
def abu (i:Nat):TE:=fun σ H Q=>∃ v,σ[i]? = some (some v)/\Q v H
def tC (v:V):TE:=fun _ H Q=>Q v H
theorem abW {i:Nat}{x:Str}{pos:Pos}(hN:X.N[i]? = some x)(hv:Vis X.env.scope x)(hd:(x == ("__debug__" : Str))=false:=by decide)(hcd:(x == ("__classdict__" : Str))=false:=by decide):PE X (.Name x pos) (abu i):=by
 intro pins s σ H Q I h;obtain⟨v,e,h⟩:=h;obtain⟨m,hn,hl⟩:=I.loc;obtain⟨u,r,l⟩:=hl i x v hN e hv;have fin:EP X pins σ Q u s:=⟨v,H,I,r,h⟩;rcases l with ⟨hk,hm⟩ | ⟨hk,c,hc,hcell⟩
 ·exact wpAny_Name (wpAny_loadName_local I.ok.kind hk hn hm fin) hd
 ·rcases hk with hk | hk
  ·exact wpAny_Name (wpAny_loadName_cell I.ok.kind hk hc hcell fin) hd
  ·exact wpAny_Name (wpAny_loadName_free I.ok.kind hk hc hcell fin hcd) hd
theorem ak {i j pos}:PE X (.Constant (.int i) j pos) (tC (.int i)):=fun _ _ _ H _ I h=>wpAny_Constant_int ⟨.int i,H,I.tok _,⟨_,rfl⟩,h⟩
theorem lO {b j pos}:PE X (.Constant (.bool b) j pos) (tC (.bl b)):=fun _ _ _ H _ I h=>Constant_bool ⟨.bl b,H,I,rfl,h⟩
theorem qK {j pos}:PE X (.Constant .none j pos) (tC .non):=fun _ _ _ H _ I h=>Constant_none ⟨.non,H,I,rfl,h⟩
theorem b0 {x j pos}:PE X (.Constant (.str x) j pos) (tC (.str x)):=fun _ _ _ H _ I h=>Calls.Constant_str ⟨.str x,H,I.tok _,⟨_,rfl⟩,h⟩
def Gl (X:Cx)(x:Str):Prop:=X.env.kindOf x=some .globalImplicit
theorem jR {E:Value->Shared->Prop}{pins:List (Addr×Obj)}{s:Shared}{σ:St}{H:Hp}{x:Str}{u:Value}{pos:Pos}{Q:Value->Shared->Prop}(I:Inv X pins σ H s)(hg:Gl X x)(hm:X.mg x=some u)(h:Q u s)
 (hd:(x == ("__debug__" : Str))=false:=by decide):wpAny (model X.prog X.w) X.A (eval (.Name x pos) X.env) Q E s :=
 Calls.Name_function_global I.ok.kind hg (Calls.loadGlobal_global (by rw [I.ok.glob];exact I.mod.glob.keeps I.bk) hm h) hd
theorem kj {E:Value->Shared->Prop}{pins:List (Addr×Obj)}{s:Shared}{σ:St}{H:Hp}{x:Str}{u:Value}{pos:Pos}{Q:Value->Shared->Prop}(I:Inv X pins σ H s)(hg:Gl X x)(hm:X.mg x=none)(hv:bootBuiltins x=some u)(h:Q u s)
 (hn:x ≠ "__name__" := by decide)(hd:(x == ("__debug__" : Str))=false:=by decide):wpAny (model X.prog X.w) X.A (eval (.Name x pos) X.env) Q E s:=by
 obtain⟨mb,h1,h2⟩:=I.mod.blt;exact Calls.Name_function_global I.ok.kind hg (Calls.loadGlobal_builtin (by rw [I.ok.glob];exact I.mod.glob.keeps I.bk) hm (by rw [I.ok.blt];exact h1.keeps I.bk) ((h2 x hn).trans hv) h) hd
theorem sd {x:Str}{v:V}{u:Value}{pos:Pos}(hg:Gl X x)(hm:X.mg x=some u)(r:RelV v u)(hd:(x == ("__debug__" : Str))=false:=by decide):PE X (.Name x pos) (tC v) :=
 fun _ _ _ H _ I h=>jR I hg hm ⟨v,H,I,r,h⟩ hd
theorem dv {x:Str}{v:V}{u:Value}{pos:Pos}(hg:Gl X x)(hm:X.mg x=none)(hv:bootBuiltins x=some u)(r:RelV v u)(hn:x ≠ "__name__" := by decide)(hd:(x == ("__debug__" : Str))=false:=by decide):PE X (.Name x pos) (tC v) :=
 fun _ _ _ H _ I h=>kj I hg hm hv ⟨v,H,I,r,h⟩ hn hd
variable {a b:Expr}{ta tb:TE}{pos:Pos}
def PC (X:Cx)(op:CmpOp)(a b:Expr)(t:TE):Prop :=
 ∀ (pins:List (Addr×Obj)) (s:Shared) (σ:St) (H:Hp) (Q:VK),Inv X pins σ H s->t σ H Q →
  wpAny (model X.prog X.w) X.A (eval a X.env) (fun v s₁=>wpAny (model X.prog X.w) X.A (eval b X.env) (fun u s₂=>wpAny (model X.prog X.w) X.A (compareOp op v u) (EP X pins σ Q) X.xe s₂) X.xe s₁) X.xe s
def tB (t:TE):TT:=fun σ H Q=>t σ H fun x H1=>∃ c,x=.bl c/\Q c H1
theorem abB {op:CmpOp}{t:TE}(h:PC X op a b t)(h1:behindInMarks op b=false:=by first | exact nobehind _ (by decide) (by decide) | rfl):PT X (.Compare a [op] [b] pos) (tB t):=by
 intro pins s σ H Q I hw;refine wpAny_isTrue_Compare1 (thn (h pins s σ H _ I hw) fun v s1 h1=>thn h1 fun u s2 h2=>thn h2 fun c s3 ⟨x,H1,I1,r1,q1⟩=>?_) h1;obtain⟨d,rfl,q⟩:=q1;cases r1;exact aeG ⟨H1,I1,q⟩
theorem fb {e:Expr}{t:TE}(h:PE X e t)(he:∀ whole,isTrue e X.env whole=(do let v ← whole;standAt e.pos;holding [v] (truthy v)):=by intro _;rfl):PT X e (tB t):=by
 intro pins s σ H Q I hw;refine isTrue_plain (thn (h pins s σ H _ I hw) fun v s1 ⟨x,H1,I1,r1,q1⟩=>?_) (he _);obtain⟨d,rfl,q⟩:=q1;cases r1;exact aeG ⟨H1,I1,q⟩
variable {tA tB':TT}{pG:List Expr}
def adw (t u:TT):TT:=fun σ H Q=>t σ H fun c H1=>if c=true then u σ H1 Q else Q false H1
def tOr (t u:TT):TT:=fun σ H Q=>t σ H fun c H1=>if c=true then Q true H1 else u σ H1 Q
def adm (t:TT):TT:=fun σ H Q=>t σ H fun c H1=>Q (!c) H1
theorem v7 (ha:PT X a tA):PW X (.BoolOp .And [a] pos) tA:=by
 intro wh pins s σ H Q I h;refine isTrue_and (thn (ha pins s σ H Q I h) fun c s1 e=>?_);cases c with
 | true=>exact isTrue_and_nil e
 | false=>exact e
theorem jm (ha:PT X a tA):PW X (.BoolOp .Or [a] pos) tA:=by
 intro wh pins s σ H Q I h;refine isTrue_or (thn (ha pins s σ H Q I h) fun c s1 e=>?_);cases c with
 | false=>exact isTrue_or_nil e
 | true=>exact e
theorem zC (ha:PT X a tA)(hb:PW X (.BoolOp .And (b::pG) pos) tB'):PW X (.BoolOp .And (a::b::pG) pos) (adw tA tB'):=by
 intro wh pins s σ H Q I h;refine isTrue_and (thn (ha pins s σ H _ I h) fun c s1 ⟨H1,I1,q1⟩=>?_);cases c with
 | true=>exact hb wh pins s1 σ H1 Q I1 q1
 | false=>exact⟨H1,I1,q1⟩
theorem lX (ha:PT X a tA)(hb:PW X (.BoolOp .Or (b::pG) pos) tB'):PW X (.BoolOp .Or (a::b::pG) pos) (tOr tA tB'):=by
 intro wh pins s σ H Q I h;refine isTrue_or (thn (ha pins s σ H _ I h) fun c s1 ⟨H1,I1,q1⟩=>?_);cases c with
 | true=>exact⟨H1,I1,q1⟩
 | false=>exact hb wh pins s1 σ H1 Q I1 q1
theorem fu (ha:PT X a tA):PT X (.UnaryOp .Not a pos) (adm tA):=by
 intro pins s σ H Q I h;exact isTrue_not (ha pins s σ H (fun c H1=>Q (!c) H1) I h)
def acz (ta tb:TE):TE:=fun σ H Q=>ta σ H fun x H1=>∃ c,x=.bl c/\if c=true then tb σ H1 Q else Q (.bl false) H1
def acq (ta:TE):TE:=fun σ H Q=>ta σ H fun x H1=>∃ c,x=.bl c/\Q (.bl (!c)) H1
theorem qj {op}{t:TE}(h:PE X a t):PE X (.BoolOp op [a] pos) t:=fun pins s σ H Q I hw=>BoolOp_one (h pins s σ H Q I hw)
theorem jk (ha:PE X a ta)(hb:PE X (.BoolOp .And (b::pG) pos) tb):PE X (.BoolOp .And (a::b::pG) pos) (acz ta tb):=by
 intro pins s σ H Q I h;refine BoolOp_and (thn (ha pins s σ H _ I h) fun v s1 ⟨x,H1,I1,r1,q1⟩=>?_);obtain⟨c,rfl,q1⟩:=q1;cases r1;refine aeG ?_;cases c with
 | true=>exact hb pins s1 σ H1 Q I1 q1
 | false=>exact⟨.bl false,H1,I1,rfl,q1⟩
theorem abS (ha:PE X a ta):PE X (.UnaryOp .Not a pos) (acq ta):=by
 intro pins s σ H Q I h;refine UnaryOp_ (thn (ha pins s σ H _ I h) fun v s1 ⟨x,H1,I1,r1,q1⟩=>?_);obtain⟨c,rfl,q1⟩:=q1;cases r1;exact not_of (aeG ⟨.bl (!c),H1,I1,rfl,q1⟩)
end
def SqL (K:PySem.W.Frag)(H:Hp)(a:Addr)(xs:List V):Prop :=
 Rd H a (.lst xs) ∨
  ∃ (o:Obj) (its:Array Value) (n:Nat),K.lookup a=some o/\o.cls=.type "list" ∧ o.dict=none/\o.data=.seq its n/\its.size<=sizeLine/\Vals xs its.toList
def SqT (K:PySem.W.Frag)(H:Hp)(a:Addr)(xs:List V):Prop :=
 Rd H a (.tup xs) ∨
  ∃ (o:Obj) (its:Array Value) (n:Nat),K.lookup a=some o/\o.cls=.type "tuple" ∧ o.data=.seq its n/\its.size<=sizeLine/\Vals xs its.toList
def adi:Value->Option V
 | .none=>some .non
 | .bool b=>some (.bl b)
 | .int i _=>some (.int i)
 | .str x _=>some (.str x)
 | .bytes b _=>some (.byt b)
 | .float b _=>some (.flt b)
 | .ref a=>some (.ref a)
 | .type n=>some (.ty n)
 | _=>none
theorem RelV.abs {x:V}{u:Value}(r:RelV x u):adi u=some x:=by
 cases x with
 | non=>cases r;rfl
 | bl _=>cases r;rfl
 | int _=>obtain⟨t,rfl⟩:=r;rfl
 | str _=>obtain⟨t,rfl⟩:=r;rfl
 | byt _=>obtain⟨t,rfl⟩:=r;rfl
 | flt _=>obtain⟨t,rfl⟩:=r;rfl
 | ref _=>cases r;rfl
 | ty _=>cases r;rfl
theorem RelV.inj {x y:V}{u:Value}(r:RelV x u)(q:RelV y u):x=y:=aev (r.abs.symm.trans q.abs)
theorem Vals.inj:∀ {xs ys:List V} {us:List Value},Vals xs us->Vals ys us->xs=ys
 | _,_,_,.nil,.nil=>rfl
 | _,_,_,.cons r t,.cons r' t'=>by rw [r.inj r',Vals.inj t t']
section
variable {X:Cx}{pins:List (Addr×Obj)}{σ:St}{H:Hp}{s:Shared}{a:Addr}{xs ys:List V}
theorem SqL.of {K:PySem.W.Frag}(h:H a=some (.lst xs)):SqL K H a xs:=.inl (.inl h)
def aAA:=@SqL.of
theorem SqT.of {K:PySem.W.Frag}(h:H a=some (.tup xs)):SqT K H a xs:=.inl (.inl h)
def aAB:=@SqT.of
theorem Inv.list (I:Inv X pins σ H s)(h:SqL X.K H a xs):∃ its:List Value,Vals xs its/\PlainL s.heap a its.toArray/\xs.length<=sizeLine:=by
 rcases h with h | ⟨o,its,n,hk,hc,hd,hs,hz,r⟩
 ·obtain⟨z,its,n,r,e⟩:=h.ok I.hok;exact⟨its,r,⟨_,n,e,rfl,rfl,rfl⟩,z⟩
 ·refine⟨its.toList,r,⟨o,n,I.kIn a o hk,hc,hd,by simpa using hs⟩,?_⟩;have e:=r.length;simp only [aec] at e;lia
theorem Inv.tuple (I:Inv X pins σ H s)(h:SqT X.K H a xs):∃ its:List Value,Vals xs its/\IsTup s.heap a its.toArray/\xs.length<=sizeLine:=by
 rcases h with h | ⟨o,its,n,hk,hc,hs,hz,r⟩
 ·obtain⟨z,its,r,p⟩:=h.ok I.hok;exact⟨its,r,p,z⟩
 ·refine⟨its.toList,r,⟨o,I.kIn a o hk,hc,n,by simpa using hs⟩,?_⟩;have e:=r.length;simp only [aec] at e;lia
theorem Inv.list_inj (I:Inv X pins σ H s)(h:SqL X.K H a xs)(h':SqL X.K H a ys):xs=ys:=by
 obtain⟨its,r,⟨o,n,e,_,_,d⟩,_⟩:=I.list h;obtain⟨its',r',⟨o',n',e',_,_,d'⟩,_⟩:=I.list h';rw [e] at e';cases e';rw [d] at d';injection d' with d1 _
 have:its=its':=by simpa using aeu Array.toList d1
 subst this;exact r.inj r'
theorem Inv.tuple_inj (I:Inv X pins σ H s)(h:SqT X.K H a xs)(h':SqT X.K H a ys):xs=ys:=by
 obtain⟨its,r,⟨o,e,_,n,d⟩,_⟩:=I.tuple h;obtain⟨its',r',⟨o',e',_,n',d'⟩,_⟩:=I.tuple h';rw [e] at e';cases e';rw [d] at d';injection d' with d1 _
 have:its=its':=by simpa using aeu Array.toList d1
 subst this;exact r.inj r'
end
abbrev Cx.wish (X:Cx)(E:Value->Shared->Prop):Cx:={ X with xe:=E }
abbrev Cx.nox (X:Cx):Cx:=X.wish fun _ _=>False
theorem Cx.Ok.wish {X:Cx}(ok:X.Ok)(E:Value->Shared->Prop):(X.wish E).Ok :=
 ⟨ok.mod,ok.kind,ok.glob,ok.blt,ok.above,ok.inj,ok.has,ok.cab,ok.hd,ok.frames,ok.stk,ok.exf,ok.bs,ok.bsz,ok.noex,ok.exfs,ok.funs,ok.frf⟩
theorem Cx.Ok.unwish {X:Cx}{E:Value->Shared->Prop}(ok:(X.wish E).Ok):X.Ok :=
 ⟨ok.mod,ok.kind,ok.glob,ok.blt,ok.above,ok.inj,ok.has,ok.cab,ok.hd,ok.frames,ok.stk,ok.exf,ok.bs,ok.bsz,ok.noex,ok.exfs,ok.funs,ok.frf⟩
section
variable {X:Cx}{pins:List (Addr×Obj)}{σ:St}{H:Hp}{s:Shared}{E:Value->Shared->Prop}
theorem Inv.wish (I:Inv X pins σ H s)(E:Value->Shared->Prop):Inv (X.wish E) pins σ H s:=⟨I.ok.wish E,I.os,I.bare,I.base,I.loc,I.cell,I.free,I.freeC,I.pin,I.hok,I.len⟩
theorem Inv.unwish (I:Inv (X.wish E) pins σ H s):Inv X pins σ H s:=⟨I.ok.unwish,I.os,I.bare,I.base,I.loc,I.cell,I.free,I.freeC,I.pin,I.hok,I.len⟩
theorem SP.unwish {D:Ends}{f:Flow}{s':Shared}(h:SP (X.wish E) pins D f s'):SP X pins D f s':=by
 cases f with
 | next=>obtain⟨σ',H',I,q⟩:=h;exact⟨σ',H',I.unwish,q⟩
 | brk=>obtain⟨σ',H',I,q⟩:=h;exact⟨σ',H',I.unwish,q⟩
 | cont=>obtain⟨σ',H',I,q⟩:=h;exact⟨σ',H',I.unwish,q⟩
 | ret u=>obtain⟨v,σ',H',I,r,q⟩:=h;exact⟨v,σ',H',I.unwish,r,q⟩
theorem PSs.nox {st:List Stmt}{t:TS}(h:PSs X.nox st t):PSs X st t:=fun pins s σ H D I hw =>
 aed (h pins s σ H D (I.wish _) hw) (fun _ _ q=>q.unwish) fun _ _ z=>False.elim z
end
section
variable {X:Cx}{st:Stmt}{pG:List Stmt}{t u:TS}{e:Expr}{te:TE}{pos:Pos}
def yh:TS:=fun D σ H=>D.nx σ H
def aa7 (t u:TS):TS:=fun D σ H=>t { D with nx:=u D } σ H
theorem aS:PSs X [] yh:=fun _ _ σ H _ I h=>afQ ⟨σ,H,I,h⟩
theorem ag (h1:PS X st t)(h2:PSs X pG u):PSs X (st::pG) (aa7 t u):=by
 intro pins s σ H D I h;refine wpAny_execs_cons (thn (h1 pins s σ H { D with nx:=u D } I h) fun f s1 q=>?_);cases f with
 | next =>
  obtain⟨σ',H',I',q⟩:=q;exact h2 pins s1 σ' H' D I' q
 | ret v=>exact q
 | brk=>exact q
 | cont=>exact q
theorem ao (h1:PS X st t):PSs X [st] t:=by
 intro pins s σ H D I h;refine wpAny_execs_cons (thn (h1 pins s σ H D I h) fun f s1 q=>?_);cases f with
 | next=>exact afQ q
 | ret v=>exact q
 | brk=>exact q
 | cont=>exact q
theorem Inv.quiet {pins:List (Addr×Obj)}{σ:St}{H:Hp}{s:Shared}(I:Inv X pins σ H s):interactive X.env=false:=by simp [interactive,I.ok.kind]
def acC (te:TE):TS:=fun D σ H=>te σ H fun _ H1=>D.nx σ H1
theorem dy (he:PE X e te)(hs:swapsWith e none pos.line X.env=pure false:=by rfl):PS X (.Expr e pos) (acC te):=by
 intro pins s σ H D I h;exact wpAny_Expr_any (thn (he pins s σ H _ I h) fun v s1 ⟨x,H1,I1,r1,q1⟩=>⟨σ,H1,I1,q1⟩) I.quiet hs
def zK (te:TE):TS:=fun D σ H=>te σ H D.rt
theorem aH (he:PE X e te):PS X (.Return (some e) pos) (zK te):=by
 intro pins s σ H D I h;exact wpAny_Return_some (thn (he pins s σ H _ I h) fun v s1 ⟨x,H1,I1,r1,q1⟩=>⟨x,σ,H1,I1,r1,q1⟩)
def adp (c:TT)(t u:TS):TS:=fun D σ H=>c σ H fun b H1=>if b=true then t D σ H1 else u D σ H1
theorem dN {c:Expr}{a b:List Stmt}{tc:TT}(hc:PT X c tc)(ha:PSs X a t)(hb:PSs X b u):PS X (.If c a b pos) (adp tc t u):=by
 intro pins s σ H D I h;refine wpAny_If (thn (hc pins s σ H _ I h) fun d s1 ⟨H1,I1,q1⟩=>?_);cases d with
 | true=>exact ha pins s1 σ H1 D I1 q1
 | false=>exact hb pins s1 σ H1 D I1 q1
def abj:TS:=fun _ _ _=>False
theorem qy {sts:List Stmt}:PSs X sts abj:=fun _ _ _ _ _ _ h=>h.elim
end
abbrev TG:=V->St->Hp->(St->Hp->Prop)->Prop
abbrev TGs:=List V->St->Hp->(St->Hp->Prop)->Prop
def PG (X:Cx)(target:Expr)(t:TG):Prop :=
 ∀ (pins:List (Addr×Obj)) (s:Shared) (σ:St) (H:Hp) (v:V) (u:Value) (Q:St->Hp->Prop),Inv X pins σ H s->RelV v u->t v σ H Q →
  wpAny (model X.prog X.w) X.A (assign target X.env u) (fun _ s'=>∃ σ' H',Inv X pins σ' H' s'/\Q σ' H') X.xe s
def PGs (X:Cx)(ts:List Expr)(t:TGs):Prop :=
 ∀ (pins:List (Addr×Obj)) (s:Shared) (σ:St) (H:Hp) (vs:List V) (us:List Value) (Q:St->Hp->Prop),Inv X pins σ H s->Vals vs us->t vs σ H Q →
  wpAny (model X.prog X.w) X.A (assignInOrder ((assignEach ts X.env).map (·.2)) us) (fun _ s'=>∃ σ' H',Inv X pins σ' H' s'/\Q σ' H') X.xe s
abbrev abq:=V->V->V->Hp->(Hp->Prop)->Prop
def acG (X:Cx)(t:abq):Prop :=
 ∀ (pins:List (Addr×Obj)) (s:Shared) (σ:St) (H:Hp) (o i v:V) (ov iv u:Value) (Q:Hp->Prop),Inv X pins σ H s->RelV o ov->RelV i iv->RelV v u->t o i v H Q →
  wpAny (model X.prog X.w) X.A (setItem ov iv u) (fun _ s'=>∃ H',Inv X pins σ H' s'/\Q H') X.xe s
abbrev TIp:=V->V->Hp->VK->Prop
def PIp (X:Cx)(op:Operator)(t:TIp):Prop :=
 ∀ (pins:List (Addr×Obj)) (s:Shared) (σ:St) (H:Hp) (x y:V) (v u:Value) (Q:VK),Inv X pins σ H s->RelV x v->RelV y u->t x y H Q →
  wpAny (model X.prog X.w) X.A (inplaceOp op v u) (EP X pins σ Q) X.xe s
section
variable {X:Cx}{pos:Pos}
def cw (i:Nat):TG:=fun v σ H Q=>Q (σ.set i (some v)) H
theorem au {i:Nat}{x:Str}(hN:X.N.Nodup)(hi:X.N[i]? = some x)(hx:Loc X.env.scope x)(hf:X.fn x=true\/X.env.scope.names.lookup x=some .local:=by first | exact .inl rfl | exact .inr rfl | assumption):PG X (.Name x pos) (cw i):=by
 intro pins s σ H v u Q I r h;exact agD (o4 I hN hi hx r (fun s' I'=>⟨_,H,I',h⟩) hf)
def aco:TGs:=fun vs σ H Q=>vs=[]/\Q σ H
def qY (t:TG)(u:TGs):TGs:=fun vs σ H Q=>∃ v r,vs=v::r/\t v σ H fun σ' H'=>u r σ' H' Q
theorem c6:PGs X [] aco:=by
 intro pins s σ H vs us Q I r h;obtain⟨e,h⟩:=h;subst e;cases r;exact assignInOrder_nil ⟨σ,H,I,h⟩
theorem aF {e:Expr}{es:List Expr}{t:TG}{u:TGs}(h1:PG X e t)(h2:PGs X es u)
 (hs:(assignEach (e::es) X.env).map (·.2)=assign e X.env::(assignEach es X.env).map (·.2):=by rfl):PGs X (e::es) (qY t u):=by
 intro pins s σ H vs us Q I r h;obtain⟨v,vr,e1,h⟩:=h;subst e1;cases r with
 | cons r rr =>
  rw [hs];refine assignInOrder_cons (thn (h1 pins s σ H _ _ _ I r h) fun _ s1 ⟨σ1,H1,I1,q1⟩=>?_);exact h2 pins s1 σ1 H1 _ _ Q I1 rr q1
def abY (K:PySem.W.Frag)(n:Nat)(t:TGs):TG:=fun v σ H Q=>∃ a xs,v=.ref a/\SqT K H a xs/\xs.length=n/\t xs σ H Q
theorem kh {es:List Expr}{k:Nat}{t:TGs}{n:Nat}(hc:X.calm=true)(h:PGs X es t)
 (hn:(assignEach es X.env).length=n:=by rfl)(hst:(assignEach es X.env).findIdx? (·.1)=none:=by rfl):PG X (.Tuple es k pos) (abY X.K n t):=by
 intro pins s σ H v u Q I r hw;obtain⟨a,xs,e1,hq,hl,hw⟩:=hw;subst e1;cases r;obtain⟨its,rv,ht,hz⟩:=I.tuple hq;refine assign_Tuple_tuple (I.ok.hd hc) ht (by simp [hn,← hl,rv.length]) hst fun h' hx=>?_;have I1:Inv X pins σ H { s with heap:=h' }:=I.kept (t':=s.toks) fun b o e=>hx b o (ad2 (adQ e)) e;exact h pins _ σ H xs _ Q I1 (by simpa using rv) hw
def adu (to ti:TE)(t:abq):TG:=fun v σ H Q=>to σ H fun o H1=>ti σ H1 fun i H2=>t o i v H2 fun H3=>Q σ H3
theorem tE {o i:Expr}{to ti:TE}{t:abq}(ho:PE X o to)(hi:PE X i ti)(hs:acG X t)
 (ha:∀ v,assign (.Subscript o i pos) X.env v=(do
  let ov ← holding [v] (eval o X.env)
  let iv ← holding [v,ov] (eval i X.env)
  standAt pos
  holding [v,ov,iv] (setItem ov iv v)
  release [v,ov,iv] []):=by intro _;rfl):PG X (.Subscript o i pos) (adu to ti t):=by
 intro pins s σ H v u Q I r h;rw [ha];refine adE (aeQ (thn (ho pins s σ H _ I h) fun ov s1 ⟨x,H1,I1,r1,q1⟩=>?_));refine adE (aeQ (thn (hi pins s1 σ H1 _ I1 q1) fun iv s2 ⟨y,H2,I2,r2,q2⟩=>?_));refine adE (aeC (adE (aeQ (thn (hs pins s2 σ H2 x y v ov iv u _ I2 r1 r2 r q2) fun _ s3 ⟨H3,I3,q3⟩=>?_))));exact wpAny_release ⟨σ,H3,I3,q3⟩
def yg (te:TE)(g:TG):TS:=fun D σ H=>te σ H fun x H1=>g x σ H1 D.nx
theorem nz {tg e:Expr}{te:TE}{g:TG}(he:PE X e te)(hg:PG X tg g)(hs:swapsWithSole [tg] e pos.line X.env=pure false:=by rfl)(hw:swappedStores [tg] e X.env=pure none:=by rfl)
 (h1:(assignEach [tg] X.env).map (·.2)=[assign tg X.env]:=by rfl):PS X (.Assign [tg] e pos) (yg te g):=by
 intro pins s σ H D I h;refine wpAny_Assign_stores (thn (he pins s σ H _ I h) fun v s1 ⟨x,H1,I1,r1,q1⟩=>?_) hs hw;rw [h1];exact thn (hg pins s1 σ H1 x v _ I1 r1 q1) fun _ s2 q=>q
theorem ay {i:Nat}{x:Str}{e:Expr}{te:TE}{pos':Pos}(hN:X.N.Nodup)(hi:X.N[i]? = some x)(hx:Loc X.env.scope x)(he:PE X e te)(hs:swapsWith e (some (.Name x pos')) pos.line X.env=pure false:=by rfl)(hf:X.fn x=true\/X.env.scope.names.lookup x=some .local:=by first | exact .inl rfl | exact .inr rfl | assumption) :
 PS X (.Assign [.Name x pos'] e pos) (yg te (cw i)):=by
 intro pins s σ H D I h;refine wpAny_Assign_Name (thn (he pins s σ H _ I h) fun v s1 ⟨y,H1,I1,r1,q1⟩=>?_) hs;exact o4 I1 hN hi hx r1 (fun s2 I2=>⟨_,H1,I2,q1⟩) hf
def adh (i:Nat)(te:TE)(ti:TIp):TS:=fun D σ H=>∃ x,σ[i]? = some (some x)/\te σ H fun y H1=>ti x y H1 fun z H2=>D.nx (σ.set i (some z)) H2
theorem xt {i:Nat}{x:Str}{e:Expr}{te:TE}{op:Operator}{ti:TIp}{pos':Pos}(hN:X.N.Nodup)(hi:X.N[i]? = some x)(hx:Loc X.env.scope x)(he:PE X e te)(ho:PIp X op ti)(hf:X.fn x=true\/X.env.scope.names.lookup x=some .local:=by first | exact .inl rfl | exact .inr rfl | assumption) :
 PS X (.AugAssign (.Name x pos') op e pos) (adh i te ti):=by
 intro pins s σ H D I h;obtain⟨v,e1,h⟩:=h;obtain⟨m,hn,hl⟩:=I.loc;have vis:Vis X.env.scope x:=by rcases hx with k | k;exact .inl k;exact .inr (.inl k)
 obtain⟨u,r,l⟩:=hl i x v hi e1 vis;refine wpAny_AugAssign_Name ?_;have go:wpAny (model X.prog X.w) X.A (eval e X.env) (fun w s₂=>wpAny (model X.prog X.w) X.A (inplaceOp op u w) (fun r s₃=>wpAny (model X.prog X.w) X.A (storeName X.env x r) (fun _=>SP X pins D .next) X.xe s₃) X.xe s₂) X.xe s:=by
  refine thn (he pins s σ H _ I h) fun w s1 ⟨y,H1,I1,r1,q1⟩=>?_;refine thn (ho pins s1 σ H1 v y u w _ I1 r r1 q1) fun z s2 ⟨zv,H2,I2,r2,q2⟩=>?_;exact o4 I2 hN hi hx r2 (fun s3 I3=>⟨_,H2,I3,q2⟩) hf
 rcases l with ⟨hk,hm⟩ | ⟨hk,c,hc,hcell⟩
 ·exact wpAny_loadName_local I.ok.kind hk hn hm go
 ·rcases hk with hk | hk
  ·exact wpAny_loadName_cell I.ok.kind hk hc hcell go
  ·rcases hx with k | k
   ·have:X.env.scope.names.lookup x=some .free:=hk;rw [k] at this;cases this
   ·have:X.env.scope.names.lookup x=some .free:=hk;rw [k] at this;cases this
def acS (to ti te:TE)(tget:V->V->Hp->VK->Prop)(tip:TIp)(tset:abq):TS:=fun D σ H=>to σ H fun o H1=>ti σ H1 fun i H2=>tget o i H2 fun x H3=>te σ H3 fun y H4=>tip x y H4 fun z H5=>tset o i z H5 fun H6=>D.nx σ H6
def ac3 (X:Cx)(t:V->V->Hp->VK->Prop):Prop :=
 ∀ (pins:List (Addr×Obj)) (s:Shared) (σ:St) (H:Hp) (o i:V) (ov iv:Value) (Q:VK),Inv X pins σ H s->RelV o ov->RelV i iv->t o i H Q →
  wpAny (model X.prog X.w) X.A (getItem ov iv) (EP X pins σ Q) X.xe s
theorem aas {o i e:Expr}{to ti te:TE}{tget:V->V->Hp->VK->Prop}{tip:TIp}{tset:abq}{op:Operator}{tpos:Pos}(ho:PE X o to)(hi:PE X i ti)(hg:ac3 X tget)(he:PE X e te)(hp:PIp X op tip)(hs:acG X tset)
 (ha:∀ ov iv new,augStore i ov iv new=(do holding [new,ov,iv] (setItem ov iv new);release [new,ov,iv] [];pure .next):=by intros;rfl):PS X (.AugAssign (.Subscript o i tpos) op e pos) (acS to ti te tget tip tset):=by
 intro pins s σ H D I h;refine agh (thn (ho pins s σ H _ I h) fun ov s1 ⟨x1,H1,I1,r1,q1⟩=>?_) ha;refine thn (hi pins s1 σ H1 _ I1 q1) fun iv s2 ⟨x2,H2,I2,r2,q2⟩=>?_;refine thn (hg pins s2 σ H2 x1 x2 ov iv _ I2 r1 r2 q2) fun old s3 ⟨x3,H3,I3,r3,q3⟩=>?_;refine thn (he pins s3 σ H3 _ I3 q3) fun v s4 ⟨x4,H4,I4,r4,q4⟩=>?_;refine thn (hp pins s4 σ H4 x3 x4 old v _ I4 r3 r4 q4) fun new s5 ⟨x5,H5,I5,r5,q5⟩=>?_;exact thn (hs pins s5 σ H5 x1 x2 x5 ov iv new _ I5 r1 r2 r5 q5) fun _ s6 ⟨H6,I6,q6⟩=>⟨σ,H6,I6,q6⟩
def ipI (f:Int->Int->Int):TIp:=fun x y H Q=>∃ i j,x=.int i/\y=.int j/\Q (.int (f i j)) H
theorem vX:PIp X .Add (ipI fun i j=>i+j):=by
 intro pins s σ H x y v u Q I r1 r2 h;obtain⟨i,j,e1,e2,q⟩:=h;subst e1;subst e2;obtain⟨t,rfl⟩:=r1;obtain⟨t',rfl⟩:=r2;exact iadd_int ⟨.int _,H,I.tok _,⟨_,rfl⟩,q⟩
theorem abD:PIp X .Sub (ipI fun i j=>i - j):=by
 intro pins s σ H x y v u Q I r1 r2 h;obtain⟨i,j,e1,e2,q⟩:=h;subst e1;subst e2;obtain⟨t,rfl⟩:=r1;obtain⟨t',rfl⟩:=r2;exact isub_int ⟨.int _,H,I.tok _,⟨_,rfl⟩,q⟩
end
section
variable {X:Cx}{pos:Pos}
def abf (c:TT)(tb:TS):TS:=fun D σ H=>∃ W:Nat->St->Hp->Prop,(∃ m,W m σ H)/\∀ m σ H,W m σ H →
 c σ H fun b H1=>if b=true then ∃ N:St->Hp->Prop,(∀ σ' H',N σ' H'->∃ m',m' < m/\W m' σ' H')/\tb { D with nx:=N,ct:=N,bk:=D.nx } σ H1 else D.nx σ H1
theorem kQ {c:Expr}{body:List Stmt}{tc:TT}{tb:TS}(hp:PassesOwn (model X.prog X.w) X.A X.env X.xe)(hc:PT X c tc)(hb:PSs X body tb):PS X (.While c body [] pos) (abf tc tb):=by
 intro pins s σ H D I h;obtain⟨W,⟨m0,w0⟩,turn⟩:=h;refine wpAny_While (codeAny_whileLoop (fun n s'=>∃ σ' H',Inv X pins σ' H' s'/\W n σ' H') ?_ m0 ⟨σ,H,I,w0⟩);rintro n s1 ⟨σ1,H1,I1,w1⟩;refine afl hp (thn (hc pins s1 σ1 H1 _ I1 (turn n σ1 H1 w1)) fun b s2 ⟨H2,I2,q2⟩=>?_);cases b with
 | true =>
  obtain⟨N,hN,q2⟩:=q2;rw [if_pos rfl];refine afl hp (thn (hb pins s2 σ1 H2 _ I2 q2) fun f s3 q3=>?_);cases f with
  | next =>
   obtain⟨σ3,H3,I3,n3⟩:=q3;obtain⟨m',hm,w3⟩:=hN σ3 H3 n3;exact⟨m',hm,σ3,H3,I3,w3⟩
  | cont =>
   obtain⟨σ3,H3,I3,n3⟩:=q3;obtain⟨m',hm,w3⟩:=hN σ3 H3 n3;exact⟨m',hm,σ3,H3,I3,w3⟩
  | brk=>exact q3
  | ret v=>exact q3
 | false =>
  rw [if_neg adM];exact afQ ⟨σ1,H2,I2,q2⟩
end
structure It where
 go:Nat->Hp->Prop
 yld:Nat->Hp->V->Hp->Prop
 stop:Nat->Hp->Prop
def jE (X:Cx)(pins:List (Addr×Obj))(H:Hp)(b:Addr):Prop :=
 H b=none/\b≠X.env.locals/\b ∉ X.fs/\(b∈X.ex\/X.s₀.heap.objs.size<=b)/\(∀ x c,X.env.cells.lookup x=some c->c≠b)/\∀ p∈X.pn++pins,p.1≠b
theorem Inv.fpOk {X:Cx}{pins:List (Addr×Obj)}{σ:St}{H H':Hp}{s:Shared}{b:Addr}(I:Inv X pins σ H s)(hb:s.heap.objs.size<=b)(hn:H' b=none):jE X pins H' b:=by
 refine⟨hn,af5 (adU I.lt hb),I.nofs hb,.inr (adZ I.sz hb),fun x c e z=>?_,fun p hp z=>?_⟩
 ·obtain⟨v,q⟩:=I.cell x c e;exact absurd (adU q.lt (by rw [z];exact hb)) (aez _)
 ·exact absurd (adU (adQ (I.pin p hp).1) (by rw [z];exact hb)) (aez _)
structure zg (P:Program)(w:World)(K:PySem.W.Frag)(tg:Expr)(J:It)(fp:List Addr)(it:Addr)(tn:Nat->Heap->Prop):Prop where
 mem:it∈fp
 obj:∀ i h,tn i h->∀ b∈fp,∃ o,h.get? b=some o/\∀ v,o.data≠.cell v
 keep:∀ i h h',tn i h->(∀ b∈fp,∀ o,h.get? b=some o->h'.get? b=some o)->tn i h'
 item:∀ (X:Cx),X.prog=P->X.w=w->X.K=K->X.calm=true->∀ (i:Nat) (pins:List (Addr×Obj)) (s:Shared) (σ:St) (H:Hp) (E:Value->Shared->Prop),Inv X pins σ H s->(∀ b∈fp,jE X pins H b)->tn i s.heap->J.go i H →
  wpAny (model P w) X.A (pyNext (.ref it)) (fun r s1=>∃ u,r=some u ∧
   wpAny (model P w) X.A (letOwnedTupleGo tg (.ref it) u) (fun _ s2=>∃ x H',Inv X pins σ H' s2/\RelV x u/\J.yld i H x H'/\tn (i+1) s2.heap/\∀ b∈fp,H' b=none) E s1) E s
 done:∀ (X:Cx),X.prog=P->X.w=w->X.K=K->X.calm=true->∀ (i:Nat) (pins:List (Addr×Obj)) (s:Shared) (σ:St) (H:Hp) (E:Value->Shared->Prop),Inv X pins σ H s->(∀ b∈fp,jE X pins H b)->tn i s.heap->J.stop i H →
  wpAny (model P w) X.A (pyNext (.ref it)) (fun r s1=>r=none/\Inv X pins σ H s1) E s
 self:∀ (A:Around) (i:Nat) (s:Shared) (Q:Value->Shared->Prop) (E:Value->Shared->Prop),tn i s.heap->Q (.ref it) s->wpAny (model P w) A (pyIter (.ref it)) Q E s
abbrev TI:=St->Hp->(It->Hp->Prop)->Prop
def PIE (X:Cx)(pins:List (Addr×Obj))(σ:St)(tg:Expr)(R:It->Hp->Prop)(itv:Value)(s2:Shared):Prop :=
 ∃ (it:Addr) (fp:List Addr) (tn:Nat->Heap->Prop) (J:It) (H':Hp),itv=.ref it/\Inv X pins σ H' s2/\zg X.prog X.w X.K tg J fp it tn/\tn 0 s2.heap/\(∀ b∈fp,jE X pins H' b)/\R J H'
def PI (X:Cx)(tg iter:Expr)(wi:TI):Prop :=
 ∀ (pins:List (Addr×Obj)) (s:Shared) (σ:St) (H:Hp) (R:It->Hp->Prop),Inv X pins σ H s->wi σ H R →
  wpAny (model X.prog X.w) X.A (eval iter X.env) (fun v s1=>wpAny (model X.prog X.w) X.A (pyIter v) (PIE X pins σ tg R) X.xe s1) X.xe s
theorem yc {M:Model}{A:Around}{E:Value->Shared->Prop}{s:Shared}{tg:Expr}{it:Addr}{u:Value}{o:Obj}{n:String}{vs:Array Value}{Q:Unit->Shared->Prop}(ho:s.heap.get? it=some o)(hc:o.cls=.type n)(hd:o.data=.fields vs)
 (hn:["enumerate","zip","dict_itemiterator","dict_reverseitemiterator","odict_iterator","itertools.zip_longest","itertools.pairwise"].contains n=false)(hQ:Q () s):wpAny M A (letOwnedTupleGo tg (.ref it) u) Q E s:=by
 unfold letOwnedTupleGo;cases tg<;>first
  | exact adJ hQ
  | (cases u<;>first
   | exact adJ hQ
   | (refine adE (wpAny_load ho ?_);rw [hc,hd];show wpAny M A (if (["enumerate","zip","dict_itemiterator","dict_reverseitemiterator","odict_iterator","itertools.zip_longest","itertools.pairwise"].contains n && vs[0]? == some (rawInt _))=true then _ else _) Q E s;rw [if_neg (by intro h;rw [hn,Bool.false_and] at h;cases h)];exact adJ hQ))
def Itl (K:PySem.W.Frag)(a:Addr):It :=
 ⟨fun i H=>∃ xs x,SqL K H a xs/\xs[i]? = some x,fun i H x H'=>H'=H/\∀ xs,SqL K H a xs->xs[i]? = some x,fun i H=>∃ xs,SqL K H a xs/\xs.length<=i⟩
def Itt (K:PySem.W.Frag)(a:Addr):It :=
 ⟨fun i H=>∃ xs x,SqT K H a xs/\xs[i]? = some x,fun i H x H'=>H'=H/\∀ xs,SqT K H a xs->xs[i]? = some x,fun i H=>∃ xs,SqT K H a xs/\xs.length<=i⟩
def Itr (lo:Int)(n:Nat):It:=⟨fun i _=>i < n,fun i H x H'=>H'=H/\x=.int (lo+i),fun i _=>n<=i⟩
theorem wV {P:Program}{w:World}{K:PySem.W.Frag}{tg:Expr}(a it:Addr):zg P w K tg (Itl K a) [it] it (fun i h=>h.IsListIter it a i) where
 mem:=by simp
 obj:=fun i h st b hb=>by
  have e:b=it:=by simpa using hb
  subst e;obtain⟨o,e,c,d⟩:=st;exact⟨o,e,fun v z=>by rw [d] at z;cases z⟩
 keep:=fun i h h' st k=>st.at fun o e=>k it (by simp) o e
 item:=by
  intro X hP hw hK hc i pins s σ H E I hf st hg;subst hP hw hK;obtain⟨xs,x,hq,hx⟩:=hg;obtain⟨its,rv,p,hz⟩:=I.list hq;obtain⟨u,hu,ru⟩:=rv.get hx;obtain⟨f0,f1,f2,f3,f4,f5⟩:=hf it (by simp);refine wpAny_pyNext_list_item st p.isList (x:=u) (by simpa using hu) fun h' st' sb=>?_;have I1:Inv X pins σ H { s with heap:=h' }:=I.turned (t':=s.toks) (fun b o hb e=>(sb.2 b hb).trans e) f0 f1 f3 f4 f5;obtain⟨o,e,c,d⟩:=id st';exact⟨u,rfl,yc (s:={ s with heap:=h' }) e c d (by decide) ⟨x,H,I1,ru,⟨rfl,fun ys hy=>by rw [I.list_inj hy hq];exact hx⟩,st',fun b hb=>(hf b hb).1⟩⟩
 done:=by
  intro X hP hw hK hc i pins s σ H E I hf st hg;subst hP hw hK;obtain⟨xs,hq,hx⟩:=hg;obtain⟨its,rv,p,hz⟩:=I.list hq;obtain⟨f0,f1,f2,f3,f4,f5⟩:=hf it (by simp);have hl:=rv.length;exact wpAny_pyNext_list_end (I.ok.hd hc) st p.isList (by simp;lia) fun h' eb=>⟨rfl,I.turned (t':=s.toks) (fun b o hb e=>eb b o hb e) f0 f1 f3 f4 f5⟩
 self:=fun _ _ _ _ _ st h=>wpAny_pyIter_listiter st h
theorem uM {P:Program}{w:World}{K:PySem.W.Frag}{tg:Expr}(a it:Addr):zg P w K tg (Itt K a) [it] it (fun i h=>h.IsTupleIter it a i) where
 mem:=by simp
 obj:=fun i h st b hb=>by
  have e:b=it:=by simpa using hb
  subst e;obtain⟨o,e,c,d⟩:=st;exact⟨o,e,fun v z=>by rw [d] at z;cases z⟩
 keep:=fun i h h' st k=>st.at fun o e=>k it (by simp) o e
 item:=by
  intro X hP hw hK hc i pins s σ H E I hf st hg;subst hP hw hK;obtain⟨xs,x,hq,hx⟩:=hg;obtain⟨its,rv,p,hz⟩:=I.tuple hq;obtain⟨u,hu,ru⟩:=rv.get hx;obtain⟨f0,f1,f2,f3,f4,f5⟩:=hf it (by simp);refine wpAny_pyNext_tuple_item st (show s.heap.IsTuple a its.toArray from p) (x:=u) (by simpa using hu) fun h' st' sb=>?_;have I1:Inv X pins σ H { s with heap:=h' }:=I.turned (t':=s.toks) (fun b o hb e=>(sb.2 b hb).trans e) f0 f1 f3 f4 f5;obtain⟨o,e,c,d⟩:=id st';exact⟨u,rfl,yc (s:={ s with heap:=h' }) e c d (by decide) ⟨x,H,I1,ru,⟨rfl,fun ys hy=>by rw [I.tuple_inj hy hq];exact hx⟩,st',fun b hb=>(hf b hb).1⟩⟩
 done:=by
  intro X hP hw hK hc i pins s σ H E I hf st hg;subst hP hw hK;obtain⟨xs,hq,hx⟩:=hg;obtain⟨its,rv,p,hz⟩:=I.tuple hq;obtain⟨f0,f1,f2,f3,f4,f5⟩:=hf it (by simp);have hl:=rv.length;exact wpAny_pyNext_tuple_end (I.ok.hd hc) st (show s.heap.IsTuple a its.toArray from p) (by simp;lia) fun h' eb=>⟨rfl,I.turned (t':=s.toks) (fun b o hb e=>eb b o hb e) f0 f1 f3 f4 f5⟩
 self:=fun _ _ _ _ _ st h=>wpAny_pyIter_tupleiter st h
theorem u4 {P:Program}{w:World}{K:PySem.W.Frag}{tg:Expr}(it:Addr)(lo:Int)(n:Nat):zg P w K tg (Itr lo n) [it] it (fun i h=>IsRangeIter h it (lo+(i:Nat) * 1) ((n:Int) - (i:Nat)) 1) where
 mem:=by simp
 obj:=fun i h st b hb=>by
  have e:b=it:=by simpa using hb
  subst e;exact⟨_,st,fun v z=>by
   have z':Data.fields _=Data.cell v:=z;cases z'⟩
 keep:=fun i h h' st k=>k it (by simp) _ st
 item:=by
  intro X hP hw hK hc i pins s σ H E I hf st hg;subst hP hw hK;obtain⟨f0,f1,f2,f3,f4,f5⟩:=hf it (by simp);have W:=Walks.range (prog:=X.prog) (w:=X.w) (I.ok.hd hc) it lo 1 n;refine W.item i s _ _ hg st fun v h' tk hv st' kk=>?_;obtain⟨t,rfl⟩:=hv;have I1:Inv X pins σ H { s with heap:=h',toks:=tk }:=I.turned (fun b o hb e=>kk b o (by simpa using hb) e) f0 f1 f3 f4 f5;refine⟨_,rfl,yc (s:={ s with heap:=h',toks:=tk }) (n := "range_iterator") st' rfl rfl (by decide) ⟨.int (lo+i),H,I1,⟨t,?_⟩,⟨rfl,rfl⟩,st',fun b hb=>(hf b hb).1⟩⟩;rw [Int.mul_one]
 done:=by
  intro X hP hw hK hc i pins s σ H E I hf st hg;subst hP hw hK;obtain⟨f0,f1,f2,f3,f4,f5⟩:=hf it (by simp);exact wpAny_pyNext_range_end (I.ok.hd hc) st (by have:n<=i:=hg;lia) fun h' eb=>⟨rfl,I.turned (t':=s.toks) (fun b o hb e=>eb b o hb e) f0 f1 f3 f4 f5⟩
 self:=fun _ _ _ _ _ st h=>wpAny_pyIter_rangeiter st h
section
variable {X:Cx}{tg:Expr}
def yu (K:PySem.W.Frag)(tl:TE):TI:=fun σ H R=>tl σ H fun x H1=>∃ a,x=.ref a/\(∃ xs,SqL K H1 a xs)/\R (Itl K a) H1
def adB (K:PySem.W.Frag)(tl:TE):TI:=fun σ H R=>tl σ H fun x H1=>∃ a,x=.ref a/\(∃ xs,SqT K H1 a xs)/\R (Itt K a) H1
theorem aX {l:Expr}{tl:TE}(hl:PE X l tl):PI X tg l (yu X.K tl):=by
 intro pins s σ H R I h;refine thn (hl pins s σ H _ I h) fun v s1 ⟨x,H1,I1,r1,q1⟩=>?_;obtain⟨a,e,⟨xs,hq⟩,q⟩:=q1;subst e;cases r1;obtain⟨its,rv,p,hz⟩:=I1.list hq;refine agE p.isList ?_;refine⟨s1.heap.objs.size,[s1.heap.objs.size],_,_,H1,rfl,I1.kept (t':=s1.toks) fun b o e=>adH _ e,wV a _,⟨_,adX _ rfl,rfl,rfl⟩,fun b hb=>?_,q⟩;have e:b=s1.heap.objs.size:=by simpa using hb
 subst e;exact I1.fpOk (adL _) (I1.hok.fresh (adL _))
theorem ace {l:Expr}{tl:TE}(hl:PE X l tl):PI X tg l (adB X.K tl):=by
 intro pins s σ H R I h;refine thn (hl pins s σ H _ I h) fun v s1 ⟨x,H1,I1,r1,q1⟩=>?_;obtain⟨a,e,⟨xs,hq⟩,q⟩:=q1;subst e;cases r1;obtain⟨its,rv,p,hz⟩:=I1.tuple hq;refine wpAny_pyIter_tuple (show s1.heap.IsTuple a its.toArray from p) ?_;refine⟨s1.heap.objs.size,[s1.heap.objs.size],_,_,H1,rfl,I1.kept (t':=s1.toks) fun b o e=>adH _ e,uM a _,⟨_,adX _ rfl,rfl,rfl⟩,fun b hb=>?_,q⟩;have e:b=s1.heap.objs.size:=by simpa using hb
 subst e;exact I1.fpOk (adL _) (I1.hok.fresh (adL _))
theorem yS {pins:List (Addr×Obj)}{σ:St}{H:Hp}{s:Shared}{R:It->Hp->Prop}{E:Value->Shared->Prop}{lo hi:Int}{t u v:Tok}{tk:Nat}(I:Inv X pins σ H s)(h1:-(2 ^ 62)<=lo)(h2:lo < 2 ^ 62)(h3:-(2 ^ 62)<=hi)(h4:hi < 2 ^ 62)
 (q:R (Itr lo (hi - lo).toNat) H):wpAny (model X.prog X.w) X.A (pyIter (.ref s.heap.objs.size)) (PIE X pins σ tg R) E { s with heap:=s.heap.push { cls:=.type "range",data:=.fields #[.int lo t,.int hi u,.int 1 v] },toks:=tk }:=by
 refine wpAny_pyIter_range (IsRange.new ..) (small_one h1 h2 h3 h4) ?_;have I1:Inv X pins σ H { s with heap:=s.heap.push { cls:=.type "range",data:=.fields #[.int lo t,.int hi u,.int 1 v] },toks:=tk }:=I.kept fun b o e=>adH _ e;refine⟨(s.heap.push { cls:=.type "range",data:=.fields #[.int lo t,.int hi u,.int 1 v] }).objs.size,[(s.heap.push { cls:=.type "range",data:=.fields #[.int lo t,.int hi u,.int 1 v] }).objs.size],_,_,H,rfl,
  I1.kept (t':=tk) fun b o e=>adH _ e,u4 _ lo (hi - lo).toNat,?_,fun b hb=>?_,q⟩
 ·have e1:lo+((0:Nat):Int) * 1=lo:=by simp
  have e2:(((hi - lo).toNat:Nat):Int) - ((0:Nat):Int)=Builtin.Range.rangeSize lo hi 1:=by rw [rangeSize_one];split<;>lia
  show IsRangeIter _ _ (lo+((0:Nat):Int) * 1) ((((hi - lo).toNat:Nat):Int) - ((0:Nat):Int)) 1;rw [e1,e2];exact adX _ rfl
 ·have e:b=(s.heap.push { cls:=.type "range",data:=.fields #[.int lo t,.int hi u,.int 1 v] }).objs.size:=by simpa using hb
  subst e;exact I1.fpOk (adL _) (I1.hok.fresh (adL _))
def acF (ta:TA):TI:=fun σ H R=>ta σ H fun vs H1=>∃ j:Int,vs=[.int j]/\-(2 ^ 62)<=j/\j < 2 ^ 62/\R (Itr 0 j.toNat) H1
theorem eQ {a:Expr}{ta:TA}{p pos:Pos}(hg:Gl X "range")(hm:X.mg "range" = none)(ha:PA X [a] ta)(hs:starEach [a] X.env=[(false,eval a X.env)]:=by rfl):PI X tg (.Call (.Name "range" p) [a] [] pos) (acF ta):=by
 intro pins s σ H R I h;refine Call_ (kj I hg hm boot_range (aeE (thn (ha pos pins s σ H _ I h) fun us s1 ⟨vs,H1,I1,r1,q1⟩=>?_) hs rfl));obtain⟨j,e,q1,q2,q⟩:=q1;subst e;cases r1 with
 | cons r rr =>
  cases rr;obtain⟨t,rfl⟩:=r;exact call_range_1 (yS I1 (by lia) (by lia) q1 q2 (by simpa using q))
def adk (wi:TI)(g:TG)(tb:TS):TS:=fun D σ H=>wi σ H fun J H1=>∃ W:Nat->Nat->St->Hp->Prop,(∃ m,W 0 m σ H1)/\∀ i m σ H,W i m σ H →
 (J.stop i H/\D.nx σ H)\/(J.go i H/\∃ N:St->Hp->Prop,(∀ σ' H',N σ' H'->∃ m',m' < m/\W (i+1) m' σ' H')/\∀ x H',J.yld i H x H'->g x σ H' fun σ2 H2=>tb { D with nx:=N,ct:=N,bk:=D.nx } σ2 H2)
def fz (fp:List Addr)(h:Heap):List (Addr×Obj):=fp.filterMap fun b=>(h.get? b).map fun o=>(b,o)
theorem aR {fp:List Addr}{h:Heap}{b:Addr}{o:Obj}(hb:b∈fp)(e:h.get? b=some o):(b,o)∈fz fp h:=List.mem_filterMap.mpr ⟨b,hb,by rw [e];rfl⟩
theorem vo {fp:List Addr}{h:Heap}{p:Addr×Obj}(hp:p∈fz fp h):p.1∈fp/\h.get? p.1=some p.2:=by
 obtain⟨b,hb,e⟩:=List.mem_filterMap.mp hp;cases q:h.get? b with
 | none=>rw [q] at e;cases e
 | some o =>
  rw [q] at e;have e':(b,o)=p:=aev e;subst e';exact⟨hb,q⟩
theorem Inv.pinned {pins:List (Addr×Obj)}{σ:St}{H:Hp}{s:Shared}{fp:List Addr}(I:Inv X pins σ H s)(hf:∀ b∈fp,jE X pins H b)(ho:∀ b∈fp,∃ o,s.heap.get? b=some o/\∀ v,o.data≠.cell v):Inv X (pins++fz fp s.heap) σ H s :=
 I.pins_of fun p hp=>(ad6.mp hp).elim (fun z=>I.pin p (adP _ z)) fun z=>by
  obtain⟨hb,e⟩:=vo z;obtain⟨f0,f1,f2,_⟩:=hf p.1 hb;obtain⟨o,e',d⟩:=ho p.1 hb;rw [e] at e';cases e';exact⟨e,f0,f1,f2,d⟩
theorem Inv.unpinned {pins pl:List (Addr×Obj)}{σ:St}{H:Hp}{s:Shared}(I:Inv X (pins++pl) σ H s):Inv X pins σ H s:=I.pins_of fun p hp=>I.pin p (adP _ (afI _ hp))
theorem cX {iter:Expr}{body:List Stmt}{wi:TI}{g:TG}{tb:TS}{pos:Pos}(hp:PassesOwn (model X.prog X.w) X.A X.env X.xe)(hc:X.calm=true)(hi:PI X tg iter wi)(hg:PG X tg g)(hb:PSs X body tb)
 (hs:∀ x,foldedSetIterable iter X.env x=pure x:=by intro _;rfl):PS X (.For tg iter body [] pos) (adk wi g tb):=by
 intro pins s σ H D I h;refine wpAny_For (thn (hi pins s σ H _ I h) fun v s1 h1=>thn h1 fun itv s2 h2=>?_) hs;obtain⟨it,fp,tn,J,H2,e,I2,T,st2,f2,W,⟨m0,w0⟩,turn⟩:=h2;subst e;have stat:∀ {H':Hp},(∀ b∈fp,H' b=none)->∀ b∈fp,jE X pins H' b:=fun hn b hb=>⟨hn b hb,(f2 b hb).2⟩;refine codeAny_forLoop_any (fun n s'=>∃ i σ' H',Inv X pins σ' H' s'/\tn i s'.heap/\(∀ b∈fp,H' b=none)/\W i n σ' H') ?_ m0 ⟨0,σ,H2,I2,st2,fun b hb=>(f2 b hb).1,w0⟩;rintro n s3 ⟨i,σ3,H3,I3,st3,fr3,w3⟩;rcases turn i n σ3 H3 w3 with ⟨stop,qn⟩ | ⟨go,N,hN,step⟩
 ·refine afl hp (thn (T.done X rfl rfl rfl hc i pins s3 σ3 H3 X.xe I3 (stat fr3) st3 stop) fun r s4 ⟨hr,I4⟩=>?_);subst hr;exact afQ ⟨σ3,H3,I4,qn⟩
 ·refine afl hp (thn (T.item X rfl rfl rfl hc i pins s3 σ3 H3 X.xe I3 (stat fr3) st3 go) fun r s4 ⟨u,hr,h4⟩=>?_);subst hr;refine afl hp (thn h4 fun _ s5 ⟨x,H5,I5,r5,y5,st5,fr5⟩=>?_);have I5':=I5.pinned (stat fr5) (T.obj _ _ st5);refine afl hp (thn (hg _ s5 σ3 H5 x u _ I5' r5 (step x H5 y5)) fun _ s6 ⟨σ6,H6,I6,q6⟩=>?_);refine afl hp (thn (hb _ s6 σ6 H6 _ I6 q6) fun f s7 q7=>?_);have again:∀ {σ7:St} {H7:Hp},Inv X (pins++fz fp s5.heap) σ7 H7 s7->N σ7 H7->∃ m,m < n/\∃ i σ' H',Inv X pins σ' H' s7/\tn i s7.heap/\(∀ b∈fp,H' b=none)/\W i m σ' H':=fun {σ7 H7} I7 n7=>by
   obtain⟨m',hm,w7⟩:=hN σ7 H7 n7;refine⟨m',hm,i+1,σ7,H7,I7.unpinned,T.keep _ _ _ st5 fun b hb o e=>(I7.pin (b,o) (adP _ (adP _ (aR hb e)))).1,fun b hb=>?_,w7⟩;obtain⟨o,e,d⟩:=T.obj _ _ st5 b hb;exact (I7.pin (b,o) (adP _ (adP _ (aR hb e)))).2.1
  cases f with
  | next=>obtain⟨σ7,H7,I7,n7⟩:=q7;exact again I7 n7
  | cont=>obtain⟨σ7,H7,I7,n7⟩:=q7;exact again I7 n7
  | brk=>obtain⟨σ7,H7,I7,q7⟩:=q7;exact⟨σ7,H7,I7.unpinned,q7⟩
  | ret v=>obtain⟨x7,σ7,H7,I7,r7,q7⟩:=q7;exact⟨x7,σ7,H7,I7.unpinned,r7,q7⟩
end
theorem dJ {K:PySem.W.Frag}{a:Addr}{xs:List V}{g:TG}{tb:TS}{D:Ends}{σ:St}{H:Hp}(Pv:Nat->St->Hp->Prop)(h0:Pv 0 σ H)(hl:∀ i σ H,i<=xs.length->Pv i σ H->SqL K H a xs)
 (hs:∀ i x σ H,xs[i]? = some x->Pv i σ H->g x σ H fun σ2 H2=>tb { D with nx:=Pv (i+1),ct:=Pv (i+1),bk:=D.nx } σ2 H2)(hd:∀ σ H,Pv xs.length σ H->D.nx σ H) :
 ∃ W:Nat->Nat->St->Hp->Prop,(∃ m,W 0 m σ H)/\∀ i m σ H,W i m σ H →
  ((Itl K a).stop i H/\D.nx σ H)\/((Itl K a).go i H/\∃ N:St->Hp->Prop,(∀ σ' H',N σ' H'->∃ m',m' < m/\W (i+1) m' σ' H')/\∀ x H',(Itl K a).yld i H x H'->g x σ H' fun σ2 H2=>tb { D with nx:=N,ct:=N,bk:=D.nx } σ2 H2):=by
 refine⟨fun i m σ H=>m=xs.length - i/\i<=xs.length/\Pv i σ H,⟨xs.length,by simp,ad7 _,h0⟩,?_⟩;rintro i m σ H ⟨rfl,hi,p⟩;have q:=hl i σ H hi p;by_cases hlt:i < xs.length
 ·refine .inr ⟨⟨xs,xs[i],q,by simp [hlt]⟩,Pv (i+1),fun σ' H' p'=>⟨xs.length - (i+1),by lia,rfl,hlt,p'⟩,fun x H' y=>?_⟩;obtain⟨e,y⟩:=y;subst e;exact hs i x σ _ (y xs q) p
 ·have e:i=xs.length:=by lia
  subst e;exact .inl ⟨⟨xs,q,adL _⟩,hd σ H p⟩
theorem f9 {lo:Int}{n:Nat}{g:TG}{tb:TS}{D:Ends}{σ:St}{H:Hp}(Pv:Nat->St->Hp->Prop)(h0:Pv 0 σ H)
 (hs:∀ i σ H,i < n->Pv i σ H->g (.int (lo+i)) σ H fun σ2 H2=>tb { D with nx:=Pv (i+1),ct:=Pv (i+1),bk:=D.nx } σ2 H2)(hd:∀ σ H,Pv n σ H->D.nx σ H) :
 ∃ W:Nat->Nat->St->Hp->Prop,(∃ m,W 0 m σ H)/\∀ i m σ H,W i m σ H →
  ((Itr lo n).stop i H/\D.nx σ H)\/((Itr lo n).go i H/\∃ N:St->Hp->Prop,(∀ σ' H',N σ' H'->∃ m',m' < m/\W (i+1) m' σ' H')/\∀ x H',(Itr lo n).yld i H x H'->g x σ H' fun σ2 H2=>tb { D with nx:=N,ct:=N,bk:=D.nx } σ2 H2):=by
 refine⟨fun i m σ H=>m=n - i/\i<=n/\Pv i σ H,⟨n,by simp,ad7 _,h0⟩,?_⟩;rintro i m σ H ⟨rfl,hi,p⟩;by_cases hlt:i < n
 ·refine .inr ⟨hlt,Pv (i+1),fun σ' H' p'=>⟨n - (i+1),by lia,rfl,hlt,p'⟩,fun x H' y=>?_⟩;obtain⟨e,y⟩:=y;subst e y;exact hs i σ _ hlt p
 ·have e:i=n:=by lia
  subst e;exact .inl ⟨adL _,hd σ H p⟩
abbrev R2:=V->V->Hp->VK->Prop
def OpR (X:Cx)(f:Value->Value->Sem Value)(r:R2):Prop :=
 ∀ (pins:List (Addr×Obj)) (s:Shared) (σ:St) (H:Hp) (x y:V) (v u:Value) (Q:VK),Inv X pins σ H s->RelV x v->RelV y u->r x y H Q →
  wpAny (model X.prog X.w) X.A (f v u) (EP X pins σ Q) X.xe s
def UnR (X:Cx)(f:Value->Sem Value)(r:V->Hp->VK->Prop):Prop :=
 ∀ (pins:List (Addr×Obj)) (s:Shared) (σ:St) (H:Hp) (x:V) (v:Value) (Q:VK),Inv X pins σ H s->RelV x v->r x H Q →
  wpAny (model X.prog X.w) X.A (f v) (EP X pins σ Q) X.xe s
def gX (X:Cx)(f:Value)(r:List V->Hp->VK->Prop):Prop :=
 ∀ (pins:List (Addr×Obj)) (s:Shared) (σ:St) (H:Hp) (xs:List V) (us:List Value) (Q:VK),Inv X pins σ H s->Vals xs us->r xs H Q →
  wpAny (model X.prog X.w) X.A (call f us) (EP X pins σ Q) X.xe s
def ady (X:Cx)(r:V->Hp->(Bool->Hp->Prop)->Prop):Prop :=
 ∀ (pins:List (Addr×Obj)) (s:Shared) (σ:St) (H:Hp) (x:V) (v:Value) (Q:Bool->Hp->Prop),Inv X pins σ H s->RelV x v->r x H Q →
  wpAny (model X.prog X.w) X.A (truthy v) (TP X pins σ Q) X.xe s
def tOp (r:R2)(ta tb:TE):TE:=fun σ H Q=>ta σ H fun x H1=>tb σ H1 fun y H2=>r x y H2 Q
def tUn (r:V->Hp->VK->Prop)(ta:TE):TE:=fun σ H Q=>ta σ H fun x H1=>r x H1 Q
def rI (C:Int->Int->Prop)(g:Int->Int->V):R2:=fun x y H Q=>∃ i j,x=.int i/\y=.int j/\C i j/\Q (g i j) H
def rI0 (g:Int->Int->V):R2:=fun x y H Q=>∃ i j,x=.int i/\y=.int j/\Q (g i j) H
def rU (g:Int->V):V->Hp->VK->Prop:=fun x H Q=>∃ i,x=.int i/\Q (g i) H
section
variable {X:Cx}{a b c:Expr}{ta tb tc:TE}{pos:Pos}
theorem acZ (ha:PE X a ta)(hb:PE X b tb){pins:List (Addr×Obj)}{s:Shared}{σ:St}{H:Hp}{R:V->V->Hp->Prop}(I:Inv X pins σ H s)
 (h:ta σ H fun x H1=>tb σ H1 fun y H2=>R x y H2){Q:Value->Shared->Prop}{f:Value->Value->Sem Value}
 (hf:∀ v u s2 x y H2,Inv X pins σ H2 s2->RelV x v->RelV y u->R x y H2->wpAny (model X.prog X.w) X.A (f v u) Q X.xe s2) :
 wpAny (model X.prog X.w) X.A (eval a X.env) (fun v s₁=>wpAny (model X.prog X.w) X.A (eval b X.env) (fun u s₂=>wpAny (model X.prog X.w) X.A (f v u) Q X.xe s₂) X.xe s₁) X.xe s:=by
 refine thn (ha pins s σ H _ I h) fun v s1 ⟨x,H1,I1,r1,q1⟩=>?_;refine thn (hb pins s1 σ H1 _ I1 q1) fun u s2 ⟨y,H2,I2,r2,q2⟩=>?_;exact hf v u s2 x y H2 I2 r1 r2 q2
theorem aP {op:Operator}{r:R2}(ho:OpR X (binaryOp op) r)(ha:PE X a ta)(hb:PE X b tb):PE X (.BinOp a op b pos) (tOp r ta tb):=by
 intro pins s σ H Q I h;exact wpAny_BinOp (acZ ha hb I h fun v u s2 x y H2 I2 rx ry q=>ho pins s2 σ H2 x y v u Q I2 rx ry q)
theorem oA {op:UnaryOp}{r:V->Hp->VK->Prop}(ho:UnR X (unaryOp op) r)(ha:PE X a ta):PE X (.UnaryOp op a pos) (tUn r ta):=by
 intro pins s σ H Q I h;exact UnaryOp_ (thn (ha pins s σ H _ I h) fun v s1 ⟨x,H1,I1,r1,q1⟩=>ho pins s1 σ H1 x v Q I1 r1 q1)
theorem opI {f:Value->Value->Sem Value}{C:Int->Int->Prop}{g:Int->Int->Int}
 (rule:∀ (i j:Int) (t u:Tok) (s:Shared) (Q:Value->Shared->Prop) (E:Value->Shared->Prop),C i j->Q (.int (g i j) s.toks) { s with toks:=s.toks+1 }->wpAny (model X.prog X.w) X.A (f (.int i t) (.int j u)) Q E s) :
 OpR X f (rI C fun i j=>.int (g i j)):=by
 intro pins s σ H x y v u Q I rx ry h;obtain⟨i,j,rfl,rfl,hc,q⟩:=h;obtain⟨t,rfl⟩:=rx;obtain⟨t',rfl⟩:=ry;exact rule i j t t' s _ _ hc ⟨.int (g i j),H,I.tok _,⟨_,rfl⟩,q⟩
theorem acj {f:Value->Value->Sem Value}{g:Int->Int->Int}
 (rule:∀ (i j:Int) (t u:Tok) (s:Shared) (Q:Value->Shared->Prop) (E:Value->Shared->Prop),Q (.int (g i j) s.toks) { s with toks:=s.toks+1 }->wpAny (model X.prog X.w) X.A (f (.int i t) (.int j u)) Q E s) :
 OpR X f (rI0 fun i j=>.int (g i j)):=by
 intro pins s σ H x y v u Q I rx ry h;obtain⟨i,j,rfl,rfl,q⟩:=h;obtain⟨t,rfl⟩:=rx;obtain⟨t',rfl⟩:=ry;exact rule i j t t' s _ _ ⟨.int (g i j),H,I.tok _,⟨_,rfl⟩,q⟩
theorem acn {f:Value->Value->Sem Value}{g:Int->Int->Bool}
 (rule:∀ (i j:Int) (t u:Tok) (s:Shared) (Q:Value->Shared->Prop) (E:Value->Shared->Prop),Q (.bool (g i j)) s->wpAny (model X.prog X.w) X.A (f (.int i t) (.int j u)) Q E s) :
 OpR X f (rI0 fun i j=>.bl (g i j)):=by
 intro pins s σ H x y v u Q I rx ry h;obtain⟨i,j,rfl,rfl,q⟩:=h;obtain⟨t,rfl⟩:=rx;obtain⟨t',rfl⟩:=ry;exact rule i j t t' s _ _ ⟨.bl (g i j),H,I,rfl,q⟩
def ac9 (i j:Int):Prop:=0<=j/\j<=1000000/\i.natAbs < 2 ^ 64
def CMul (i j:Int):Prop:=(-(2 ^ 64) < i/\i < 2 ^ 64)\/(-(2 ^ 64) < j/\j < 2 ^ 64)
theorem CMul.ok {i j:Int}(h:CMul i j):IntMulOk i j:=by
 rcases h with ⟨h1,h2⟩ | ⟨h1,h2⟩
 ·exact .of_left (intBits_le_64 h1 h2)
 ·exact .of_right (intBits_le_64 h1 h2)
theorem uY (k:Nat):(0:Int)<=2 ^ k:=by
 rw [two_pow_cast];exact Int.natCast_nonneg _
theorem g0:OpR X (binaryOp .Add) (rI0 fun i j=>.int (i+j)):=acj fun _ _ _ _ _ _ _ q=>add_int q
theorem tG:OpR X (binaryOp .Sub) (rI0 fun i j=>.int (i - j)):=acj fun _ _ _ _ _ _ _ q=>sub_int q
theorem qv:OpR X (binaryOp .Mult) (rI CMul fun i j=>.int (i * j)):=opI fun _ _ _ _ _ _ _ hc q=>mul_int q hc.ok
theorem oq:OpR X (binaryOp .Mod) (rI (fun _ j=>0 < j) fun i j=>.int (i % j)):=opI fun i j _ _ _ _ _ hc q=>by
 have h1:(0:Int) < j:=hc;exact mod_int' (by lia) (by rw [Int.fmod_eq_emod_of_nonneg i (by lia)];exact q)
theorem tI:OpR X (binaryOp .Pow) (rI ac9 fun i j=>.int (i ^ j.toNat)):=opI fun _ _ _ _ _ _ _ hc q=>pow_int_small hc.1 hc.2.1 hc.2.2 q
theorem zw:OpR X (binaryOp .LShift) (rI ac9 fun i j=>.int (i * 2 ^ j.toNat)):=opI fun _ _ _ _ _ _ _ hc q=>lshift_int_small hc.1 hc.2.1 hc.2.2 q
theorem abl:OpR X (binaryOp .RShift) (rI (fun _ j=>0<=j) fun i j=>.int (i / 2 ^ j.toNat)):=opI fun i j _ _ _ _ _ hc q =>
 rshift_int hc (by rw [agt i (uY _)];exact q)
theorem abU:OpR X (binaryOp .BitAnd) (rI0 fun i j=>.int (Builtin.bitAnd i j)):=acj fun _ _ _ _ _ _ _ q=>and_int q
theorem acv:OpR X (binaryOp .BitOr) (rI0 fun i j=>.int (Builtin.bitOr i j)):=acj fun _ _ _ _ _ _ _ q=>or_int q
theorem unI {f:Value->Sem Value}{g:Int->Int}
 (rule:∀ (i:Int) (t:Tok) (s:Shared) (Q:Value->Shared->Prop) (E:Value->Shared->Prop),Q (.int (g i) s.toks) { s with toks:=s.toks+1 }->wpAny (model X.prog X.w) X.A (f (.int i t)) Q E s) :
 UnR X f (rU fun i=>.int (g i)):=by
 intro pins s σ H x v Q I rx h;obtain⟨i,rfl,q⟩:=h;obtain⟨t,rfl⟩:=rx;exact rule i t s _ _ ⟨.int (g i),H,I.tok _,⟨_,rfl⟩,q⟩
theorem jy:UnR X (unaryOp .USub) (rU fun i=>.int (-i)):=unI fun _ _ _ _ _ q=>neg_int q
end
def ac7:V->V->Bool
 | .non,.non=>true | .non,.int _=>true | .int _,.non=>true | .non,.bl _=>true | .bl _,.non=>true | .non,.str _=>true | .str _,.non=>true
 | .int _,.int _=>true | .bl _,.bl _=>true | .str _,.str _=>true | .byt _,.byt _=>true
 | .int _,.str _=>true | .str _,.int _=>true | .bl _,.str _=>true | .str _,.bl _=>true
 | _,_=>false
def rEq:R2:=fun x y H Q=>ac7 x y=true/\Q (.bl (decide (x=y))) H
def rNe:R2:=fun x y H Q=>ac7 x y=true/\Q (.bl (!decide (x=y))) H
theorem xc {i j:Int}:decide (V.int i=V.int j)=(i == j):=by
 rw [aeR];simp
theorem zE {i j:Bool}:decide (V.bl i=V.bl j)=(i == j):=by
 rw [aeR];simp
theorem vq {i j:Str}:decide (V.str i=V.str j)=(i == j):=by
 rw [aeR];simp
theorem vP {i j:Array UInt8}:decide (V.byt i=V.byt j)=(i.toList == j.toList):=by
 rw [aeR];cases i;cases j;simp
section
variable {X:Cx}{a b c:Expr}{ta tb tc:TE}{pos:Pos}
theorem aY {pins:List (Addr×Obj)}{σ:St}{H:Hp}{s:Shared}{Q:VK}{k k':Bool}(I:Inv X pins σ H s)(q:Q (.bl k) H)(e:k=k'):EP X pins σ Q (.bool k') s:=by
 subst e;exact⟨.bl k,H,I,rfl,q⟩
theorem vg:OpR X (compareOp .Eq) rEq:=by
 intro pins s σ H x y v u Q I rx ry h;obtain⟨hs,q⟩:=h;cases x with
 | non =>
  cases rx;cases y with
  | non=>cases ry;exact PySem.EqNone.eq_none_none (aY I q (by simp))
  | bl j=>cases ry;exact PySem.EqNone.eq_none_bool (aY I q (by simp))
  | int j=>obtain⟨t',rfl⟩:=ry;exact PySem.EqNone.eq_none_int (aY I q (by simp))
  | str j=>obtain⟨t',rfl⟩:=ry;exact PySem.EqNone.eq_none_str (aY I q (by simp))
  | _=>exact absurd (show false=true from hs) adM
 | bl i =>
  cases rx;cases y with
  | non=>cases ry;exact PySem.EqNone.eq_bool_none (aY I q (by simp))
  | bl j=>cases ry;exact eq_bool (aY I q zE)
  | str j=>obtain⟨t',rfl⟩:=ry;exact PySem.EqMixed.eq_bool_str (aY I q (by simp))
  | _=>exact absurd (show false=true from hs) adM
 | int i =>
  obtain⟨t,rfl⟩:=rx;cases y with
  | non=>cases ry;exact PySem.EqNone.eq_int_none (aY I q (by simp))
  | int j=>obtain⟨t',rfl⟩:=ry;exact eq_int (aY I q xc)
  | str j=>obtain⟨t',rfl⟩:=ry;exact PySem.EqMixed.eq_int_str (aY I q (by simp))
  | _=>exact absurd (show false=true from hs) adM
 | str i =>
  obtain⟨t,rfl⟩:=rx;cases y with
  | non=>cases ry;exact PySem.EqNone.eq_str_none (aY I q (by simp))
  | bl j=>cases ry;exact PySem.EqMixed.eq_str_bool (aY I q (by simp))
  | int j=>obtain⟨t',rfl⟩:=ry;exact PySem.EqMixed.eq_str_int (aY I q (by simp))
  | str j=>obtain⟨t',rfl⟩:=ry;exact eq_str (aY I q vq)
  | _=>exact absurd (show false=true from hs) adM
 | byt i =>
  obtain⟨t,rfl⟩:=rx;cases y with
  | byt j=>obtain⟨t',rfl⟩:=ry;exact PySem.W.eq_bytes (aY I q vP)
  | _=>exact absurd (show false=true from hs) adM
 | _=>cases y<;>exact absurd (show false=true from hs) adM
theorem rR:OpR X (compareOp .NotEq) rNe:=by
 intro pins s σ H x y v u Q I rx ry h;obtain⟨hs,q⟩:=h;cases x with
 | non =>
  cases rx;cases y with
  | non=>cases ry;exact PySem.EqNone.ne_none_none (aY I q (by simp))
  | bl j=>cases ry;exact PySem.EqNone.ne_none_bool (aY I q (by simp))
  | int j=>obtain⟨t',rfl⟩:=ry;exact PySem.EqNone.ne_none_int (aY I q (by simp))
  | str j=>obtain⟨t',rfl⟩:=ry;exact PySem.EqNone.ne_none_str (aY I q (by simp))
  | _=>exact absurd (show false=true from hs) adM
 | bl i =>
  cases rx;cases y with
  | non=>cases ry;exact PySem.EqNone.ne_bool_none (aY I q (by simp))
  | bl j=>cases ry;exact ne_bool (aY I q (aeu not zE))
  | str j=>obtain⟨t',rfl⟩:=ry;exact PySem.EqMixed.ne_bool_str (aY I q (by simp))
  | _=>exact absurd (show false=true from hs) adM
 | int i =>
  obtain⟨t,rfl⟩:=rx;cases y with
  | non=>cases ry;exact PySem.EqNone.ne_int_none (aY I q (by simp))
  | int j=>obtain⟨t',rfl⟩:=ry;exact ne_int (aY I q (aeu not xc))
  | str j=>obtain⟨t',rfl⟩:=ry;exact PySem.EqMixed.ne_int_str (aY I q (by simp))
  | _=>exact absurd (show false=true from hs) adM
 | str i =>
  obtain⟨t,rfl⟩:=rx;cases y with
  | non=>cases ry;exact PySem.EqNone.ne_str_none (aY I q (by simp))
  | bl j=>cases ry;exact PySem.EqMixed.ne_str_bool (aY I q (by simp))
  | int j=>obtain⟨t',rfl⟩:=ry;exact PySem.EqMixed.ne_str_int (aY I q (by simp))
  | str j=>obtain⟨t',rfl⟩:=ry;exact ne_str (aY I q (aeu not vq))
  | _=>exact absurd (show false=true from hs) adM
 | byt i =>
  obtain⟨t,rfl⟩:=rx;cases y with
  | byt j=>obtain⟨t',rfl⟩:=ry;exact PySem.W.ne_bytes (aY I q (aeu not vP))
  | _=>exact absurd (show false=true from hs) adM
 | _=>cases y<;>exact absurd (show false=true from hs) adM
theorem zj:OpR X (compareOp .Lt) (rI0 fun i j=>.bl (decide (i < j))):=acn fun _ _ _ _ _ _ _ q=>lt_int q
theorem xX:OpR X (compareOp .LtE) (rI0 fun i j=>.bl (decide (i<=j))):=acn fun _ _ _ _ _ _ _ q=>le_int q
theorem acU:OpR X (compareOp .Gt) (rI0 fun i j=>.bl (decide (j < i))):=acn fun _ _ _ _ _ _ _ q=>gt_int q
theorem aaZ:OpR X (compareOp .GtE) (rI0 fun i j=>.bl (decide (j<=i))):=acn fun _ _ _ _ _ _ _ q=>ge_int q
theorem wU:OpR X (compareOp .In) (fun x y H Q=>∃ i j,x=.str i/\y=.str j/\Q (.bl (!(Builtin.Str.occurrences j i 0 j.length 1).isEmpty)) H):=by
 intro pins s σ H x y v u Q I rx ry h;obtain⟨i,j,rfl,rfl,q⟩:=h;obtain⟨t,rfl⟩:=rx;obtain⟨t',rfl⟩:=ry;exact in_str (aY I q rfl)
theorem xT:OpR X (compareOp .IsNot) (fun x y H Q=>y=.non/\Q (.bl (!decide (x=.non))) H):=by
 intro pins s σ H x y v u Q I rx ry h;obtain⟨rfl,q⟩:=h;cases ry;refine isnot_none_gen (aY I q ?_);cases x<;>first
  | (cases rx;rfl)
  | (obtain⟨t,rfl⟩:=rx;rfl)
theorem bo (b:Expr){op:CmpOp}(h:op≠.In:=by decide)(h2:op≠.NotIn:=by decide):behindInMarks op b=false:=by
 have e1:(op == CmpOp.In)=false:=by cases op<;>first | rfl | exact absurd rfl h
 have e2:(op == CmpOp.NotIn)=false:=by cases op<;>first | rfl | exact absurd rfl h2
 cases b<;>simp [behindInMarks,e1,e2]
theorem gW {op:CmpOp}{r:R2}(ho:OpR X (compareOp op) r)(ha:PE X a ta)(hb:PE X b tb)(hm:behindInMarks op b=false):PE X (.Compare a [op] [b] pos) (tOp r ta tb):=by
 intro pins s σ H Q I h;exact wpAny_Compare1 (acZ ha hb I h fun v u s2 x y H2 I2 rx ry q=>ho pins s2 σ H2 x y v u Q I2 rx ry q) hm
def abi (t:TE):TT:=fun σ H Q=>t σ H fun x H'=>∃ k,x=.bl k/\Q k H'
theorem aJ {op:CmpOp}{r:R2}(ho:OpR X (compareOp op) r)(ha:PE X a ta)(hb:PE X b tb)(hm:behindInMarks op b=false):PT X (.Compare a [op] [b] pos) (abi (tOp r ta tb)):=by
 intro pins s σ H Q I h;refine wpAny_isTrue_Compare1 (thn (ha pins s σ H _ I h) fun v s1 ⟨x,H1,I1,r1,q1⟩=>thn (hb pins s1 σ H1 _ I1 q1) fun u s2 ⟨y,H2,I2,r2,q2⟩ =>
  thn (ho pins s2 σ H2 x y v u _ I2 r1 r2 q2) fun c s3 ⟨z,H3,I3,r3,k,e,q3⟩=>?_) hm
 subst e;cases r3;exact aeG ⟨H3,I3,q3⟩
def zy (r r':R2)(ta tb tc:TE):TE:=fun σ H Q=>ta σ H fun x H1=>tb σ H1 fun y H2=>r x y H2 fun z H3=>∃ k,z=.bl k ∧
 (if k=true then tc σ H3 fun w' H4=>r' y w' H4 Q else Q (.bl false) H3)
theorem yx {op op':CmpOp}{r r':R2}(ho:OpR X (compareOp op) r)(ho':OpR X (compareOp op') r')(ha:PE X a ta)(hb:PE X b tb)(hc:PE X c tc)
 (hm:lastMarks [op,op'] [b,c]=false:=by with_unfolding_all rfl):PE X (.Compare a [op,op'] [b,c] pos) (zy r r' ta tb tc):=by
 intro pins s σ H Q I h;refine Compare_chain (thn (ha pins s σ H _ I h) fun v s1 ⟨x,H1,I1,r1,q1⟩=>chain_link (thn (hb pins s1 σ H1 _ I1 q1) fun u s2 ⟨y,H2,I2,r2,q2⟩ =>
  thn (ho pins s2 σ H2 x y v u _ I2 r1 r2 q2) fun d s3 ⟨z,H3,I3,r3,k,e,q3⟩=>?_)) hm
 subst e;cases r3;refine aeG ?_;cases k with
 | false=>exact ite_ff ⟨.bl false,H3,I3,rfl,q3⟩
 | true=>exact ite_tt (chain_last (thn (hc pins s3 σ H3 _ I3 q3) fun w' s4 ⟨z',H4,I4,r4,q4⟩=>ho' pins s4 σ H4 y z' u w' Q I4 r2 r4 q4))
theorem tO {op op':CmpOp}{r r':R2}(ho:OpR X (compareOp op) r)(ho':OpR X (compareOp op') r')(ha:PE X a ta)(hb:PE X b tb)(hc:PE X c tc)
 (hm:lastMarks [op,op'] [b,c]=false:=by with_unfolding_all rfl):PT X (.Compare a [op,op'] [b,c] pos) (abi (zy r r' ta tb tc)):=by
 intro pins s σ H Q I h;refine isTrue_chain (thn (ha pins s σ H _ I h) fun v s1 ⟨x,H1,I1,r1,q1⟩=>test_link (thn (hb pins s1 σ H1 _ I1 q1) fun u s2 ⟨y,H2,I2,r2,q2⟩ =>
  thn (ho pins s2 σ H2 x y v u _ I2 r1 r2 q2) fun d s3 ⟨z,H3,I3,r3,k,e,q3⟩=>?_)) hm
 subst e;cases r3;refine aeG ?_;cases k with
 | false =>
  obtain⟨k',e',q'⟩:=q3;cases e';exact ite_ff ⟨H3,I3,q'⟩
 | true =>
  refine ite_tt (test_last (thn (hc pins s3 σ H3 _ I3 q3) fun w' s4 ⟨z',H4,I4,r4,q4⟩=>thn (ho' pins s4 σ H4 y z' u w' _ I4 r2 r4 q4) fun d' s5 ⟨z2,H5,I5,r5,k2,e2,q5⟩=>?_));subst e2;cases r5;exact aeG ⟨H5,I5,q5⟩
def acO (K:PySem.W.Frag)(x:V)(H:Hp)(k:Bool):Prop :=
 match x with
 | .non=>k=false
 | .bl b=>k=b
 | .int i=>k=(i != 0)
 | .str y=>y.length<=sizeLine/\k=((y.length:Int) != 0)
 | .byt y=>y.size<=sizeLine/\k=((y.size:Int) != 0)
 | .ref p=>(∃ xs,SqL K H p xs/\k=!xs.isEmpty)\/(∃ xs,SqT K H p xs/\k=!xs.isEmpty)\/∃ kvs,H p=some (.dK kvs)/\k=!kvs.isEmpty
 | _=>False
theorem uV {κ:Type}{kvs:List (κ×V)}{vs:List (κ×Value)}(r:KV kvs vs):(!vs.isEmpty)=!kvs.isEmpty:=by
 cases r<;>rfl
theorem nX {xs:List V}{its:List Value}(r:Vals xs its):(!its.toArray.isEmpty)=!xs.isEmpty:=by
 cases r<;>simp
theorem kD:(sizeLine:Nat) < 2 ^ 63:=by rw [sizeLine_eq];decide
theorem ab2:ady X (fun x H Q=>∃ k,acO X.K x H k/\Q k H):=by
 intro pins s σ H x v Q I rx h;obtain⟨k,e,q⟩:=h;have hl:=kD;have hs:sizeLine=16777216:=sizeLine_eq;cases x with
 | non =>
  cases rx;have e':k=false:=e;subst e';exact truthy_none ⟨H,I,q⟩
 | bl b =>
  cases rx;have e':k=b:=e;subst e';exact aeG ⟨H,I,q⟩
 | int i =>
  obtain⟨t,rfl⟩:=rx;have e':k=(i != 0):=e;subst e';exact PySem.P.truthy_int ⟨H,I,q⟩
 | str y =>
  obtain⟨t,rfl⟩:=rx;obtain⟨hy,e'⟩:y.length<=sizeLine/\k=((y.length:Int) != 0):=e;subst e';exact PySem.P.truthy_str (by lia) ⟨H,I.tok _,q⟩
 | byt y =>
  obtain⟨t,rfl⟩:=rx;obtain⟨hy,e'⟩:y.size<=sizeLine/\k=((y.size:Int) != 0):=e;subst e';exact PySem.W.truthy_bytes (by lia) ⟨H,I.tok _,q⟩
 | ref p =>
  cases rx;have e':(∃ xs,SqL X.K H p xs/\k=!xs.isEmpty)\/(∃ xs,SqT X.K H p xs/\k=!xs.isEmpty)\/∃ kvs,H p=some (.dK kvs)/\k=!kvs.isEmpty:=e;rcases e' with ⟨xs,hx,e'⟩ | ⟨xs,hx,e'⟩ | ⟨kvs,hx,e'⟩
  ·subst e';obtain⟨its,r,pl,hz⟩:=I.list hx;have hlen:=r.length;exact wpAny_truthy_list pl.isList (by simp only [ad3];lia) ⟨H,I.tok _,by rw [nX r];exact q⟩
  ·subst e';obtain⟨its,r,pl,hz⟩:=I.tuple hx;have hlen:=r.length;exact truthy_tuple pl (by simp only [ad3];lia) ⟨H,I.tok _,by rw [nX r];exact q⟩
  ·subst e';obtain⟨hz,hS,vs,r,m⟩:kvs.length<=sizeLine/\(p == sysModules)=false/\∃ vs,KV kvs vs/\s.heap.DictOf (aT X.prog X.w) p vs:=I.hok p _ hx;have hlen:kvs.length=vs.length:=agN r;exact wpAny_truthy_dict hS m (by lia) ⟨H,I.tok _,by rw [uV r];exact q⟩
 | _=>exact (show False from e).elim
theorem tS (ha:PE X a ta)(he:∀ whole,isTrue a X.env whole=(do let v ← whole;standAt a.pos;holding [v] (truthy v))) :
 PT X a (fun σ H Q=>ta σ H fun x H'=>∃ k,acO X.K x H' k/\Q k H'):=by
 intro pins s σ H Q I h;exact isTrue_plain (thn (ha pins s σ H _ I h) fun v s1 ⟨x,H1,I1,r1,q1⟩=>ab2 pins s1 σ H1 x v Q I1 r1 q1) (he _)
theorem uA:OpR X (binaryOp .Add) (fun x y H Q=>∃ i j,x=.str i/\y=.str j/\i.length+j.length<=sizeLine/\Q (.str (i++j)) H):=by
 intro pins s σ H x y v u Q I rx ry h;obtain⟨i,j,rfl,rfl,hz,q⟩:=h;obtain⟨t,rfl⟩:=rx;obtain⟨t',rfl⟩:=ry;exact add_str (fun t' tk=>⟨.str (i++j),H,I.tok _,⟨_,rfl⟩,q⟩) hz
theorem ja {x:V}{us:List Value}(r:Vals [x] us):∃ u,us=[u]/\RelV x u:=by
 cases r with
 | cons r1 r2=>cases r2;exact⟨_,rfl,r1⟩
theorem aaz {x y:V}{us:List Value}(r:Vals [x,y] us):∃ u w',us=[u,w']/\RelV x u/\RelV y w':=by
 cases r with
 | cons r1 r2 =>
  cases r2 with
  | cons r3 r4=>cases r4;exact⟨_,_,rfl,r1,r3⟩
theorem vH (hc:X.calm=true):gX X (.builtin "max") (fun xs H Q=>∃ i j,xs=[.int i,.int j]/\Q (.int (if j > i then j else i)) H):=by
 intro pins s σ H xs us Q I r h;obtain⟨i,j,rfl,q⟩:=h;obtain⟨u,w',rfl,⟨t,rfl⟩,⟨t',rfl⟩⟩:=aaz r;refine max_two_ints (I.ok.hd hc) fun h' tk k=>⟨_,H,I.kept k,?_,q⟩;by_cases hj:j > i
 ·rw [if_pos hj,if_pos hj];exact⟨_,rfl⟩
 ·rw [if_neg hj,if_neg hj];exact⟨_,rfl⟩
theorem xa (hc:X.calm=true):gX X (.builtin "min") (fun xs H Q=>∃ i j,xs=[.int i,.int j]/\Q (.int (if j < i then j else i)) H):=by
 intro pins s σ H xs us Q I r h;obtain⟨i,j,rfl,q⟩:=h;obtain⟨u,w',rfl,⟨t,rfl⟩,⟨t',rfl⟩⟩:=aaz r;refine min_two_ints (I.ok.hd hc) fun h' tk k=>⟨_,H,I.kept k,?_,q⟩;by_cases hj:j < i
 ·rw [if_pos hj,if_pos hj];exact⟨_,rfl⟩
 ·rw [if_neg hj,if_neg hj];exact⟨_,rfl⟩
theorem qD:gX X (.type "int") (fun xs H Q=>(∃ i,xs=[.int i]/\Q (.int i) H)\/∃ k,xs=[.bl k]/\Q (.int (if k then 1 else 0)) H):=by
 intro pins s σ H xs us Q I r h;rcases h with ⟨i,rfl,q⟩ | ⟨k,rfl,q⟩
 ·obtain⟨u,rfl,t,rfl⟩:=ja r;exact call_int_int ⟨.int i,H,I,⟨_,rfl⟩,q⟩
 ·obtain⟨u,rfl,r1⟩:=ja r;cases r1;exact call_int_bool ⟨.int (if k then 1 else 0),H,I.tok _,⟨_,rfl⟩,q⟩
end
structure ObjM (h:Heap)(x dx C:Addr)(mA:Str->Option Value):Prop where
 obj:h.get? x=some (instObj C dx)
 ns:h.Ns1 dx mA
 ne:dx≠x
theorem vO {h:Heap}{dx:Addr}{mA:Str->Option Value}(n:h.Ns1 dx mA):∃ od,h.get? dx=some od/\∀ name,lookIn name od=some (mA name):=by
 obtain⟨o,es,ep,ho,hd,hk,_,hm⟩:=n;refine⟨o,ho,fun name=>?_⟩;have e:=hm name;unfold nsFind findBy at e;rw [← Array.find?_toList] at e;unfold lookIn;rw [hd];dsimp only;split
 ·rename_i y q;rw [q] at e;exact aeu some e
 ·rename_i q;rw [q] at e;have a:es.toList.any (·.refKey)=false:=by
   rw [List.any_eq_false];intro y hy;obtain⟨z,t,hkey⟩:=hk y (Array.mem_toList_iff.mp hy);simp [DictEntry.refKey,hkey]
  have a':¬ es.toList.any (·.refKey)=true:=by rw [a];exact adM
  rw [if_neg a'];exact aeu some e
theorem ObjM.look {h:Heap}{x dx C:Addr}{mA:Str->Option Value}(I:ObjM h x dx C mA):∃ od,PySem.W.InstAt h x (instObj C dx) C (some od)/\∀ name,lookIn name od=some (mA name) :=
 let ⟨od,ho,hl⟩:=vO I.ns
 ⟨od,⟨I.obj,rfl,rfl,ho⟩,hl⟩
section
variable {prog:Program}{w:World}{A:Around}{E:Value->Shared->Prop}{s:Shared}{K:PySem.W.Frag}{x dx C f:Addr}{mA:Str->Option Value}{name:Str}{v:Value}
theorem aaE {expr:Bool}{Q:Value->Shared->Prop}(X:K.In s.heap)(I:ObjM s.heap x dx C mA)(hg:plainGet K C name=true)(hh:hasDictIn K C=true)
 (ha:findIn K (.ref C) name=some none)(hv:mA name=some v)(hv':handedIn v=true)(h:Q v { s with toks:=s.toks+1 }) :
 wpAny (model prog w) A (getAttr (.ref x) name expr) Q E s:=by
 obtain⟨od,J,hl⟩:=I.look;exact PySem.W.get_value X J (agk hg).1 (PySem.W.findObj_own hh ha rfl (by rw [hl,hv])) hv' h
theorem yW {pl:Sem Bool}{Q:Value×List Value->Shared->Prop}(X:K.In s.heap)(I:ObjM s.heap x dx C mA)(hg:plainGet K C name=true)
 (hf:findIn K (.ref C) name=some (some (.ref f)))(ht:isFn K (.ref f)=true)(hv:mA name=none)(h:Q (.ref f,[.ref x]) s) :
 wpAny (model prog w) A (getMethod (.ref x) name pl) Q E s:=by
 obtain⟨od,J,hl⟩:=I.look;exact PySem.W.method_fn X J (agk hg).1 (agk hg).2 hf (afh.mp ht) (by show (lookIn name od).map (·.isSome)=some false;rw [hl,hv];rfl) h
theorem aaY {ns:List Str}{Q:Unit->Shared->Prop}(X:K.In s.heap)(I:ObjM s.heap x dx C mA)
 (hs:findIn K (.ref C) "__setattr__" = some (some (.builtin "object.__setattr__")))(hp:plainOver K C=true)(ht:takerIn K C name=some none)(hh:hasDictIn K C=true)
 (hw:PySem.Within mA ns)(hsz:ns.length<=sizeLine)
 (h:∀ h',ObjM h' x dx C (fun y=>if y=name then some v else mA y)->Heap.SameBut dx s.heap h'->Q () { s with heap:=h',toks:=s.toks+2 }) :
 wpAny (model prog w) A (setAttr (.ref x) name v) Q E s:=by
 obtain⟨od,J,hl⟩:=I.look;refine PySem.W.set_plain X J hs (PySem.W.osa_open (s:={ s with toks:=s.toks+1 }) (r:=none) X J hp ht fun b=>?_);obtain⟨cd,hc,hd'⟩:=PySem.W.any_some hh;have hx:s.heap.get? x=some ⟨.ref C,some dx,.plain,#[]⟩:=I.obj;refine adE (adJ (adE (adE (wpAny_loadPart hx (adE (PySem.W.Looks.here (s:={ s with toks:=s.toks+1 }) (PySem.W.looks_clsIn X hc) ?_))))));rw [hd'];refine adJ (a:=some dx) (adE (adJ (adE ?_)));refine wpAny_nsSet1 (s:={ s with toks:=s.toks+1 }) I.ns fun h' hn2 hs2=>?_;obtain⟨oD,esD,epD,hoD,hdD,hcD⟩:=hn2.count (PySem.Within.cons name v hw);refine adE (wpAny_lookBehind hoD (by rw [hdD];exact pastItsLine_dict (adZ hcD (by rw [aef];lia))) ?_);exact adJ (h _ ⟨(hs2.2 _ (aeL I.ne)).trans I.obj,hn2,I.ne⟩ hs2)
theorem yV {R:Result->Shared->Prop}{vs:List Value}{kw:List (Str×Value)}(X:K.In s.heap)(hm:makesIn K C=true)
 (hi:findIn K (.ref C) "__init__" = some (some (.ref f)))(hf:PySem.W.typeIn K (.ref f)=some (.type "function"))
 (h:codeAny (model prog w) (A.under (.builtin "type.__call__" ⟨.ref C::vs,kw⟩)) (.call (.ref f) ⟨.ref (s.heap.objs.size+1)::vs,kw⟩) (PySem.W.InitBack (s.heap.objs.size+1) R)
  { s with heap:=(s.heap.push emptyDict).push (instObj C s.heap.objs.size) }) :
 codeAny (model prog w) A (.call (.ref C) ⟨vs,kw⟩) R s:=by
 obtain⟨hh,g,d,t,os⟩:=s;exact PySem.W.make_core (PySem.W.makes_of X hm) (PySem.W.looks_findIn X hi) (fun self=>PySem.W.bind_fn X self hf) (.inl rfl) h
end
def iK (f:Str)(v:V):List (Str×V)->List (Str×V)
 | []=>[(f,v)]
 | (g,x)::r=>if g=f then (g,v)::r else (g,x)::iK f v r
theorem fc (f g:Str)(v:V):∀ fs:List (Str×V),(iK f v fs).lookup g=if g=f then some v else fs.lookup g
 | []=>by
  show List.lookup g [(f,v)]=_;by_cases h:g=f
  ·have hb:(g == f)=true:=afh.mpr h;simp only [List.lookup,hb,if_pos h]
  ·have hb:(g == f)=false:=afo.mpr h;simp only [List.lookup,hb,if_neg h]
 | (k,x)::r=>by
  have ih:=fc f g v r;rw [show iK f v ((k,x)::r)=(if k=f then (k,v)::r else (k,x)::iK f v r) from rfl];by_cases hk:k=f
  ·rw [if_pos hk];by_cases h:g=k
   ·have hb:(g == k)=true:=afh.mpr h;simp only [List.lookup,hb,if_pos (h.trans hk)]
   ·have hb:(g == k)=false:=afo.mpr h;simp only [List.lookup,hb,if_neg (fun e:g=f=>h (e.trans hk.symm))]
  ·rw [if_neg hk];by_cases h:g=k
   ·have hb:(g == k)=true:=afh.mpr h;simp only [List.lookup,hb,if_neg (fun e:g=f=>hk (h.symm.trans e))]
   ·have hb:(g == k)=false:=afo.mpr h;simp only [List.lookup,hb];exact ih
theorem lD (f:Str)(v:V):∀ fs:List (Str×V),f∈(iK f v fs).map (·.1)/\∀ g,g∈fs.map (·.1)->g∈(iK f v fs).map (·.1)
 | []=>⟨by simp [iK],fun g h=>by simp at h⟩
 | (k,x)::r=>by
  obtain⟨i1,i2⟩:=lD f v r;rw [show iK f v ((k,x)::r)=(if k=f then (k,v)::r else (k,x)::iK f v r) from rfl];by_cases hk:k=f
  ·rw [if_pos hk];subst hk;exact⟨by simp,fun g h=>by simpa using h⟩
  ·rw [if_neg hk];refine⟨?_,fun g h=>?_⟩
   ·rw [adS];exact adN _ i1
   ·rw [adS] at h ⊢;rcases adO.mp h with e | e
    ·exact adO.mpr (.inl e)
    ·exact adN _ (i2 g e)
theorem gx (f:Str)(v:V):∀ fs:List (Str×V),(iK f v fs).length<=fs.length+1
 | []=>by simp [iK]
 | (k,x)::r=>by
  have ih:=gx f v r;rw [show iK f v ((k,x)::r)=(if k=f then (k,v)::r else (k,x)::iK f v r) from rfl];by_cases hk:k=f
  ·rw [if_pos hk,aef,aef];lia
  ·rw [if_neg hk,aef,aef];lia
theorem RelO.some_of {v:V}{o:Option Value}(r:RelO (some v) o):∃ u,o=some u/\RelV v u:=by
 cases o with
 | none=>exact (show False from r).elim
 | some u=>exact⟨u,rfl,r⟩
theorem RelO.none_of {o:Option Value}(r:RelO none o):o=none:=by
 cases o with
 | none=>rfl
 | some u=>exact (show False from r).elim
theorem wK {v:V}{u:Value}(r:RelV v u):handedIn u=true:=by
 cases v with
 | non=>cases (show u=Value.none from r);rfl
 | bl b=>cases (show u=Value.bool b from r);rfl
 | int i=>obtain⟨t,e⟩:=(show ∃ t,u=Value.int i t from r);cases e;rfl
 | str x=>obtain⟨t,e⟩:=(show ∃ t,u=Value.str x t from r);cases e;rfl
 | byt b=>obtain⟨t,e⟩:=(show ∃ t,u=Value.bytes b t from r);cases e;rfl
 | flt b=>obtain⟨t,e⟩:=(show ∃ t,u=Value.float b t from r);cases e;rfl
 | ref a=>cases (show u=Value.ref a from r);rfl
 | ty n=>cases (show u=Value.type n from r);rfl
section
variable {P:Program}{w:World}{H H':Hp}{h h':Heap}{a C dx:Addr}{fs fs':List (Str×V)}
theorem oO (hok:HOk P w H h)(e:H a=some (.ins C dx fs)):∃ mA,ObjM h a dx C mA/\(∀ f,RelO (fs.lookup f) (mA f))/\PySem.Within mA (fs.map (·.1))/\fs.length<=1000/\H dx=some (.own a):=by
 obtain⟨d,z,ne,ob,mA,n,r,q⟩:=(show ObjOk P w H h a (.ins C dx fs) from hok a _ e);exact⟨mA,⟨ob,n,ne⟩,r,q,z,d⟩
end
structure Cls (K:PySem.W.Frag)(C:Addr):Prop where
 pg:plainGet K C Str.empty=true
 hd:hasDictIn K C=true
 po:plainOver K C=true
 sa:findIn K (.ref C) "__setattr__" = some (some (.builtin "object.__setattr__"))
theorem Cls.get {K:PySem.W.Frag}{C:Addr}(c:Cls K C)(f:Str):plainGet K C f=true:=c.pg
def NoAttr (K:PySem.W.Frag)(C:Addr)(f:Str):Prop:=findIn K (.ref C) f=some none
theorem NoAttr.taker {K:PySem.W.Frag}{C:Addr}{f:Str}(n:NoAttr K C f):takerIn K C f=some none:=by
 unfold takerIn;rw [show findIn K (.ref C) f=some none from n]
 rfl
structure abg (K:PySem.W.Frag)(C:Addr)(m:Str)(f:Addr):Prop where
 at_:findIn K (.ref C) m=some (some (.ref f))
 fn:isFn K (.ref f)=true
 kp:keepIn K (.ref f)=true
section
variable {X:Cx}{pins:List (Addr×Obj)}{σ:St}{H:Hp}{s:Shared}{a C dx:Addr}{fs:List (Str×V)}{f:Str}{v:V}{A:Around}{E:Value->Shared->Prop}
theorem vj {b:Bool}{Q:Value->Shared->Prop}(I:Inv X pins σ H s)(e:H a=some (.ins C dx fs))(c:Cls X.K C)(n:NoAttr X.K C f)(l:fs.lookup f=some v)
 (h:∀ u s',Inv X pins σ H s'->RelV v u->Q u s'):wpAny (model X.prog X.w) A (getAttr (.ref a) f b) Q E s:=by
 obtain⟨mA,O,r,_,_,_⟩:=oO I.hok e;obtain⟨u,hu,ru⟩:=RelO.some_of (v:=v) (o:=mA f) (by rw [← l];exact r f);exact aaE I.kIn O (c.get f) c.hd n hu (wK ru) (h u _ (I.tok _) ru)
theorem n9 {m:Str}{g:Addr}{pl:Sem Bool}{Q:Value×List Value->Shared->Prop}(I:Inv X pins σ H s)(e:H a=some (.ins C dx fs))(c:Cls X.K C)(k:abg X.K C m g)(l:fs.lookup m=none)
 (h:Q (.ref g,[.ref a]) s):wpAny (model X.prog X.w) A (getMethod (.ref a) m pl) Q E s:=by
 obtain⟨mA,O,r,_,_,_⟩:=oO I.hok e;have hn:mA m=none:=RelO.none_of (by rw [← l];exact r m);exact yW I.kIn O (c.get m) k.at_ k.fn hn h
theorem uD {y:V}{u:Value}{Q:Unit->Shared->Prop}(I:Inv X pins σ H s)(e:H a=some (.ins C dx fs))(c:Cls X.K C)(n:NoAttr X.K C f)(hl:fs.length < 1000)(ry:RelV y u)
 (h:∀ s',Inv X pins σ (upd H a (.ins C dx (iK f y fs))) s'->Q () s'):wpAny (model X.prog X.w) A (setAttr (.ref a) f u) Q E s:=by
 obtain⟨mA,O,r,wi,_,ho⟩:=oO I.hok e;have hz:(fs.map (·.1)).length<=sizeLine:=by rw [adG,sizeLine_eq];lia
 refine aaY I.kIn O c.sa c.po n.taker c.hd wi hz fun h' O' sb=>h _ ?_;have hd:∃ o,h'.get? dx=some o:=let ⟨o,_,_,e',_⟩:=O'.ns;⟨o,e'⟩;refine I.write (x:=a) (e:=dx) (by rw [e];exact True.intro) (.inr ho) (fun b q hb z=>(sb.2 b hb).trans z) hd ?_;refine⟨by rw [aj O.ne];exact ho,?_,O.ne,O'.obj,_,O'.ns,fun g=>?_,fun g hg=>?_⟩
 ·have:=gx f y fs;lia
 ·show RelO ((iK f y fs).lookup g) (if g=f then some u else mA g);rw [fc];by_cases q:g=f
  ·rw [if_pos q,if_pos q];exact ry
  ·rw [if_neg q,if_neg q];exact r g
 ·by_cases q:g=f
  ·rw [q];exact (lD f y fs).1
  ·refine (lD f y fs).2 g (wi g fun z=>hg ?_);show (if g=f then some u else mA g)=none;rw [if_neg q];exact z
theorem Inv.made (I:Inv X pins σ H s):Inv X pins σ (upd (upd H s.heap.objs.size (.own (s.heap.objs.size+1))) (s.heap.objs.size+1) (.ins C s.heap.objs.size []))
 { s with heap:=(s.heap.push emptyDict).push (instObj C s.heap.objs.size) }:=by
 have e1:(s.heap.push emptyDict).get? s.heap.objs.size=some emptyDict:=adX s.heap rfl;have e2:((s.heap.push emptyDict).push (instObj C s.heap.objs.size)).get? (s.heap.objs.size+1)=some (instObj C s.heap.objs.size):=by
  have:=adX (s.heap.push emptyDict) (o:=instObj C s.heap.objs.size) rfl
  rwa [aex] at this
 have e3:(s.heap.push emptyDict).Ns s.heap.objs.size (fun _=>none):=⟨emptyDict,#[],_,e1,rfl,(fun e he=>absurd he (by simp)),fun _=>rfl⟩;have I1:=I.laid (a:=s.heap.objs.size) (o:=.own (s.heap.objs.size+1)) (h':=s.heap.push emptyDict) (t':=s.toks) (fun b u q=>adH _ q) (adL _) ⟨_,e1⟩;refine I1.laid (a:=s.heap.objs.size+1) (o:=.ins C s.heap.objs.size []) (t':=s.toks) (fun b u q=>adH _ q) (Nat.le_of_eq (aex _ _)) ?_;have ne:s.heap.objs.size≠s.heap.objs.size+1:=ad2 (afu _);refine⟨by rw [aj ne,af],ad7 _,ne,e2,fun _=>none,(Heap.Ns1.of_empty e3).at fun o q=>adH _ q,fun _=>True.intro,fun y hy=>absurd rfl hy⟩
theorem aaF {prog:Program}{w:World}{env:Env}{e:Expr}{f:Str}{pos:Pos}{s:Shared}{Q:Value->Shared->Prop}(hb:attributeBase e f env (eval e env)=eval e env)
 (h:wpAny (model prog w) A (eval e env) (fun o s₁=>wpAny (model prog w) A (getAttr o f true) Q E s₁) E s):wpAny (model prog w) A (eval (.Attribute e f pos) env) Q E s :=
 Attribute_any_ h (by rw [arm_eval_Attribute,hb])
end
def adn (K:PySem.W.Frag)(ta:TE)(f:Str):TE:=fun σ H Q=>ta σ H fun x H1=>∃ a C dx fs v,x=.ref a/\H1 a=some (.ins C dx fs)/\Cls K C/\NoAttr K C f/\fs.lookup f=some v/\Q v H1
def ac6 (K:PySem.W.Frag)(ta tv:TE)(f:Str):TS:=fun D σ H=>tv σ H fun y H1=>ta σ H1 fun x H2=>∃ a C dx fs,x=.ref a/\H2 a=some (.ins C dx fs)/\Cls K C/\NoAttr K C f/\fs.length < 1000 ∧
 D.nx σ (upd H2 a (.ins C dx (iK f y fs)))
def ac8 (X:Cx)(op:Operator)(rd:V->V->Hp->VK->Prop):Prop :=
 ∀ (pins:List (Addr×Obj)) (s:Shared) (σ:St) (H:Hp) (x y:V) (u v:Value) (Q:VK),Inv X pins σ H s->RelV x u->RelV y v->rd x y H Q->wpAny (model X.prog X.w) X.A (inplaceOp op u v) (EP X pins σ Q) X.xe s
section
variable {X:Cx}{o e value:Expr}{f:Str}{pos pos' tpos:Pos}{ta tv:TE}
theorem vZ (he:PE X e ta)(hb:attributeBase e f X.env (eval e X.env)=eval e X.env):PE X (.Attribute e f pos) (adn X.K ta f):=by
 intro pins s σ H Q I h;refine aaF hb (thn (he pins s σ H _ I h) fun u s1 ⟨x,H1,I1,rx,a,C,dx,fs,v,ex,ea,c,n,l,q⟩=>?_);subst ex;obtain rfl:u=Value.ref a:=rx;exact vj I1 ea c n l fun u' s2 I2 ru=>⟨v,H1,I2,ru,q⟩
theorem xR (ha:PE X o ta)(hv:PE X value tv)(hs:swapsWith value (some (.Attribute o f pos')) pos.line X.env=pure false):PS X (.Assign [.Attribute o f pos'] value pos) (ac6 X.K ta tv f):=by
 intro pins s σ H D I h;refine plainObj_wpAny_Assign_Attribute (thn (hv pins s σ H _ I h) fun u s1 ⟨y,H1,I1,ry,q⟩=>thn (ha pins s1 σ H1 _ I1 q) fun ov s2 ⟨x,H2,I2,rx,a,C,dx,fs,ex,ea,c,n,l,q2⟩=>?_) hs;subst ex;obtain rfl:ov=Value.ref a:=rx;exact uD I2 ea c n l ry fun s3 I3=>⟨σ,_,I3,q2⟩
def adl:V->V->Hp->VK->Prop:=fun x y H Q=>∃ i j,x=.int i/\y=.int j/\Q (.int (i+j)) H
theorem abA:ac8 X .Add adl:=by
 rintro pins s σ H x y u v Q I rx ry ⟨i,j,rfl,rfl,q⟩;obtain⟨t,rfl⟩:=(show ∃ t,u=Value.int i t from rx);obtain⟨t',rfl⟩:=(show ∃ t',v=Value.int j t' from ry);exact PyProof.Rows.iadd_int ⟨.int (i+j),H,I.tok _,⟨_,rfl⟩,q⟩
theorem aaH {pl:Sem Bool}{m:Str}{apos:Pos}{args:List Expr}{pins:List (Addr×Obj)}{s:Shared}{σ:St}{H:Hp}{Q:Value->Shared->Prop}{te:TE}(he:PE X e te)(I:Inv X pins σ H s)
 (h:te σ H fun x H1=>∃ a C dx fs g,x=.ref a/\H1 a=some (.ins C dx fs)/\Cls X.K C/\abg X.K C m g/\fs.lookup m=none ∧
  ∀ s1,Inv X pins σ H1 s1->wpAny (model X.prog X.w) X.A (callWith pos (.ref g) [.ref a] (backTo pos (starEach args X.env)) (backToKw pos (keywordEach [] X.env))) Q X.xe s1)
 (ht:eval (.Call (.Attribute e m apos) args [] pos) X.env=(do
  let ov ← eval e X.env
  standAt apos.atName
  let (f,first) ← holding [ov] (getMethod ov m pl)
  callWith pos f first (backTo pos (starEach args X.env)) (backToKw pos (keywordEach [] X.env)))) :
 wpAny (model X.prog X.w) X.A (eval (.Call (.Attribute e m apos) args [] pos) X.env) Q X.xe s:=by
 refine ag8 (pl:=pl) (thn (he pins s σ H _ I h) fun u s1 ⟨x,H1,I1,rx,a,C,dx,fs,g,ex,ea,c,k,l,q⟩=>?_) ht;subst ex;obtain rfl:u=Value.ref a:=rx;exact n9 I1 ea c k l (q s1 I1)
end
section
variable {X:Cx}{pins:List (Addr×Obj)}{σ:St}{H:Hp}{s:Shared}{A:Around}{E:Value->Shared->Prop}{Q:Value->Shared->Prop}{c:Value}{b:Bool}
inductive uX (K:PySem.W.Frag)(H:Hp):V->Value->Prop where
 | non:uX K H .non (.type "NoneType")
 | bl (x:Bool):uX K H (.bl x) (.type "bool")
 | int (i:Int):uX K H (.int i) (.type "int")
 | str (x:Str):uX K H (.str x) (.type "str")
 | flt (x:UInt64):uX K H (.flt x) (.type "float")
 | lst {a:Addr} {xs:List V} (e:H a=some (.lst xs)):uX K H (.ref a) (.type "list")
 | frz {a:Addr} {o:Obj} {xs:List V} (e:H a=some (.frz o (.lst xs))):uX K H (.ref a) (.type "list")
 | tup {a:Addr} {xs:List V} (e:H a=some (.tup xs)):uX K H (.ref a) (.type "tuple")
 | dK {a:Addr} {kvs:List (Key×V)} (e:H a=some (.dK kvs)):uX K H (.ref a) (.type "dict")
 | dT {a:Addr} {kvs:List (List Key×V)} (e:H a=some (.dT kvs)):uX K H (.ref a) (.type "dict")
 | ins {a C dx:Addr} {fs:List (Str×V)} (e:H a=some (.ins C dx fs)) (cl:Cls K C) (ha:findIn K (.ref C) "__class__" = some (some (.builtin "object.__class__")))
  (hn:PySem.W.specialIn K (.builtin "object.__class__") "__get__" = some (some (.builtin "getset_descriptor.__get__"))) (htk:PySem.W.takesIn K (.builtin "object.__class__")=some true)
  (hm:PySem.W.mroIn K C (.type "object")=some true):uX K H (.ref a) (.ref C)
theorem xG {x:V}{u t:Value}(I:Inv X pins σ H s)(rx:RelV x u)(ty:uX X.K H x t)(e:kitOne X.K t c=some b)(h:∀ tk,Q (.bool b) { s with toks:=tk }) :
 wpAny (model X.prog X.w) A (call (.builtin "isinstance") [u,c]) Q E s:=by
 cases ty with
 | non=>cases (show u=Value.none from rx);exact aeJ PySem.W.kitx_none I.kIn True.intro e (fun z=>nomatch z) h
 | bl y=>cases (show u=Value.bool y from rx);exact aeJ PySem.W.kitx_bool I.kIn True.intro e (fun z=>nomatch z) h
 | int i=>obtain⟨t,q⟩:=(show ∃ t,u=Value.int i t from rx);cases q;exact aeJ PySem.W.kitx_int I.kIn True.intro e (fun z=>nomatch z) h
 | str y=>obtain⟨t,q⟩:=(show ∃ t,u=Value.str y t from rx);cases q;exact aeJ PySem.W.kitx_str I.kIn True.intro e (fun z=>nomatch z) h
 | flt y=>obtain⟨t,q⟩:=(show ∃ t,u=Value.float y t from rx);cases q;exact aeJ PySem.W.kitx_float I.kIn True.intro e (fun z=>nomatch z) h
 | @lst a xs ea =>
  cases (show u=Value.ref a from rx);obtain⟨_,_,n,_,h1⟩:=(show ObjOk X.prog X.w H s.heap a (.lst xs) from I.hok a _ ea);exact aeJ kitx_list I.kIn ⟨_,h1,rfl⟩ e (fun z=>nomatch z) h
 | @frz a ob xs ea =>
  cases (show u=Value.ref a from rx);obtain⟨_,_,_,n,_,h1⟩:=(show ObjOk X.prog X.w H s.heap a (.frz ob (.lst xs)) from I.hok a _ ea);exact aeJ kitx_list I.kIn ⟨_,h1,rfl⟩ e (fun z=>nomatch z) h
 | @tup a xs ea =>
  cases (show u=Value.ref a from rx);obtain⟨_,_,_,p⟩:=(show ObjOk X.prog X.w H s.heap a (.tup xs) from I.hok a _ ea);obtain⟨o,h1,h2,_⟩:=p;exact aeJ PySem.W.kitx_tuple I.kIn ⟨o,h1,h2⟩ e (fun z=>nomatch z) h
 | @dK a kvs ea =>
  cases (show u=Value.ref a from rx);obtain⟨_,_,vs,_,p⟩:=(show ObjOk X.prog X.w H s.heap a (.dK kvs) from I.hok a _ ea);obtain⟨o,es,ep,h1,h2,_⟩:=p;exact aeJ kitx_dict I.kIn ⟨o,h1,h2.1⟩ e (fun z=>nomatch z) h
 | @dT a kvs ea =>
  cases (show u=Value.ref a from rx);obtain⟨_,_,xs,_,o,es,ep,h1,h2,_⟩:=(show ObjOk X.prog X.w H s.heap a (.dT kvs) from I.hok a _ ea);exact aeJ kitx_dict I.kIn ⟨o,h1,h2.1⟩ e (fun z=>nomatch z) h
 | @ins a C dx fs ea cl ha hn htk hm =>
  cases (show u=Value.ref a from rx);obtain⟨mA,O,_⟩:=oO I.hok ea;obtain⟨od,J,_⟩:=O.look;exact aeJ (PySem.W.kitx_own (cl.get _) cl.hd ha hn htk hm) I.kIn J e (fun z=>nomatch z) h
end
structure Room (k:Nat)(A:Around):Prop where
 hd:A.handled=none
 dp:A.depth+3 * k+5 < recursionLimit
 un:A.units+16 * k+200 < cLine
theorem Room.mono {j k:Nat}{A:Around}(r:Room k A)(h:j<=k):Room j A:=⟨r.hd,by have:=r.dp;lia,by have:=r.un;lia⟩
theorem Room.deeper {k:Nat}{A:Around}(r:Room (k+1) A)(env:Env):Room k (A.deeper env) :=
 ⟨r.hd,by have:=r.dp;show A.depth+1+3 * k+5 < _;lia,by have:=r.un;show A.units+3+16 * k+200 < _;lia⟩
theorem u7 {A:Around}{C:Addr}{us:List Value}{kw:List (Str×Value)}:(A.under (.builtin "type.__call__" ⟨.ref C::us,kw⟩)).depth=A.depth+1:=by
 first | rfl | simp [Around.under,Code.weight,Code.isCreation,Code.isGuard,Code.isCaller,Code.frames,Code.isFrame,guardIds]
theorem vb {A:Around}{C:Addr}{us:List Value}{kw:List (Str×Value)}:(A.under (.builtin "type.__call__" ⟨.ref C::us,kw⟩)).units=A.units+1:=by
 first | rfl | simp [Around.under,Code.cUnits,Code.frames,Code.isFrame]
theorem Room.make {k:Nat}{A:Around}(r:Room (k+1) A)(C:Addr)(us:List Value)(kw:List (Str×Value)):Room k (A.under (.builtin "type.__call__" ⟨.ref C::us,kw⟩)) :=
 ⟨r.hd,by have:=r.dp;rw [u7];lia,by have:=r.un;rw [vb];lia⟩
theorem Room.depth {k:Nat}{A:Around}(r:Room k A):A.depth < recursionLimit:=by have:=r.dp;lia
theorem Room.units {k:Nat}{A:Around}(r:Room k A):A.units+64 < cLine:=by have:=r.un;lia
def rZ:TA:=fun _ H Q=>Q [] H
def iC (ta:TE)(tr:TA):TA:=fun σ H Q=>ta σ H fun x H1=>tr σ H1 fun xs H2=>Q (x::xs) H2
section
variable {X:Cx}{e:Expr}{es:List Expr}{te:TE}{t:TA}{pos:Pos}
theorem ah:PA X [] rZ:=fun _ _ _ _ H Q I h=>Calls.spliced_nil ⟨[],H,I,.nil,h⟩
theorem ae (ha:PE X e te)(hr:PA X es t)(hs:starEach (e::es) X.env=(false,eval e X.env)::starEach es X.env:=by rfl):PA X (e::es) (iC te t):=by
 intro pos pins s σ H Q I h;rw [hs];show wpAny _ _ (spliced ((false,eval e X.env)::backTo pos (starEach es X.env))) _ _ s;refine Calls.spliced_cons (thn (ha pins s σ H _ I h) fun u s1 ⟨x,H1,I1,r1,q1⟩=>?_);exact thn (hr pos pins s1 σ H1 _ I1 q1) fun us s2 ⟨xs,H2,I2,r2,q2⟩=>⟨x::xs,H2,I2,.cons r1 r2,q2⟩
def adz (t:TA):TE:=fun σ H Q=>t σ H fun xs H1=>xs.length<=sizeLine/\∀ p,H1 p=none->Q (.ref p) (upd H1 p (.tup xs))
def aci (t:TA):TE:=fun σ H Q=>t σ H fun xs H1=>xs.length<=sizeLine/\∀ p,H1 p=none->Q (.ref p) (upd H1 p (.lst xs))
theorem oo {x1}(h:PA X es t):PE X (.Tuple es x1 pos) (adz t):=by
 intro pins s σ H Q I hq;refine wpAny_Tuple_spliced (thn (h pos pins s σ H _ I hq) fun us s1 ⟨xs,H1,I1,r,z,q⟩=>⟨by rw [← r.length];exact z,?_⟩);have hf:H1 s1.heap.objs.size=none:=I1.hok.fresh (adL _);refine⟨.ref s1.heap.objs.size,upd H1 s1.heap.objs.size (.tup xs),I1.laid (t':=s1.toks) (fun b u e=>adH _ e) (adL _) ?_,rfl,q _ hf⟩;exact⟨z,us,r,⟨_,adX _ rfl,rfl,_,rfl⟩⟩
theorem cg (h:PA X es t):PE X (.List es pos) (aci t):=by
 intro pins s σ H Q I hq;refine wpAny_List_spliced (thn (h pos pins s σ H _ I hq) fun us s1 ⟨xs,H1,I1,r,z,q⟩=>⟨by rw [← r.length];exact z,?_⟩);have hf:H1 s1.heap.objs.size=none:=I1.hok.fresh (adL _);refine⟨.ref s1.heap.objs.size,upd H1 s1.heap.objs.size (.lst xs),I1.laid (t':=s1.toks) (fun b u e=>adH _ e) (adL _) ?_,rfl,q _ hf⟩;exact⟨z,us,0,r,adX _ rfl⟩
end
abbrev Sp:=List V->Hp->VK->XK->Prop
abbrev CXT:=List Env->Hp->Shared->XK->Value->Shared->Prop
structure Env0 (P:Program)(w:World)(K:PySem.W.Frag)(mg:Str->Option Value)(base:Heap)(A:Around)(outer:List Env)(s:Shared)(H:Hp):Prop where
 frames:A.frames=some outer
 mod:Mod K mg base
 bs:∀ b o,base.get? b=some o->s.heap.get? b=some o/\H b=none
 bsz:base.objs.size<=s.heap.objs.size
 funs:s.heap.FunFrames base outer
 frf:∀ b∈frs outer,H b=none
 hok:HOk P w H s.heap
 bare:AllBare s.gens
def CE (outer:List Env)(P:Program)(w:World)(H:Hp)(s:Shared)(Q:VK)(u:Value)(s':Shared):Prop :=
 ∃ v H',s'.os=s.os/\AllBare s'.gens/\Un (frs outer) [] H H' s.heap s'.heap/\HOk P w H' s'.heap/\RelV v u/\Q v H'
def CR (CX:CXT)(outer:List Env)(P:Program)(w:World)(H:Hp)(s:Shared)(Q:VK)(E:XK)(r:Result)(s':Shared):Prop :=
 match r with
 | .ok (.ret u)=>CE outer P w H s Q u s'
 | .ok _=>False
 | .error e=>CX outer H s E e s'
structure FnOk (P:Program)(w:World)(K:PySem.W.Frag)(mg:Str->Option Value)(base:Heap)(CX:CXT)(k:Nat)(f:Addr)(fd:FuncData)(ps:List Str)(sp:Sp):Prop where
 len:∀ vs H Q E,sp vs H Q E->vs.length=ps.length
 run:∀ (A:Around) (outer:List Env) (s:Shared) (H:Hp) (args:Args) (us:List Value) (vs:List V) (Q:VK) (E:XK),Room k A->Env0 P w K mg base A outer s H->BindsTo s fd args (ps.zip us)->Vals vs us->sp vs H Q E →
  codeAny (model P w) A (.call (.ref f) args) (CR CX outer P w H s Q E) s
theorem Env0.make {P:Program}{w:World}{K:PySem.W.Frag}{mg:Str->Option Value}{base:Heap}{A:Around}{outer:List Env}{s:Shared}{H:Hp}(e:Env0 P w K mg base A outer s H)(C:Addr)(us:List Value)(kw:List (Str×Value)) :
 Env0 P w K mg base (A.under (.builtin "type.__call__" ⟨.ref C::us,kw⟩)) outer s H:=⟨by first | exact e.frames | (simpa [Around.under,Code.envs,Code.isFrame,pushEnvs] using e.frames),e.mod,e.bs,e.bsz,e.funs,e.frf,e.hok,e.bare⟩
section
variable {X:Cx}{pins:List (Addr×Obj)}{σ:St}{H:Hp}{s s':Shared}
theorem Inv.env0 (I:Inv X pins σ H s):Env0 X.prog X.w X.K X.mg X.base X.A X.stack s H :=
 ⟨I.ok.frames,I.ok.mod,I.bs,adZ I.ok.bsz I.sz,I.stack,I.stkFree,I.hok,I.bare⟩
theorem Inv.after {Q:VK}{u:Value}(I:Inv X pins σ H s)(h:CE X.stack X.prog X.w H s Q u s'):EP X pins σ Q u s':=by
 obtain⟨v,H',os,bare,un,hok,r,q⟩:=h;obtain⟨hh,g,d,t,os'⟩:=s';obtain rfl:os'=s.os:=os;exact⟨v,H',I.call (h':=hh) (g':=g) (d':=d) (t':=t) (ch:=[]) un hok bare (fun b z=>absurd z (by simp)),r,q⟩
end
def abx (sp:Sp)(dvs:List V)(E:XK)(t:TA):TE:=fun σ H Q=>t σ H fun vs H1=>sp (vs++dvs) H1 Q E
def acY (C:Addr)(m:Str)(sp:Sp)(dvs:List V)(E:XK)(ta:TE)(t:TA):TE:=fun σ H Q=>ta σ H fun x H1=>∃ a dx fs,x=.ref a/\H1 a=some (.ins C dx fs)/\fs.lookup m=none ∧
 t σ H1 fun vs H2=>sp (x::(vs++dvs)) H2 Q E
def acx (C:Addr)(sp:Sp)(dvs:List V)(E:XK)(t:TA):TE:=fun σ H Q=>t σ H fun vs H1=>∀ x dx,H1 x=none->H1 dx=none->dx≠x →
 sp (.ref x::(vs++dvs)) (upd (upd H1 dx (.own x)) x (.ins C dx [])) (fun v H2=>v=.non/\Q (.ref x) H2) E
def Binds (K:PySem.W.Frag)(fd:FuncData)(ps:List Str)(ds:List Value):Prop :=
 ∀ (s:Shared) (us:List Value),K.In s.heap->(us++ds).length=ps.length->BindsTo s fd ⟨us,[]⟩ (ps.zip (us++ds))
theorem Binds.all {K:PySem.W.Frag}{fd:FuncData}{ps:List Str}(h:∀ us:List Value,us.length=ps.length->bindArgs fd ⟨us,[]⟩=pure (ps.zip us)):Binds K fd ps []:=fun s us _ hl=>by
 rw [aew] at hl ⊢;exact .of_eq (h us hl)
def nH (CX:CXT)(X:Cx)(E:XK):Prop:=∀ (pins:List (Addr×Obj)) (σ:St) (H:Hp) (s:Shared) (e:Value) (s':Shared),Inv X pins σ H s->CX X.stack H s E e s'->X.xe e s'
section
variable {X:Cx}{CX:CXT}{k:Nat}{f C:Addr}{fd:FuncData}{ps:List Str}{sp:Sp}{dvs:List V}{ds:List Value}{E:XK}{x m:Str}{p pos apos:Pos}{e o:Expr}{es:List Expr}{ta:TE}{t:TA}
theorem zL {pins:List (Addr×Obj)}{σ:St}{H:Hp}{s:Shared}{Q:VK}{us:List Value}{vs:List V}(F:FnOk X.prog X.w X.K X.mg X.base CX k f fd ps sp)(hr:Room k X.A)(hb:Binds X.K fd ps ds)(hd:Vals dvs ds)(hx:nH CX X E)
 (I:Inv X pins σ H s)(r:Vals vs us)(h:sp (vs++dvs) H Q E):wpAny (model X.prog X.w) X.A (call (.ref f) us) (EP X pins σ Q) X.xe s:=by
 have r2:Vals (vs++dvs) (us++ds):=r.append hd;have hl:(us++ds).length=ps.length:=by rw [← r2.length];exact F.len _ _ _ _ h
 refine wpAny_call (afC (F.run X.A X.stack s H ⟨us,[]⟩ (us++ds) (vs++dvs) Q E hr I.env0 (hb s us I.kIn hl) r2 h) fun r s' hq=>?_);cases r with
 | error e=>exact hx pins σ H s e s' I hq
 | ok fl =>
  cases fl with
  | ret u=>exact I.after hq
  | next=>exact False.elim hq
  | brk=>exact False.elim hq
  | cont=>exact False.elim hq
theorem d9 (F:FnOk X.prog X.w X.K X.mg X.base CX k f fd ps sp)(hr:Room k X.A)(hg:Gl X x)(hm:X.mg x=some (.ref f))(hk:keepIn X.K (.ref f)=true)(hb:Binds X.K fd ps ds)(hd:Vals dvs ds)(hx:nH CX X E)
 (ha:PA X (e::es) t)(hdb:(x == ("__debug__" : Str))=false:=by decide)(he:starEach (e::es) X.env=(false,eval e X.env)::starEach es X.env:=by rfl)(hpl:(backTo pos (starEach es X.env)).any (·.1)=false:=by rfl) :
 PE X (.Call (.Name x p) (e::es) [] pos) (abx sp dvs E t):=by
 intro pins s σ H Q I h;refine afA (jR I hg hm ?_ hdb);refine afR (h₀:=X.base) I.ok.mod.kin hk (thn (ha pos pins s σ H _ I h) fun us s1 ⟨vs,H1,I1,r,q⟩=>⟨I1.kIn,?_⟩) he hpl;exact zL F hr hb hd hx I1 r q
theorem wt {pl:Sem Bool}(he:PE X o ta)(c:Cls X.K C)(hm:abg X.K C m f)(F:FnOk X.prog X.w X.K X.mg X.base CX k f fd ps sp)(hr:Room k X.A)(hb:Binds X.K fd ps ds)(hd:Vals dvs ds)(hx:nH CX X E)(ha:PA X (e::es) t)
 (hst:starEach (e::es) X.env=(false,eval e X.env)::starEach es X.env:=by rfl)(hpl:(backTo pos (starEach es X.env)).any (·.1)=false:=by rfl)
 (ht:eval (.Call (.Attribute o m apos) (e::es) [] pos) X.env=(do
  let ov ← eval o X.env
  standAt apos.atName
  let (f,first) ← holding [ov] (getMethod ov m pl)
  callWith pos f first (backTo pos (starEach (e::es) X.env)) (backToKw pos (keywordEach [] X.env))):=by rfl) :
 PE X (.Call (.Attribute o m apos) (e::es) [] pos) (acY C m sp dvs E ta t):=by
 intro pins s σ H Q I h;refine ag8 (pl:=pl) (thn (he pins s σ H _ I h) fun u s1 ⟨x,H1,I1,rx,a,dx,fs,ex,ea,l,q⟩=>?_) ht;subst ex;obtain rfl:u=Value.ref a:=rx;refine n9 I1 ea c hm l ?_;refine afR (first:=[.ref a]) (h₀:=X.base) I.ok.mod.kin hm.kp (thn (ha pos pins s1 σ H1 _ I1 q) fun us s2 ⟨vs,H2,I2,r,q2⟩=>⟨I2.kIn,?_⟩) hst hpl;exact zL (us:=.ref a::us) (vs:=.ref a::vs) F hr hb hd hx I2 (.cons rfl r) q2
structure Mk (K:PySem.W.Frag)(C f:Addr):Prop where
 makes:makesIn K C=true
 init:findIn K (.ref C) "__init__" = some (some (.ref f))
 fn:isFn K (.ref f)=true
 kp:keepIn K (.ref C)=true
theorem y4 {pins:List (Addr×Obj)}{σ:St}{H:Hp}{s:Shared}{Q:VK}{us:List Value}{vs:List V}(M:Mk X.K C f)(F:FnOk X.prog X.w X.K X.mg X.base CX k f fd ps sp)(hr:Room (k+1) X.A)(hb:Binds X.K fd ps ds)(hd:Vals dvs ds)
 (hx:nH CX X E)(I:Inv X pins σ H s)(r:Vals vs us)
 (h:∀ x dx,H x=none->H dx=none->dx≠x->sp (.ref x::(vs++dvs)) (upd (upd H dx (.own x)) x (.ins C dx [])) (fun v H2=>v=.non/\Q (.ref x) H2) E) :
 wpAny (model X.prog X.w) X.A (call (.ref C) us) (EP X pins σ Q) X.xe s:=by
 have hq:=h (s.heap.objs.size+1) s.heap.objs.size (I.hok.fresh (ae7 _)) (I.hok.fresh (adL _)) (ad2 (afu _));have I2:=Inv.made (C:=C) I;have r2:Vals (V.ref (s.heap.objs.size+1)::(vs++dvs)) (Value.ref (s.heap.objs.size+1)::(us++ds)):=.cons rfl (r.append hd);have hl:(Value.ref (s.heap.objs.size+1)::us++ds).length=ps.length:=by
  have e:=r2.length;rw [F.len _ _ _ _ hq] at e;exact e.symm
 refine wpAny_call (yV (f:=f) I.kIn M.makes M.init (afh.mp M.fn) (afC (F.run _ X.stack _ _ ⟨Value.ref (s.heap.objs.size+1)::us,[]⟩ (Value.ref (s.heap.objs.size+1)::(us++ds)) _ _ E (hr.make C us [])
  (I2.env0.make C us []) (hb _ (Value.ref (s.heap.objs.size+1)::us) I2.kIn hl) r2 hq) fun r s' hq'=>?_))
 cases r with
 | error e=>exact hx pins σ _ _ e s' I2 hq'
 | ok fl =>
  cases fl with
  | ret u =>
   obtain⟨v,H',I3,rv,ev,q3⟩:=I2.after hq';subst ev;exact⟨rv,⟨V.ref (s.heap.objs.size+1),H',I3,rfl,q3⟩⟩
  | next=>exact False.elim hq'
  | brk=>exact False.elim hq'
  | cont=>exact False.elim hq'
theorem aa6 (M:Mk X.K C f)(F:FnOk X.prog X.w X.K X.mg X.base CX k f fd ps sp)(hr:Room (k+1) X.A)(hg:Gl X x)(hm:X.mg x=some (.ref C))(hb:Binds X.K fd ps ds)(hd:Vals dvs ds)(hx:nH CX X E)
 (ha:PA X (e::es) t)(hdb:(x == ("__debug__" : Str))=false:=by decide)(he:starEach (e::es) X.env=(false,eval e X.env)::starEach es X.env:=by rfl)(hpl:(backTo pos (starEach es X.env)).any (·.1)=false:=by rfl) :
 PE X (.Call (.Name x p) (e::es) [] pos) (acx C sp dvs E t):=by
 intro pins s σ H Q I h;refine afA (jR I hg hm ?_ hdb);refine afR (h₀:=X.base) I.ok.mod.kin M.kp (thn (ha pos pins s σ H _ I h) fun us s1 ⟨vs,H1,I1,r,q⟩=>⟨I1.kIn,?_⟩) he hpl;exact y4 M F hr hb hd hx I1 r q
end
section
variable {X:Cx}{CX:CXT}{k:Nat}{f C:Addr}{fd:FuncData}{ps ks:List Str}{sp:Sp}{E:XK}{x m:Str}{p pos apos kpos:Pos}{e o:Expr}{es:List Expr}{kws:List Keyword}{te ta:TE}{t tk:TA}{nm:Option Str}
variable {g:List Value->List Value->List Value}{gV:List V->List V->List V}
end
structure aA (N P:List Str)(sc:Scope):Prop where
 kind:sc.kind=.function
 co:sc.isCoroutine=false
 gen:sc.isGenerator=false
 nd:N.Nodup
 pre:N.take P.length=P
 par:∀ x∈P,sc.names.lookup x=some .local\/sc.names.lookup x=some .cell
 nofree:∀ y∈sc.names,y.2≠.free
theorem scM {N P:List Str}{sc:Scope}(a:sc.kind=.function)(b:sc.isCoroutine=false)(c:sc.isGenerator=false)(e:N.take P.length=P)(d:N.Nodup/\(∀ x∈P,sc.names.lookup x=some .local\/sc.names.lookup x=some .cell)/\∀ y∈sc.names,y.2≠.free):aA N P sc:=⟨a,b,c,d.1,e,d.2.1,d.2.2⟩
theorem qz {kindOf:Str->Option NameKind}{x:Str}:∀ {binds:List (Str×Value)} {m:Str->Option Value},(∀ v,(x,v) ∉ binds)->bindL kindOf binds m x=m x
 | [],_,_=>rfl
 | (n,v)::r,m,h=>by
  unfold bindL;rw [qz fun w hw=>h w (adN _ hw)];split
  ·have:x≠n:=by rintro rfl;exact h v adV
   simp [this]
  ·rfl
theorem pP {kindOf:Str->Option NameKind}{x:Str}:∀ {binds:List (Str×Value)} {m:Str->Option Value},(∀ v,(x,v) ∉ binds)->bindC kindOf binds m x=m x
 | [],_,_=>rfl
 | (n,v)::r,m,h=>by
  unfold bindC;rw [pP fun w hw=>h w (adN _ hw)];split
  ·rfl
  ·have:x≠n:=by rintro rfl;exact h v adV
   simp [this]
theorem qt {kindOf:Str->Option NameKind}{x:Str}{v:Value}:∀ {P:List Str} {vs:List Value} {i:Nat} {m:Str->Option Value},P.Nodup->P[i]? = some x->vs[i]? = some v->kindOf x=some .local →
 bindL kindOf (P.zip vs) m x=some v
 | [],_,_,_,_,h,_,_=>by simp at h
 | _::_,[],_,_,_,_,h,_=>by simp at h
 | p::P,w::vs,0,m,nd,h1,h2,hk=>by
  simp at h1 h2;subst h1;subst h2;show bindL kindOf ((p,w)::P.zip vs) m p=_;unfold bindL;rw [qz fun v hv=>(aeK.mp nd).1 (ag9 hv).1,if_pos hk];simp
 | p::P,w::vs,i+1,m,nd,h1,h2,hk=>by
  show bindL kindOf ((p,w)::P.zip vs) m x=_;unfold bindL;exact qt (i:=i) (aeK.mp nd).2 (by simpa using h1) (by simpa using h2) hk
theorem ql {kindOf:Str->Option NameKind}{x:Str}{v:Value}:∀ {P:List Str} {vs:List Value} {i:Nat} {m:Str->Option Value},P.Nodup->P[i]? = some x->vs[i]? = some v->kindOf x≠some .local →
 bindC kindOf (P.zip vs) m x=some v
 | [],_,_,_,_,h,_,_=>by simp at h
 | _::_,[],_,_,_,_,h,_=>by simp at h
 | p::P,w::vs,0,m,nd,h1,h2,hk=>by
  simp at h1 h2;subst h1;subst h2;show bindC kindOf ((p,w)::P.zip vs) m p=_;unfold bindC;rw [pP fun v hv=>(aeK.mp nd).1 (ag9 hv).1,if_neg hk];simp
 | p::P,w::vs,i+1,m,nd,h1,h2,hk=>by
  show bindC kindOf ((p,w)::P.zip vs) m x=_;unfold bindC;exact ql (i:=i) (aeK.mp nd).2 (by simpa using h1) (by simpa using h2) hk
def mM (N:List Str)(vs:List V):St:=vs.map some++List.replicate (N.length - vs.length) none
def pM (CX:CXT)(P:Program)(w:World)(K:PySem.W.Frag)(mg:Str->Option Value)(base:Heap)(N:List Str)(qual:Str)(scope:Scope)(f:Addr)(cd:Value)(A:Around)(outer:List Env)(s:Shared)(H:Hp)(E:XK):Cx where
 prog:=P
 w:=w
 K:=K
 mg:=mg
 base:=base
 A:=A.deeper (envOfC qual scope s.heap.objs.size f cd)
 N:=N
 s₀:=s
 H₀:=H
 env:=envOfC qual scope s.heap.objs.size f cd
 outer:=outer
 stack:=envOfC qual scope s.heap.objs.size f cd::outer
 ex:=[]
 calm:=true
 fn:=fun _=>true
 pn:=[]
 xe:=fun e s'=>wpAny (model P w) (A.deeper (envOfC qual scope s.heap.objs.size f cd)) (leaving (envOfC qual scope s.heap.objs.size f cd) e) (fun _ s''=>CX outer H s E e s'') (fun e' s''=>CX outer H s E e' s'') s'
theorem tW {sc:Scope}{n:Nat}{x:Str}(h:sc.names.lookup x=some .cell):∃ c,(cellsFrom n sc.names []).lookup x=some c:=by
 have q:=ag3 sc.names n [] (.inl h);exact agF.mp q
theorem xV {CX:CXT}{P:Program}{w:World}{K:PySem.W.Frag}{mg:Str->Option Value}{base:Heap}{N ps:List Str}{qual:Str}{scope:Scope}{f:Addr}{cd:Value}{A:Around}{outer:List Env}{s s1:Shared}{H:Hp}{E:XK}{us:List Value}{vs:List V}
 (S:aA N ps scope)(hd:A.handled=none)(e0:Env0 P w K mg base A outer s H)(hl:vs.length=ps.length)(r:Vals vs us)
 (x:InCallC s s.heap.objs.size (bindL (envOfC qual scope s.heap.objs.size f cd).kindOf (ps.zip us) fun _=>none) (cellsFrom (s.heap.objs.size+1) scope.names []) (bindC (envOfC qual scope s.heap.objs.size f cd).kindOf (ps.zip us) fun _=>none) s1) :
 Inv (pM CX P w K mg base N qual scope f cd A outer s H E) [] (mM N vs) H s1:=by
 have hpl:ps.length<=N.length:=by have:=aeu List.length S.pre;rw [aeb] at this;lia
 obtain⟨h1,tk,rfl,hk⟩:=x.done;have noA:∀ b:Addr,b ∉ (pM CX P w K mg base N qual scope f cd A outer s H E).ex:=fun b z=>absurd (show b∈([]:List Addr) from z) (by simp);refine⟨⟨e0.mod,S.kind,rfl,rfl,adL _,fun y z c h1 h2=>?_,fun y hy=>?_,fun y c _ h=>?_,fun _=>hd,Around.frames_deeper e0.frames,.inr ⟨rfl,rfl⟩,fun b z=>absurd z (noA b),e0.bs,e0.bsz,fun b _ _=>noA b,fun b z=>absurd z (noA b),e0.funs,e0.frf⟩,
  rfl,e0.bare,Un.kept hk,⟨_,x.toInCall.ns,fun i y v h1 h2 h3=>?_⟩,fun y c h=>⟨_,x.cell y c h⟩,e0.hok.fresh (adL _),fun y c h=>?_,fun p hp=>absurd (show p∈([]:List (Addr×Obj)) from hp) (by simp),e0.hok.kept hk,?_⟩
 ·exact name_of_addr x.apart (afq h1) (afq h2)
 ·have hy:scope.names.lookup y=some .cell\/scope.names.lookup y=some .free:=hy;rcases hy with hy | hy
  ·exact tW hy
  ·exact absurd rfl (S.nofree _ (afq hy))
 ·exact afb (x.above y c (afq h))
 ·have hi:i < vs.length:=by
   unfold mM at h2;by_cases hi:i < vs.length
   ·exact hi
   ·rw [ad1 (by simpa using hi)] at h2;rw [afr] at h2;split at h2<;>cases h2
  have ha:vs[i]? = some v:=by
   unfold mM at h2;rw [ad0 (by simpa using hi),adK] at h2;cases e:vs[i]? with
   | none=>rw [e] at h2;cases h2
   | some a=>rw [e] at h2;cases h2;rfl
  obtain⟨u,hu,rv⟩:=r.get ha;have hp:ps[i]? = some y:=by
   rw [← S.pre,List.getElem?_take_of_lt (by lia)];exact h1
  have ndP:ps.Nodup:=by rw [← S.pre];exact S.nd.sublist (List.take_sublist _ _)
  refine⟨u,rv,?_⟩;rcases S.par y (adR hp) with k | k
  ·exact .inl ⟨k,qt ndP hp hu k⟩
  ·obtain⟨c,e⟩:=tW (n:=s.heap.objs.size+1) k;refine .inr ⟨.inl k,c,e,?_⟩;have q:=x.cell y c e;rw [ql ndP hp hu (by show scope.names.lookup y≠_;rw [k];decide)] at q;exact q
 ·exact e0.hok.fresh (afb (x.above y c (afq h)))
 ·unfold mM;show _=N.length;rw [adI,adG,aey];lia
theorem aaC {CX:CXT}{P:Program}{w:World}{K:PySem.W.Frag}{mg:Str->Option Value}{base:Heap}{k:Nat}{f:Addr}{name qual:Str}{params:Arguments}{body:List Stmt}{scope:Scope}{dV kV doc pm cdv ct oc:Value}{an od:Option Addr}
 {osl:Array (Option Value)}{N ps:List Str}{sp:Sp}(lk:K.lookup f=some ⟨oc,od,.func (fnOf name qual params body scope dV kV doc pm an cdv ct),osl⟩)(hcd:codeIn K cdv qual=true)(S:aA N ps scope)
 (len:∀ vs H Q E,sp vs H Q E->vs.length=ps.length)
 (hbody:∀ (A:Around) (outer:List Env) (s:Shared) (H:Hp) (vs:List V) (Q:VK) (E:XK),Room k (A.deeper (envOfC qual scope s.heap.objs.size f cdv))->sp vs H Q E →
  ∃ t,PSs (pM CX P w K mg base N qual scope f cdv A outer s H E) body t/\t { nx:=fun _ H'=>Q .non H',rt:=Q } (mM N vs) H) :
 FnOk P w K mg base CX (k+1) f (fnOf name qual params body scope dV kV doc pm an cdv ct) ps sp:=by
 refine⟨len,fun A outer s H args us vs Q E hr e0 hb r hsp=>?_⟩;have hl:=len _ _ _ _ hsp;have KX:K.In s.heap:=e0.mod.kin.keeps fun b o e=>(e0.bs b o e).1;have lim:s.heap.NoLimit:=e0.mod.nolimit.keeps fun b o e=>(e0.bs b o e).1;have hkind:∀ y∈ps.zip us,scope.names.lookup y.1=some .local\/(scope.names.lookup y.1=some .cell/\((cellsFrom (s.heap.objs.size+1) scope.names []).lookup y.1).isSome=true):=fun ⟨n,v⟩ hy=>by
  rcases S.par n (ag9 hy).1 with q | q
  ·exact .inl q
  ·exact .inr ⟨q,ag3 _ _ _ (.inl q)⟩
 refine codeAny_call_function hr.depth (KX _ _ lk) rfl S.co S.gen rfl (PySem.W.codeRec_of KX hcd) (hb _ _ _ _ ?_);refine wpAny_newFunctionEnv_cells S.kind hkind fun env he s1 x=>?_;subst he;refine⟨lim.keeps x.toInCall.keep,codeAny_func ?_⟩;obtain⟨t,ht,hq⟩:=hbody A outer s H vs Q E (hr.deeper _) hsp;have I:Inv (pM CX P w K mg base N qual scope f cdv A outer s H E) [] (mM N vs) H s1:=xV S hr.hd e0 hl r x;refine aed (ht [] s1 (mM N vs) H _ I hq) (fun fl s' hs=>?_) fun e s' hs=>hs;have fin:∀ {σ':St} {H':Hp} {v:V} {u:Value},Inv (pM CX P w K mg base N qual scope f cdv A outer s H E) [] σ' H' s'->RelV v u->Q v H'->CE outer P w H s Q u s' :=
  fun {σ' H' v u} J rv q=>⟨v,H',J.os,J.bare,J.base,J.hok,rv,q⟩
 cases fl with
 | ret u =>
  obtain⟨v,σ',H',J,rv,q⟩:=hs;exact fin J rv q
 | next =>
  obtain⟨σ',H',J,q⟩:=hs;exact fin (v:=V.non) (u:=Value.none) J rfl q
 | brk =>
  obtain⟨_,_,_,q⟩:=hs;exact False.elim q
 | cont =>
  obtain⟨_,_,_,q⟩:=hs;exact False.elim q
section
variable {X:Cx}{x:Str}{p pos:Pos}{e:Expr}{es:List Expr}{t:TA}{id T:String}{r:List V->Hp->VK->Prop}
def tCB (r:List V->Hp->VK->Prop)(t:TA):TE:=fun σ H Q=>t σ H fun vs H1=>r vs H1 Q
theorem aw (hc:gX X (.builtin id) r)(hg:Gl X x)(hm:X.mg x=none)(hv:bootBuiltins x=some (.builtin id))(ha:PA X (e::es) t)(hn:x ≠ "__name__" := by decide)(hdb:(x == ("__debug__" : Str))=false:=by decide)
 (he:starEach (e::es) X.env=(false,eval e X.env)::starEach es X.env:=by rfl)(hpl:(backTo pos (starEach es X.env)).any (·.1)=false:=by rfl):PE X (.Call (.Name x p) (e::es) [] pos) (tCB r t):=by
 intro pins s σ H Q I h;refine afA (kj I hg hm hv ?_ hn hdb);exact PyProof.Rows.callWith_builtin1 (thn (ha pos pins s σ H _ I h) fun us s1 ⟨vs,H1,I1,r1,q1⟩=>hc pins s1 σ H1 vs us Q I1 r1 q1) he hpl
theorem dU (hc:gX X (.type T) r)(hg:Gl X x)(hm:X.mg x=none)(hv:bootBuiltins x=some (.type T))(ha:PA X (e::es) t)(hn:x ≠ "__name__" := by decide)(hdb:(x == ("__debug__" : Str))=false:=by decide)
 (he:starEach (e::es) X.env=(false,eval e X.env)::starEach es X.env:=by rfl)(hpl:(backTo pos (starEach es X.env)).any (·.1)=false:=by rfl):PE X (.Call (.Name x p) (e::es) [] pos) (tCB r t):=by
 intro pins s σ H Q I h;refine afA (kj I hg hm hv ?_ hn hdb);exact aeE (thn (ha pos pins s σ H _ I h) fun us s1 ⟨vs,H1,I1,r1,q1⟩=>hc pins s1 σ H1 vs us Q I1 r1 q1) he hpl
end
end L2
namespace HT
open PySem PyProof.Rows
section
open PySem.SeqAt
open PySem.AutoSeq1 (wpAny_loadPart')
open PySem.MeetsSeq PySem.MeetsSeq2 PySem.MeetsSeq3
end
section
variable {prog:Program}{w:World}{A:Around}{E:Value->Shared->Prop}{s:Shared}
def sIx (n d:Nat):Option Int->Nat
 | none=>d
 | some v=>if v < 0 then (v+(n:Int)).toNat else min v.toNat n
theorem sIx_none (n d:Nat):sIx n d none=d:=rfl
theorem sIx_nat (n d k:Nat):sIx n d (some (k:Int))=min k n:=by
 show (if (k:Int) < 0 then ((k:Int)+(n:Int)).toNat else min (k:Int).toNat n)=min k n;rw [if_neg (by lia),aek]
end
end HT
namespace L2
open PySem PySem.Spec PyProof.Rows
abbrev TO:=St->Hp->(Option Int->Hp->Prop)->Prop
def PO (X:Cx)(e:Option Expr)(t:TO):Prop :=
 ∀ (pins:List (Addr×Obj)) (s:Shared) (σ:St) (H:Hp) (Q:Option Int->Hp->Prop),Inv X pins σ H s->t σ H Q →
  wpAny (model X.prog X.w) X.A (evalPart e X.env) (fun u s'=>∃ o H',Inv X pins σ H' s'/\IsPart u o/\Q o H') X.xe s
def aab:TO:=fun _ H Q=>Q none H
def acR (t:TE):TO:=fun σ H Q=>t σ H fun x H1=>∃ i,x=.int i/\Q (some i) H1
section
variable {X:Cx}{e:Expr}{te:TE}{lo hi:Option Expr}{tl th:TO}{pos p2:Pos}
theorem fU:PO X none aab:=by
 intro pins s σ H Q I h;rw [evalPart_none];exact adJ ⟨none,H,I,.none,h⟩
theorem fP (h:PE X e te):PO X (some e) (acR te):=by
 intro pins s σ H Q I hw;rw [evalPart_some];refine thn (h pins s σ H _ I hw) fun u s1 ⟨x,H1,I1,r1,q1⟩=>?_;obtain⟨i,rfl,q⟩:=q1;obtain⟨t,rfl⟩:=r1;exact⟨some i,H1,I1,.int i t,q⟩
def SlR (X:Cx)(r:V->Option Int->Option Int->Hp->VK->Prop):Prop :=
 ∀ (pins:List (Addr×Obj)) (s:Shared) (σ:St) (H:Hp) (x:V) (v vl vu:Value) (lo hi:Option Int) (sl:Addr) (Q:VK),Inv X pins σ H s->RelV x v->s.heap.IsSliceOf sl vl vu .none->IsPart vl lo->IsPart vu hi->r x lo hi H Q →
  ∃ T id,typeLookup (.type T) "__getitem__" = pure (some (.builtin id))/\s.TypeIs v T/\wpAny (model X.prog X.w) X.A (getItem v (.ref sl)) (EP X pins σ Q) X.xe s
def tSl (r:V->Option Int->Option Int->Hp->VK->Prop)(te:TE)(tl th:TO):TE:=fun σ H Q=>te σ H fun x H1=>tl σ H1 fun l H2=>th σ H2 fun u H3=>r x l u H3 Q
theorem dH {r:V->Option Int->Option Int->Hp->VK->Prop}(hr:SlR X r)(he:PE X e te)(hl:PO X lo tl)(hu:PO X hi th):PE X (.Subscript e (.Slice lo hi none p2) pos) (tSl r te tl th):=by
 intro pins s σ H Q I h;refine Subscript_ (thn (he pins s σ H _ I h) fun v s1 ⟨x,H1,I1,r1,q1⟩=>?_);refine wpAny_Slice (thn (hl pins s1 σ H1 _ I1 q1) fun vl s2 ⟨l,H2,I2,pl,q2⟩=>thn (hu pins s2 σ H2 _ I2 q2) fun vu s3 ⟨u,H3,I3,pu,q3⟩=>?_);rw [evalPart_none];refine adJ ?_;have I4:Inv X pins σ H3 { s3 with heap:=s3.heap.push { cls:=.type "slice",data:=.fields #[vl,vu,.none] } }:=I3.kept (t':=s3.toks) fun b ob q=>adH _ q;obtain⟨T,id,hT,ht,hg⟩:=hr pins { s3 with heap:=s3.heap.push { cls:=.type "slice",data:=.fields #[vl,vu,.none] } } σ H3 x v vl vu l u s3.heap.objs.size Q I4 r1 (Heap.IsSliceOf.new ..) pl pu q3;show wpAny (model X.prog X.w) X.A (subscriptTail e (.Slice lo hi none p2) v (.ref s3.heap.objs.size)) (EP X pins σ Q) X.xe { s3 with heap:=s3.heap.push { cls:=.type "slice",data:=.fields #[vl,vu,.none] } };exact tail_any (ops:=[.ref s3.heap.objs.size,v]) ht hT hg (by with_unfolding_all rfl)
def fj (xs:List V)(lo hi:Option Int):List V:=(xs.drop (HT.sIx xs.length 0 lo)).take (HT.sIx xs.length xs.length hi - HT.sIx xs.length 0 lo)
theorem lB (xs:List V)(lo hi:Option Int):(fj xs lo hi).length<=xs.length:=by
 unfold fj;rw [aeb,agc];lia
end
def ixN (n:Nat)(i:Int):Option Nat:=if 0<=i then (if i < n then some i.toNat else none) else if -(n:Int)<=i then some (i+n).toNat else none
def atI {α:Type}(xs:List α)(i:Int):Option α:=(ixN xs.length i).bind fun j=>xs[j]?
theorem xu {n:Nat}{i:Int}{j:Nat}(h:ixN n i=some j):seqIndex? i n=some j/\j < n/\-(n:Int)<=i/\i < n:=by
 unfold ixN at h;by_cases h0:0<=i
 ·rw [if_pos h0] at h;by_cases h1:i < n
  ·rw [if_pos h1] at h;have e:i.toNat=j:=aev h;exact⟨by rw [seqIndex_of h0 h1,e],by lia,by lia,h1⟩
  ·rw [if_neg h1] at h;cases h
 ·rw [if_neg h0] at h;by_cases h1:-(n:Int)<=i
  ·rw [if_pos h1] at h;have e:(i+n).toNat=j:=aev h;exact⟨by rw [seqIndex_neg (by lia) h1,e],by lia,h1,by lia⟩
  ·rw [if_neg h1] at h;cases h
theorem q0 {α:Type}{xs:List α}{i:Int}{v:α}(h:atI xs i=some v):∃ j,seqIndex? i xs.length=some j/\xs[j]? = some v/\j < xs.length/\-(xs.length:Int)<=i/\i < xs.length:=by
 unfold atI at h;cases e:ixN xs.length i with
 | none=>rw [e] at h;cases h
 | some j =>
  rw [e] at h;obtain⟨h1,h2,h3,h4⟩:=xu e;exact⟨j,h1,h,h2,h3,h4⟩
theorem cC {α:Type}{xs:List α}{j:Nat}{v:α}(h:xs[j]? = some v):atI xs (j:Int)=some v:=by
 have hj:j < xs.length:=(adF.mp h).1;have e:ixN xs.length (j:Int)=some j:=by
  unfold ixN;rw [if_pos (by lia),if_pos (by lia)];simp
 unfold atI;rw [e];exact h
def aaS (b:Expr):Prop:=∀ o i,subscripted b false o i=operate [o,i] (getItem o i)
def IxR (X:Cx)(r:R2):Prop :=
 ∀ (value slice:Expr) (pins:List (Addr×Obj)) (s:Shared) (σ:St) (H:Hp) (x y:V) (v u:Value) (Q:VK),Inv X pins σ H s->RelV x v->RelV y u->r x y H Q →
  subscripted slice false v u=operate [v,u] (getItem v u)->wpAny (model X.prog X.w) X.A (subscriptTail value slice v u) (EP X pins σ Q) X.xe s
def MtR (X:Cx)(id:String)(r:V->List V->Hp->VK->Prop):Prop :=
 ∀ (pins:List (Addr×Obj)) (s:Shared) (σ:St) (H:Hp) (x:V) (xs:List V) (v:Value) (us:List Value) (Q:VK),Inv X pins σ H s->RelV x v->Vals xs us->r x xs H Q →
  wpAny (model X.prog X.w) X.A (call (.builtin id) (v::us)) (EP X pins σ Q) X.xe s
section
variable {X:Cx}{a b:Expr}{ta tb:TE}{pos:Pos}
theorem bW {r:R2}(hr:IxR X r)(ha:PE X a ta)(hb:PE X b tb)(hs:aaS b):PE X (.Subscript a b pos) (tOp r ta tb):=by
 intro pins s σ H Q I h;exact Subscript_ (acZ ha hb I h fun v u s2 x y H2 I2 rx ry q=>hr a b pins s2 σ H2 x y v u Q I2 rx ry q (hs _ _))
def ada (K:PySem.W.Frag):R2:=fun x y H Q=>∃ p xs i v,x=.ref p/\y=.int i/\SqL K H p xs/\atI xs i=some v/\Q v H
def ac0 (K:PySem.W.Frag):R2:=fun x y H Q=>∃ p xs i v,x=.ref p/\y=.int i/\SqT K H p xs/\atI xs i=some v/\Q v H
def adC:R2:=fun x y H Q=>∃ z i c,x=.str z/\y=.int i/\z.length<=sizeLine/\atI z.cps.toList i=some c/\Q (.str ⟨#[c]⟩) H
theorem bR:IxR X (ada X.K):=by
 intro value slice pins s σ H x y v u Q I rx ry h hs;obtain⟨p,xs,i,z,rfl,rfl,hq,he,q⟩:=h;cases rx;obtain⟨t,rfl⟩:=ry;obtain⟨its,r,pl,hz⟩:=I.list hq;obtain⟨j,h1,h2,h3,h4,h5⟩:=q0 he;obtain⟨w,ew,rw'⟩:=r.get h2;have hl:=r.length;have hn:=kD;have fin:EP X pins σ Q w s:=⟨z,H,I,rw',q⟩;by_cases h0:0<=i
 ·have hj:i.toNat=j:=by
   rw [seqIndex_of h0 h5] at h1;exact aev h1
  exact item_listR pl.isList h0 (by lia) (by rw [hj];simpa using ew) fin hs
 ·have hj:(i+(its.toArray.size:Int)).toNat=j:=by
   rw [seqIndex_neg (by lia) h4] at h1;rw [ad3,← hl];exact aev h1
  exact subscriptTail_builtinR (x:=w) pl.isList.typeIs agG.lookup
   (wpAny_getItem_list_neg (Q:=fun r s'=>r=w/\EP X pins σ Q r s') pl.isList (by lia) (by rw [ad3]<;>lia) (by lia) (by rw [hj];simpa using ew) ⟨rfl,fin⟩) hs
theorem eY:IxR X (ac0 X.K):=by
 intro value slice pins s σ H x y v u Q I rx ry h hs;obtain⟨p,xs,i,z,rfl,rfl,hq,he,q⟩:=h;cases rx;obtain⟨t,rfl⟩:=ry;obtain⟨its,r,pl,hz⟩:=I.tuple hq;obtain⟨j,h1,h2,h3,h4,h5⟩:=q0 he;obtain⟨w,ew,rw'⟩:=r.get h2;have hl:=r.length;have hn:=kD;have fin:EP X pins σ Q w s:=⟨z,H,I,rw',q⟩;exact subscriptTail_builtinR (x:=w) pl.typeIs slot_tuple_getitem.lookup
  (getItem_tuple (j:=j) (Q:=fun r s'=>r=w/\EP X pins σ Q r s') pl (by lia) (by lia) (by rw [ad3,← hl];exact h1) (by simpa using ew) ⟨rfl,fin⟩) hs
theorem abe:IxR X adC:=by
 intro value slice pins s σ H x y v u Q I rx ry h hs;obtain⟨z,i,c,rfl,rfl,hz,he,q⟩:=h;obtain⟨t,rfl⟩:=rx;obtain⟨t',rfl⟩:=ry;obtain⟨j,h1,h2,h3,h4,h5⟩:=q0 he;have hl:z.cps.toList.length=z.length:=by simp [Str.length]
 rw [hl] at h1 h4 h5;have hn:=kD;exact tail_any (typeIs_str s z t) slot_str_getitem.lookup (getItem_str (c:=c) (by
  have e1:decide (i < -(2 ^ 63:Int))=false:=ad4 (by lia);have e2:decide (i ≥ 2 ^ 63)=false:=ad4 (by lia);rw [e1,e2,Bool.or_false]) (by rw [h1];simpa using h2) ⟨.str ⟨#[c]⟩,H,I.tok _,⟨_,rfl⟩,q⟩) hs
theorem uK (its:List Value)(n j:Nat)(u:Value):Obj.mapSeq (·.setIfInBounds j u) { cls:=.type "list",data:=.seq its.toArray n }={ cls:=.type "list",data:=.seq (its.set j u).toArray n }:=by
 simp [Obj.mapSeq]
theorem Inv.lst {pins:List (Addr×Obj)}{σ:St}{H:Hp}{s:Shared}{p:Addr}{xs:List V}(I:Inv X pins σ H s)(h:H p=some (.lst xs)) :
 ∃ (its:List Value) (n:Nat),Vals xs its/\s.heap.get? p=some { cls:=.type "list",data:=.seq its.toArray n }/\xs.length<=sizeLine:=by
 obtain⟨z,its,n,r,e⟩:=I.hok p _ h;exact⟨its,n,r,e,z⟩
theorem Inv.lstUpd {pins:List (Addr×Obj)}{σ:St}{H:Hp}{s:Shared}{p:Addr}{xs ys:List V}{its its':List Value}{n n':Nat}{f:Obj->Obj}(I:Inv X pins σ H s)(h:H p=some (.lst xs))
 (ho:s.heap.get? p=some { cls:=.type "list",data:=.seq its.toArray n })(hf:f { cls:=.type "list",data:=.seq its.toArray n }={ cls:=.type "list",data:=.seq its'.toArray n' })(r:Vals ys its')(hz:ys.length<=sizeLine)(t:Nat) :
 Inv X pins σ (upd H p (.lst ys)) { s with heap:=s.heap.update p f,toks:=t }:=by
 have e:(s.heap.update p f).get? p=some { cls:=.type "list",data:=.seq its'.toArray n' }:=by
  rw [ae4 f ho (by rw [hf]<;>rfl),hf]
 refine I.write (x:=p) (e:=p) (by rw [h];trivial) (.inl rfl) (fun b u hb q=>(aeX _ _ (aeL hb)).trans q) ⟨_,e⟩ ?_;exact⟨hz,its',n',r,e⟩
def acE:V->V->V->Hp->(Hp->Prop)->Prop:=fun o i v H Q=>∃ p xs k j,o=.ref p/\i=.int k/\H p=some (.lst xs)/\ixN xs.length k=some j/\Q (upd H p (.lst (xs.set j v)))
theorem ju:acG X acE:=by
 intro pins s σ H o i v ov iv u Q I ro ri rv h;obtain⟨p,xs,k,j,rfl,rfl,hp,hj,q⟩:=h;cases ro;obtain⟨t,rfl⟩:=ri;obtain⟨its,n,r,ho,hz⟩:=I.lst hp;obtain⟨h1,h2,h3,h4⟩:=xu hj;have hl:=r.length;have hn:=kD;have I':Inv X pins σ (upd H p (.lst (xs.set j v))) { s with heap:=s.heap.update p (Obj.mapSeq (·.setIfInBounds j u)) } :=
  I.lstUpd hp ho (uK its n j u) (r.set rv j) (by rw [ahb];exact hz) s.toks
 by_cases h0:0<=k
 ·have hk:k.toNat=j:=by
   rw [seqIndex_of h0 h4] at h1;exact aev h1
  exact PySem.W.ki_setAt ho h0 (by lia) (by rw [ad3,← hl];exact h4) (by rw [hk];exact⟨_,I',q⟩)
 ·have hk:(k+(its.toArray.size:Int)).toNat=j:=by
   rw [seqIndex_neg (by lia) h3] at h1;rw [ad3,← hl];exact aev h1
  exact PySem.W.ki_setBack ho (by lia) (by rw [ad3,← hl];exact h3) (by lia) (by rw [hk];exact⟨_,I',q⟩)
theorem qa (lo hi:Option Int)(n:Nat):(sliceBounds lo hi none n).1=((HT.sIx n 0 lo:Nat):Int)/\(sliceBounds lo hi none n).2.1=((HT.sIx n n hi:Nat):Int)/\(sliceBounds lo hi none n).2.2=1:=by
 refine⟨?_,?_,rfl⟩
 ·cases lo with
  | none=>simp [sliceBounds,HT.sIx]
  | some i =>
   simp only [sliceBounds,HT.sIx,Option.getD_none,show (1:Int) > 0 by decide,agO];by_cases h:i < 0
   ·simp only [h,agO]<;>lia
   ·simp only [h,agi]<;>lia
 ·cases hi with
  | none=>simp [sliceBounds,HT.sIx]
  | some i =>
   simp only [sliceBounds,HT.sIx,Option.getD_none,show (1:Int) > 0 by decide,agO];by_cases h:i < 0
   ·simp only [h,agO]<;>lia
   ·simp only [h,agi]<;>lia
theorem pe (its:List Value)(lo hi:Option Int):slicePick its.toArray lo hi none=((its.drop (HT.sIx its.length 0 lo)).take (HT.sIx its.length its.length hi - HT.sIx its.length 0 lo)).toArray:=by
 obtain⟨h1,h2,h3⟩:=qa lo hi its.toArray.size;unfold slicePick;rw [h1,h2,h3];simp only [sliceRange_one,pick_run,ad3]<;>rfl
def ade (K:PySem.W.Frag):V->Option Int->Option Int->Hp->VK->Prop:=fun x lo hi H Q=>∃ a xs,x=.ref a/\SqL K H a xs/\∀ p,H p=none->Q (.ref p) (upd H p (.lst (fj xs lo hi)))
theorem fQ:SlR X (ade X.K):=by
 intro pins s σ H x v vl vu lo hi sl Q I rx hs pl pu h;obtain⟨a,xs,rfl,hx,q⟩:=h;cases rx;obtain⟨its,r,ht,hz⟩:=I.list hx;have hlen:=r.length;refine⟨"list",_,agG.lookup,ht.isList.typeIs,?_⟩;refine wpAny_getItem_list_slice ht.isList hs pl pu .none (by simp) ?_ (by rw [ad3]<;>lia);rw [pe,← hlen];refine⟨.ref s.heap.objs.size,_,I.laid (t':=s.toks) (o:=.lst (fj xs lo hi)) (fun b ob q=>adH _ q) (adL _) ?_,rfl,q _ (I.hok.fresh (adL _))⟩;exact⟨adZ (lB xs lo hi) hz,_,0,(r.drop (HT.sIx xs.length 0 lo)).take (HT.sIx xs.length xs.length hi - HT.sIx xs.length 0 lo),adX _ rfl⟩
def oR:V->Bool
 | .non=>true
 | .bl _=>true
 | .int _=>true
 | .str _=>true
 | _=>false
def eqV:V->V->Bool
 | .non,.non=>true
 | .bl a,.bl b=>a == b
 | .bl a,.int b=>(if a then 1 else 0) == b
 | .int a,.bl b=>a == (if b then 1 else 0)
 | .int a,.int b=>a == b
 | .str a,.str b=>a == b
 | _,_=>false
theorem acb {A:Around}{s:Shared}{y x:V}{u v:Value}(ry:RelV y u)(rx:RelV x v)(fy:oR y=true)(fx:oR x=true):SeqAt.EqAt A s u v (eqV y x):=by
 cases y with
 | non =>
  cases ry;cases x with
  | non=>cases rx;exact SeqAt.EqAt.same _
  | bl b=>cases rx;exact SeqAt.EqAt.none_bool b
  | int b=>obtain⟨t,rfl⟩:=rx;exact SeqAt.EqAt.none_int b t
  | str b=>obtain⟨t,rfl⟩:=rx;exact SeqAt.EqAt.none_str b t
  | _=>exact absurd (show false=true from fx) adM
 | bl a =>
  cases ry;cases x with
  | non=>cases rx;exact SeqAt.EqAt.bool_none a
  | bl b=>cases rx;exact SeqAt.EqAt.bool_bool a b
  | int b=>obtain⟨t,rfl⟩:=rx;exact SeqAt.EqAt.bool_int a b t
  | str b=>obtain⟨t,rfl⟩:=rx;exact SeqAt.EqAt.bool_str a b t
  | _=>exact absurd (show false=true from fx) adM
 | int a =>
  obtain⟨t',rfl⟩:=ry;cases x with
  | non=>cases rx;exact SeqAt.EqAt.int_none a t'
  | bl b=>cases rx;exact SeqAt.EqAt.int_bool a t' b
  | int b=>obtain⟨t,rfl⟩:=rx;exact SeqAt.EqAt.int_int a t' b t
  | str b=>obtain⟨t,rfl⟩:=rx;exact SeqAt.EqAt.int_str a t' b t
  | _=>exact absurd (show false=true from fx) adM
 | str a =>
  obtain⟨t',rfl⟩:=ry;cases x with
  | non=>cases rx;exact SeqAt.EqAt.str_none a t'
  | bl b=>cases rx;exact SeqAt.EqAt.str_bool a t' b
  | int b=>obtain⟨t,rfl⟩:=rx;exact SeqAt.EqAt.str_int a t' b t
  | str b=>obtain⟨t,rfl⟩:=rx;exact SeqAt.EqAt.str_str a t' b t
  | _=>exact absurd (show false=true from fx) adM
 | _=>exact absurd (show false=true from fy) adM
def eqU (x:V)(u:Value):Bool:=match u with
 | .none=>eqV .non x
 | .bool b=>eqV (.bl b) x
 | .int i _=>eqV (.int i) x
 | .str z _=>eqV (.str z) x
 | _=>false
theorem zQ {x y:V}{u:Value}(r:RelV y u)(f:oR y=true):eqU x u=eqV y x:=by
 cases y with
 | non=>cases r;rfl
 | bl b=>cases r;rfl
 | int i=>obtain⟨t,rfl⟩:=r;rfl
 | str z=>obtain⟨t,rfl⟩:=r;rfl
 | _=>exact absurd (show false=true from f) adM
theorem mf {x:V}:∀ {xs:List V} {us:List Value},Vals xs us->xs.all oR=true->us.any (eqU x)=xs.any fun y=>eqV y x
 | _,_,.nil,_=>rfl
 | y::xs,u::us,.cons r t,f=>by
  rw [agP,aei] at f;rw [afS,afS,zQ r f.1,mf t f.2]
theorem js {A:Around}{s:Shared}{x:V}{v:Value}(rx:RelV x v)(fx:oR x=true):∀ {xs:List V} {us:List Value},Vals xs us->xs.all oR=true->∀ u∈us,SeqAt.EqAt A s u v (eqU x u)
 | _,_,.nil,_=>fun u hu=>by cases hu
 | y::xs,u::us,.cons r t,f=>fun u' hu=>by
  rw [agP,aei] at f;rcases adO.mp hu with rfl | hu
  ·rw [zQ r f.1];exact acb r rx f.1 fx
  ·exact js rx fx t f.2 u' hu
def inV (x:V)(xs:List V):Bool:=xs.any fun y=>eqV y x
def rIn (K:PySem.W.Frag)(neg:Bool):R2:=fun x y H Q=>∃ p xs,y=.ref p/\(SqL K H p xs\/SqT K H p xs)/\oR x=true/\xs.all oR=true/\Q (.bl (if neg then !inV x xs else inV x xs)) H
theorem wZ:OpR X (compareOp .In) (rIn X.K false):=by
 intro pins s σ H x y v u Q I rx ry h;obtain⟨p,xs,rfl,hq,fx,fs,q⟩:=h;cases ry;rcases hq with hq | hq
 ·obtain⟨its,r,pl,hz⟩:=I.list hq;refine SeqAt.in_listAt (eqU x) pl.isList (fun w hw=>js rx fx r fs w (by simpa using hw)) ⟨.bl _,H,I,rfl,?_⟩;rw [show its.toArray.any (eqU x)=its.any (eqU x) by simp,mf r fs];exact q
 ·obtain⟨its,r,pl,hz⟩:=I.tuple hq;refine SeqAt.in_tupleAt (eqU x) pl (fun w hw=>js rx fx r fs w (by simpa using hw)) ⟨.bl _,H,I,rfl,?_⟩;rw [show its.toArray.any (eqU x)=its.any (eqU x) by simp,mf r fs];exact q
theorem ie:OpR X (compareOp .NotIn) (rIn X.K true):=by
 intro pins s σ H x y v u Q I rx ry h;obtain⟨p,xs,rfl,hq,fx,fs,q⟩:=h;cases ry;rcases hq with hq | hq
 ·obtain⟨its,r,pl,hz⟩:=I.list hq;refine SeqAt.notIn_listAt (eqU x) pl.isList (fun w hw=>js rx fx r fs w (by simpa using hw)) ⟨.bl _,H,I,rfl,?_⟩;rw [show its.toArray.any (eqU x)=its.any (eqU x) by simp,mf r fs];exact q
 ·obtain⟨its,r,pl,hz⟩:=I.tuple hq;refine SeqAt.notIn_tupleAt (eqU x) pl (fun w hw=>js rx fx r fs w (by simpa using hw)) ⟨.bl _,H,I,rfl,?_⟩;rw [show its.toArray.any (eqU x)=its.any (eqU x) by simp,mf r fs];exact q
theorem aB:gX X (.builtin "len") (fun xs H Q=>∃ p ys,xs=[.ref p]/\(SqL X.K H p ys\/SqT X.K H p ys)/\Q (.int ys.length) H):=by
 intro pins s σ H xs us Q I r h;obtain⟨p,ys,rfl,hq,q⟩:=h;obtain⟨u,rfl,rx⟩:=ja r;cases rx;have hn:=kD;rcases hq with hq | hq
 ·obtain⟨its,r',pl,hz⟩:=I.list hq;have hlen:=r'.length;exact Calls.call_len_list pl.isList (by simp only [ad3]<;>lia) ⟨.int ys.length,H,I.tok _,⟨s.toks+1,by rw [ad3,hlen]⟩,q⟩
 ·obtain⟨its,r',pl,hz⟩:=I.tuple hq;have hlen:=r'.length;exact len_tuple pl (by simp only [ad3]<;>lia) ⟨.int ys.length,H,I.tok _,⟨s.toks+1,by rw [ad3,hlen]⟩,q⟩
theorem qw:gX X (.builtin "len") (fun xs H Q=>∃ z,xs=[.str z]/\z.length<=sizeLine/\Q (.int z.length) H):=by
 intro pins s σ H xs us Q I r h;obtain⟨z,rfl,hz,q⟩:=h;obtain⟨u,rfl,t,rfl⟩:=ja r;have hn:=kD;exact len_str (by lia) ⟨.int z.length,H,I.tok _,⟨_,rfl⟩,q⟩
theorem fv:gX X (.type "list") (fun xs H Q=>∃ p ys,xs=[.ref p]/\(SqL X.K H p ys\/SqT X.K H p ys)/\∀ l,H l=none->Q (.ref l) (upd H l (.lst ys))):=by
 intro pins s σ H xs us Q I r h;obtain⟨p,ys,rfl,hq,q⟩:=h;obtain⟨u,rfl,rx⟩:=ja r;cases rx;have fin:∀ (its:List Value),Vals ys its->ys.length<=sizeLine->∀ (h':Heap) (c':Nat),(∀ b o',s.heap.get? b=some o'->h'.get? b=some o') →
  h'.get? s.heap.objs.size=some { cls:=.type "list",dict:=none,data:=.seq its.toArray c',slots:=#[] }->EP X pins σ Q (.ref s.heap.objs.size) { s with heap:=h' }:=fun its r' hz h' c' kp e =>
  ⟨.ref s.heap.objs.size,_,I.laid (t':=s.toks) kp (adL _) (show ObjOk X.prog X.w _ h' _ (.lst ys) from ⟨hz,its,c',r',e⟩),rfl,q _ (I.hok.fresh (adL _))⟩
 rcases hq with hq | hq
 ·obtain⟨its,r',pl,hz⟩:=I.list hq;have hlen:=r'.length;obtain⟨o,ho,hc,n,hd⟩:=pl.isList;exact call_list_seq p (.inl rfl) ho hc hd (fun h' c' kp e=>fin its r' hz h' c' kp e) (by simp only [ad3]<;>lia)
 ·obtain⟨its,r',pl,hz⟩:=I.tuple hq;have hlen:=r'.length;obtain⟨o,ho,hc,n,hd⟩:=pl;exact call_list_seq p (.inr rfl) ho hc hd (fun h' c' kp e=>fin its r' hz h' c' kp e) (by simp only [ad3]<;>lia)
theorem oC:gX X (.type "tuple") (fun xs H Q=>∃ p ys,xs=[.ref p]/\((SqL X.K H p ys/\∀ l,H l=none->Q (.ref l) (upd H l (.tup ys)))\/(SqT X.K H p ys/\Q (.ref p) H))):=by
 intro pins s σ H xs us Q I r h;obtain⟨p,ys,rfl,h⟩:=h;obtain⟨u,rfl,rx⟩:=ja r;cases rx;rcases h with ⟨hq,q⟩ | ⟨hq,q⟩
 ·obtain⟨its,r',pl,hz⟩:=I.list hq;have hlen:=r'.length;refine call_tuple_list pl.isList (fun h' kp=>?_) (by simp only [ad3]<;>lia);have I1:Inv X pins σ H { s with heap:=h' }:=I.kept (t':=s.toks) kp;have I2:Inv X pins σ (upd H h'.objs.size (.tup ys)) { s with heap:=h'.push { cls:=.type "tuple",data:=.seq its.toArray } } :=
   I1.laid (t':=s.toks) (fun b o e=>adH _ e) (adL _) (show ObjOk X.prog X.w _ _ _ (.tup ys) from ⟨hz,its,r',IsTup.new _ _⟩)
  exact⟨.ref h'.objs.size,_,I2,rfl,q _ (I1.hok.fresh (adL _))⟩
 ·obtain⟨its,r',pl,hz⟩:=I.tuple hq;exact call_tuple_same pl ⟨.ref p,H,I,rfl,q⟩
def tyV (K:PySem.W.Frag)(T:String)(x:V)(H:Hp):Prop:=match x with
 | .str _=>T = "str"
 | .int _=>T = "int"
 | .ref p=>(T = "list" ∧ ∃ xs,SqL K H p xs)\/(T = "tuple" ∧ ∃ o,K.lookup p=some o/\o.cls=.type "tuple" ∧ o.dict=none) ∨
  (T = "dict" ∧ ((∃ kvs,H p=some (.dK kvs))\/∃ kvs,H p=some (.dT kvs)))\/(T = "set" ∧ ∃ S n,H p=some (.set S n))
 | _=>False
theorem yd {pins:List (Addr×Obj)}{σ:St}{H:Hp}{s:Shared}{T:String}{x:V}{v:Value}(I:Inv X pins σ H s)(r:RelV x v)(ty:tyV X.K T x H) :
 s.TypeIs v T/\∀ a,v=.ref a->∃ ob,s.heap.get? a=some ob/\ob.dict=none:=by
 cases x with
 | str z =>
  obtain⟨t,rfl⟩:=r;cases (show T = "str" from ty);exact⟨typeIs_str s z t,fun _ e=>nomatch e⟩
 | int i =>
  obtain⟨t,rfl⟩:=r;cases (show T = "int" from ty);exact⟨typeIs_int s i t,fun _ e=>nomatch e⟩
 | ref p =>
  cases r;rcases ty with ⟨rfl,xs,hq⟩ | ⟨rfl,o,hk,hc,hd⟩ | ⟨rfl,hk⟩ | ⟨rfl,S,n,hk⟩
  ·obtain⟨its,_,pl,_⟩:=I.list hq;refine⟨pl.isList.typeIs,fun a e=>?_⟩;cases e;obtain⟨o,n,e,c,hd,_⟩:=pl;exact⟨o,e,hd⟩
  ·refine⟨⟨o,I.kIn p o hk,hc⟩,fun a e=>?_⟩;cases e;exact⟨o,I.kIn _ o hk,hd⟩
  ·have z:∃ o,s.heap.get? p=some o/\o.ExactDict:=by
    rcases hk with ⟨kvs,hk⟩ | ⟨kvs,hk⟩
    ·obtain⟨_,_,_,_,o,_,_,e,ex,_⟩:=I.hok p _ hk;exact⟨o,e,ex⟩
    ·obtain⟨_,_,_,_,o,_,_,e,ex,_⟩:=I.hok p _ hk;exact⟨o,e,ex⟩
   obtain⟨o,e,ex⟩:=z;refine⟨⟨o,e,ex.1⟩,fun a e2=>?_⟩;cases e2;exact⟨o,e,ex.2.1⟩
  ·obtain⟨o,_,_,_,e,ex,_⟩:=I.hok p _ hk;refine⟨⟨o,e,ex.1⟩,fun a e2=>?_⟩;cases e2;exact⟨o,e,ex.2.1⟩
 | _=>exact False.elim ty
def ado (K:PySem.W.Frag)(T:String)(r:V->List V->Hp->VK->Prop)(to:TE):TE:=fun σ H Q=>to σ H fun x H1=>tyV K T x H1/\r x [] H1 Q
def tBM (K:PySem.W.Frag)(T:String)(r:V->List V->Hp->VK->Prop)(to:TE)(t:TA):TE:=fun σ H Q=>to σ H fun x H1=>tyV K T x H1/\t σ H1 fun xs H2=>r x xs H2 Q
variable {o e:Expr}{es:List Expr}{to:TE}{t:TA}{name:Str}{apos cpos:Pos}{T id:String}{r:V->List V->Hp->VK->Prop}
theorem ab4 (pa:PlainAttrs T)(slot:Slot T name id)(hty:typeOf (.builtin id)=pure (.type "method_descriptor"))(hm:MtR X id r)(ho:PE X o to)
 (hbase:attributeBase o name X.env (eval o X.env)=eval o X.env:=by rfl)(hline:(apos.endLine == cpos.line)=true:=by rfl):PE X (.Call (.Attribute o name apos) [] [] cpos) (ado X.K T r to):=by
 intro pins s σ H Q I h;refine wpAny_Call_method0_late hbase hline (thn (ho pins s σ H _ I h) fun v s1 ⟨x,H1,I1,r1,ty,q1⟩=>?_);obtain⟨h1,h2⟩:=yd I1 r1 ty;exact⟨T,id,pa,slot,hty,h1,h2,afW rfl (PySem.evalArgs_none (hm pins s1 σ H1 x [] v [] Q I1 r1 .nil q1))⟩
theorem pq (pa:PlainAttrs T)(slot:Slot T name id)(hty:typeOf (.builtin id)=pure (.type "method_descriptor"))(hm:MtR X id r)(ho:PE X o to)(ha:PA X (e::es) t)
 (hbase:attributeBase o name X.env (eval o X.env)=eval o X.env:=by rfl)
 (hfew:((backTo cpos (starEach (e::es) X.env)).all (fun x=>!x.1) && (backToKw cpos (keywordEach [] X.env)).all (fun x=>x.1.isSome)
  && decide ((e::es).length+([]:List Keyword).length+(if ([]:List Keyword).isEmpty then 0 else 1) < 30))=true:=by rfl)
 (hline:(apos.endLine == cpos.line)=true:=by rfl)(hs:starEach (e::es) X.env=(false,eval e X.env)::starEach es X.env:=by rfl)(hplain:(backTo cpos (starEach es X.env)).any (·.1)=false:=by rfl) :
 PE X (.Call (.Attribute o name apos) (e::es) [] cpos) (tBM X.K T r to t):=by
 intro pins s σ H Q I h;refine wpAny_Call_method_late hbase hfew hline rfl (thn (ho pins s σ H _ I h) fun v s1 ⟨x,H1,I1,r1,ty,q1⟩=>?_);obtain⟨h1,h2⟩:=yd I1 r1 ty;refine⟨T,id,pa,slot,hty,h1,h2,?_⟩;have hA:=ha cpos pins s1 σ H1 _ I1 q1;rw [hs] at hA ⊢;refine afW (by show (false || (backTo cpos (starEach es X.env)).any (·.1))=false;rw [hplain]<;>rfl) (Calls.evalArgs_plain ?_);exact thn hA fun us s2 ⟨vs,H2,I2,r2,q2⟩=>hm pins s2 σ H2 x vs v us Q I2 r1 r2 q2
end
def MtM (X:Cx)(id:String)(r:V->List V->Hp->VK->Prop):Prop :=
 ∀ (pins:List (Addr×Obj)) (s:Shared) (σ:St) (H:Hp) (x:V) (xs:List V) (v:Value) (us:List Value) (Q:VK),Inv X pins σ H s->RelV x v->Vals xs us->r x xs H Q →
  wpAny (model X.prog X.w) X.A (call (.builtin id) (v::us)) (EP X pins σ Q) X.xe s
theorem Vals.one:∀ {x:V} {us:List Value},Vals [x] us->∃ u,us=[u]/\RelV x u
 | _,_,.cons r .nil=>⟨_,rfl,r⟩
theorem Vals.zero:∀ {us:List Value},Vals [] us->us=[]
 | _,.nil=>rfl
theorem Vals.dropLast {xs:List V}{us:List Value}(h:Vals xs us):Vals xs.dropLast us.dropLast:=by
 induction h with
 | nil=>exact .nil
 | cons r t ih =>
  cases t with
  | nil=>exact .nil
  | cons q t'=>exact .cons r ih
theorem Vals.eraseIdx:∀ {xs:List V} {us:List Value} (i:Nat),Vals xs us->Vals (xs.eraseIdx i) (us.eraseIdx i)
 | _,_,_,.nil=>.nil
 | _,_,0,.cons _ t=>t
 | _,_,i+1,.cons r t=>.cons r (Vals.eraseIdx i t)
theorem uL {α:Type}(l:List α):l.eraseIdx (l.length - 1)=l.dropLast:=by
 induction l with
 | nil=>rfl
 | cons a r ih =>
  cases r with
  | nil=>rfl
  | cons b r =>
   have e:(a::b::r).length - 1=((b::r).length - 1)+1:=by
    have h1:(a::b::r).length=r.length+2:=rfl;have h2:(b::r).length=r.length+1:=rfl;lia
   rw [e,agR,ih]
   all_goals rfl
theorem pO {α:Type}:∀ (l:List α) (i:Nat),(l.eraseIdx i).length<=l.length
 | [],_=>adL _
 | _::_,0=>ae7 _
 | _::r,i+1=>agX (pO r i)
section
variable {X:Cx}{pins:List (Addr×Obj)}{σ:St}{H:Hp}{s:Shared}{l b:Addr}{xs ys zs:List V}
theorem Inv.lset {its its':List Value}{n:Nat}{f:Array Value->Array Value}{t':Nat}(I:Inv X pins σ H s)(hH:H l=some (.lst xs))
 (e:s.heap.get? l=some { cls:=.type "list",data:=.seq its.toArray n })(hf:f its.toArray=its'.toArray)(hv:Vals ys its')(hz:ys.length<=sizeLine) :
 Inv X pins σ (upd H l (.lst ys)) { s with heap:=s.heap.update l (Obj.mapSeq f),toks:=t' }:=by
 have q:=PySem.IsL.update e f;rw [hf] at q;refine I.write (x:=l) (e:=l) (by rw [hH];exact trivial) (.inl rfl) (fun b' u hb hu=>(aeX s.heap (Obj.mapSeq f) (aeL hb)).trans hu) ⟨_,q⟩ ?_;exact⟨hz,its',_,hv,q⟩
theorem Inv.lnew {its:List Value}{t':Nat}(I:Inv X pins σ H s)(hv:Vals ys its)(hz:ys.length<=sizeLine) :
 Inv X pins σ (upd H s.heap.objs.size (.lst ys)) { s with heap:=s.heap.push { cls:=.type "list",data:=.seq its.toArray },toks:=t' } :=
 I.laid (fun _ _ q=>adH _ q) (adL _) ⟨hz,its,0,hv,adX _ rfl⟩
theorem Inv.fresh (I:Inv X pins σ H s):H s.heap.objs.size=none:=I.hok.fresh (adL _)
theorem Inv.lstM (I:Inv X pins σ H s)(hH:H l=some (.lst xs)):xs.length<=sizeLine/\∃ (its:List Value) (n:Nat),Vals xs its/\xs.length=its.length/\s.heap.get? l=some { cls:=.type "list",data:=.seq its.toArray n }:=by
 obtain⟨z,its,n,r,e⟩:=I.hok l _ hH;exact⟨z,its,n,r,r.length,e⟩
theorem acm {n:Nat}(h:n<=sizeLine):Builtin.List.listTooLong n=false:=by
 unfold Builtin.List.listTooLong;exact ad4 (by lia)
end
section
variable {X:Cx}
def aay:V->List V->Hp->VK->Prop:=fun x vs H Q=>∃ l xs y,x=.ref l/\vs=[y]/\H l=some (.lst xs)/\xs.length < sizeLine/\Q .non (upd H l (.lst (xs++[y])))
theorem dm:MtM X "list.append" aay:=by
 intro pins s σ H x vs v us Q I rx rv h;obtain⟨l,xs,y,rfl,rfl,hH,hz,q⟩:=h;cases rx;obtain⟨u,rfl,ru⟩:=rv.one;obtain⟨z,its,n,r,hl,e⟩:=I.lstM hH;refine call_meets F.slot_list_append ⟨_,e,rfl⟩ F.entry_list_append (F.args_list_append_2 _ _) (PySem.list_append l its.toArray n u (by rw [ad3];lia)) ⟨e,?_⟩;refine⟨.non,_,I.lset (its':=its++[u]) hH e (by simp) (r.append (.cons ru .nil)) ?_,rfl,q⟩;rw [adI,ad8];lia
def adf:V->List V->Hp->VK->Prop:=fun x vs H Q=>∃ l xs y,x=.ref l/\vs=[]/\H l=some (.lst xs)/\xs[xs.length - 1]? = some y/\Q y (upd H l (.lst xs.dropLast))
theorem acd:MtM X "list.pop" adf:=by
 intro pins s σ H x vs v us Q I rx rv h;obtain⟨l,xs,y,rfl,rfl,hH,hy,q⟩:=h;cases rx;have hus:=rv.zero;subst hus;obtain⟨z,its,n,r,hl,e⟩:=I.lstM hH;obtain⟨u,hu,ru⟩:=r.get hy;have hy':its.toArray[its.toArray.size - 1]? = some u:=by
  show its.toArray[its.length - 1]? = some u;rw [← afj,← hl];exact hu
 refine call_meets F.slot_list_pop ⟨_,e,rfl⟩ F.entry_list_pop (F.args_list_pop_1 _) (MeetsSeq.list_pop_last l its.toArray n u hy' (by rw [ad3];lia)) ⟨e,?_⟩;refine⟨y,_,I.lset (its':=its.dropLast) hH e ?_ r.dropLast ?_,ru,q⟩
 ·show its.toArray.eraseIdxIfInBounds (its.toArray.size - 1)=its.dropLast.toArray;rw [ad3,afZ,uL]
 ·rw [List.length_dropLast];lia
def adb:R2:=fun x y H Q=>∃ l b xs zs,x=.ref l/\y=.ref b/\H l=some (.lst xs)/\H b=some (.lst zs)/\xs.length+zs.length<=sizeLine/\∀ p,H p=none->Q (.ref p) (upd H p (.lst (xs++zs)))
theorem eX:OpR X (binaryOp .Add) adb:=by
 intro pins s σ H x y v u Q I rx ry h;obtain⟨l,b,xs,zs,rfl,rfl,hH,hB,hz,q⟩:=h;cases rx;cases ry;obtain⟨z,its,n,r,hl,e⟩:=I.lstM hH;obtain⟨z2,its2,n2,r2,hl2,e2⟩:=I.lstM hB;refine PySem.P.add_list e e2 ?_ (by rw [ad3,ad3];lia);have ea:its.toArray++its2.toArray=(its++its2).toArray:=by simp
 rw [ea];exact⟨.ref _,_,I.lnew (t':=s.toks) (r.append r2) (by rw [adI];lia),rfl,q _ I.fresh⟩
end
section
variable {prog:Program}{w:World}{A:Around}{E:Value->Shared->Prop}{s:Shared}
end
section
variable {X:Cx}
end
end L2
namespace Att
open PySem PySem.W PySem.Calls PyProof.Rows
theorem lQ {P:Params}{h:Heap}:∀ (ns:List Int) (vs:List Value),WellAll P h vs (ns.map WData.int)->IntsAre vs ns:=by
 intro ns
 induction ns with
 | nil =>
  intro vs w;rw [ahc] at w;cases w;exact .nil
 | cons n ns ih =>
  intro vs w;rw [adS] at w;cases w with
  | cons a b =>
   cases a;exact .cons _ _ (ih _ b)
theorem xH {l:OpenLaw}{n:Nat}(hn:l.most=some n){P:Params}{h:Heap}{args:List WData}{vals:List Value}
 (hpre:l.row.toRowW.claim.pre args=true)(hwl:WellAll P h vals args) :
 ∃ a vs ns,vals=[Value.ref a]/\args=[WData.list (ns.map WData.int)]/\h.get? a=some { cls:=.type "list",data:=.seq vs.toArray }/\IntsAre vs ns/\ns.length<=n:=by
 have hsh:WShape.hasAll [] args [.list .int]=true:=(pre_splitW hpre).1;have hc:l.pre.holds [] { args:=args }=true:=(pre_splitW hpre).2;obtain⟨d,r,rfl,h1,h2⟩:=hasAllW_cons hsh;obtain rfl:=hasAllW_nil h2;obtain⟨xs,rfl,h3⟩:=hasW_list h1;obtain⟨ns,rfl⟩:=items_int h3;have hlen:ns.length<=n:=by
  unfold OpenLaw.pre at hc;have h4:(WTm.not (.lt (.lit (.int (n:Int))) (.len (.arg 0)))).holds [] { args:=[.list (ns.map .int)] }=true:=by
   have h4:=(holds_andW hc).1;rw [hn] at h4;exact h4
  have h5:=condW_of h4 (w_not (w_lt w_lit (w_len_list (w_arg rfl))));rw [adG] at h5;refine Nat.le_of_not_lt fun q=>?_;have q':(n:Int) < ((ns.length:Nat):Int):=by lia
  first
   | (rw [adY q'] at h5;exact absurd h5 (by decide))
   | (simp at h5;lia)
 cases hwl with
 | cons w1 w2 =>
  cases w2;cases w1 with
  | list ho hall=>exact⟨_,_,ns,rfl,rfl,ho,lQ ns _ hall,hlen⟩
theorem vp (l:OpenLaw)(args:List WData):l.row.toRowW.claim.post args (.bool true) args=true :=
 postW_of (r:=l.row.toRowW) (X:=(true == true))
  (show WShape.has [] (.bool true) .bool=true by first | rfl | decide | simp [WShape.has,WShape.arms,WShape.armsAll])
  (show (WTm.eq .res (.lit (.bool true))).value [] { args:=args,res:=some (.bool true),after:=args }=some (.bool (true == true)) from w_eq_bool (w_res rfl) w_lit) rfl
theorem attach_call {l:OpenLaw}{n:Nat}{q:Program}{loose:List Str}{XP:(Str->Option Value)->Heap->Prop}{YP:World->Heap->Prop}{d:DefRec}
 (hn:l.most=some n)(hdf:d.params.defaults=[])
 (call:∀ (w:World) (s₀ s₁:Shared) (mg mb:Str->Option Value) (fa:Addr) (o:Obj) (pm cd doc:Value) (a:Addr) (vs:List Value) (ns:List Int),
  Ground q loose [] XP w s₀ mg mb s₁.heap->YP w s₁.heap →
  s₁.heap.get? fa=some o->o.data=.func (docDef d.name d.params d.body d.scope pm cd doc)->s₁.heap.CodeRec cd d.name->mg d.name=some (.ref fa) →
  s₁.heap.get? a=some { cls:=.type "list",data:=.seq vs.toArray }->IntsAre vs ns->ns.length<=n->s₁.gens=#[] →
  codeAny (model l.prog w) callerA (.call (.ref fa) ⟨[.ref a],[]⟩) (fun r s'=>r=.ok (.ret (.bool true))/\OldK s₁.heap s'.heap/\s'.os=s₁.os/\AllBare s'.gens) s₁) :
 WalkO q loose XP YP l.row.toRowW d [] (fun f vs=>PySem.call f vs):=by
 intro w s₀ s₁ mg mb G Y fa o pm cd doc dV kV ho hd hcd hD hmg hg args vals as hpre hlay hrd hwl hlo;obtain rfl:dV=.none:=Dflts.none hD hdf;obtain rfl:kV=.none:=Dflts.noKw hD;obtain⟨a,vs,ns,rfl,rfl,hobj,hints,hlen⟩:=xH hn hpre hwl;refine enter_call (afC (call w s₀ s₁ mg mb fa o pm cd doc a vs ns G Y ho (fd_plain hd) hcd hmg hobj hints hlen hg) fun r s' hq=>?_);obtain⟨rfl,h2,h3,h4⟩:=hq;exact⟨.inl ⟨.bool true,.bool true,[],rfl,fun _=>rfl,.bool true,vp l _,fun _=>⟨List.Pairwise.nil,fun _ hm=>(nomatch hm)⟩⟩,h2,h3,h4⟩
section
variable {prog:Program}{w:World}{A:Around}{E:Value->Shared->Prop}{s:Shared}{K:Frag}
end
end Att
namespace L2
open PySem PySem.Spec PyProof.Rows
theorem qO:∀ {vs:List Value} {ns:List Int},IntsAre vs ns->Vals (ns.map V.int) vs
 | _,_,.nil=>.nil
 | _,_,.cons n t h=>.cons ⟨t,rfl⟩ (qO h)
def acB (H:Hp):Prop:=∀ b,H b=none\/∃ o xs,H b=some (.frz o (.lst xs))
theorem yX {P:Program}{w:World}{K:PySem.W.Frag}{mg mb:Str->Option Value}{CX:CXT}{k:Nat}{fa a:Addr}{fd:FuncData}{x:Str}{sp:Sp}{s₁:Shared}{vs:List Value}{ns:List Int}
 (KX:K.In s₁.heap)(hns:s₁.heap.Ns mainGlobals mg)(hb:s₁.heap.Ns builtinsNs mb)(hbb:∀ x:Str,x ≠ "__name__" → mb x=bootBuiltins x)(hlim:s₁.heap.NoLimit)(hg:s₁.gens=#[])
 (ha:s₁.heap.get? a=some { cls:=.type "list",data:=.seq vs.toArray })(hi:IntsAre vs ns)(hl:ns.length<=sizeLine)(hr:Room k callerA)
 (F:∀ base:Heap,K.In base->base.Ns mainGlobals mg->FnOk P w K mg base CX k fa fd [x] sp)(hbind:∀ (s:Shared) (u:Value),BindsTo s fd ⟨[u],[]⟩ [(x,u)])
 (hsp:∀ H:Hp,acB H->SqL K H a (ns.map V.int)->sp [.ref a] H (fun v _=>v=.bl true) fun _ _ _=>False)
 (hCX:∀ H e s',CX [] H s₁ (fun _ _ _=>False) e s'->False) :
 codeAny (model P w) callerA (.call (.ref fa) ⟨[.ref a],[]⟩) (fun r s'=>r=.ok (.ret (.bool true))/\OldK s₁.heap s'.heap/\s'.os=s₁.os/\AllBare s'.gens) s₁:=by
 have rv:=qO hi;have lenV:=hi.length;have core:∀ H:Hp,acB H->SqL K H a (ns.map V.int)->HOk P w H s₁.heap->(∀ b,H b≠none->b=a)->(H a≠none->K.lookup a=none) →
  codeAny (model P w) callerA (.call (.ref fa) ⟨[.ref a],[]⟩) (fun r s'=>r=.ok (.ret (.bool true))/\OldK s₁.heap s'.heap/\s'.os=s₁.os/\AllBare s'.gens) s₁:=by
  intro H hO hS hok hA hK;have base_of:∀ {b:Addr} {o:Obj},s₁.heap.get? b=some o->H b=none->(yG s₁.heap H).get? b=some o:=fun e n=>yB e n;have noA:∀ {b:Addr} {o:Obj} {es:Array DictEntry} {ep:Nat},s₁.heap.get? b=some o->o.data=.dict es ep->H b=none:=fun {b o es ep} e d=>by
   cases q:H b with
   | none=>rfl
   | some u =>
    have e':b=a:=hA b (by rw [q];simp);subst e';rw [ha] at e;cases e;have d':Data.seq vs.toArray _=Data.dict es ep:=d;cases d'
  have nsK:∀ {b:Addr} {m:Str->Option Value},s₁.heap.Ns b m->(yG s₁.heap H).Ns b m:=fun {b m} ⟨o,es,ep,e,d,r⟩=>⟨o,es,ep,base_of e (noA e d),d,r⟩;have hKb:K.In (yG s₁.heap H):=fun b o e=>base_of (KX b o e) (by
   cases q:H b with
   | none=>rfl
   | some u =>
    have e':b=a:=hA b (by rw [q];simp);subst e';rw [hK (by rw [q];simp)] at e;cases e)
  have hM:Mod K mg (yG s₁.heap H):=⟨hKb,nsK hns,⟨mb,nsK hb,hbb⟩,let ⟨mc,h1,h2⟩:=hlim;⟨mc,nsK h1,h2⟩⟩;have e0:Env0 P w K mg (yG s₁.heap H) callerA [] s₁ H:=⟨rfl,hM,fun b o e=>aag e,Nat.le_of_eq (xx _ _),trivial,fun b hb=>absurd (show b∈([]:List Addr) from hb) (by simp),hok,.of_eq hg⟩;refine afC ((F _ hKb (nsK hns)).run callerA [] s₁ H ⟨[.ref a],[]⟩ [.ref a] [.ref a] _ _ hr e0 (hbind s₁ (.ref a)) (.cons rfl .nil) (hsp H hO hS)) fun r s' h=>?_;cases r with
  | error e=>exact (hCX H e s' h).elim
  | ok fl =>
   cases fl with
   | next=>exact False.elim h
   | brk=>exact False.elim h
   | cont=>exact False.elim h
   | ret u =>
    obtain⟨v,H',os,bare,un,hok',r',q⟩:=h;have q':v=.bl true:=q;subst q';obtain rfl:u=Value.bool true:=r';refine⟨rfl,OldK.of_keep fun b o e=>?_,os,bare⟩;cases q:H b with
    | none=>exact un.keep b o e q (by intro z;exact absurd (show b∈([]:List Addr) from z) (by simp)) (by simp)
    | some u =>
     rcases hO b with z | ⟨ob,xs,z⟩
     ·rw [q] at z;cases z
     ·have z2:=un.frzs b ob _ z;obtain⟨e1,_⟩:=hok b _ z;obtain⟨e2,_⟩:=hok' b _ z2;rw [e] at e1;cases e1;exact e2
 cases hk:K.lookup a with
 | some o =>
  have e:=KX a o hk;rw [ha] at e;cases e;refine core (fun _=>none) (fun _=>.inl rfl) (.inr ⟨_,vs.toArray,_,hk,rfl,rfl,rfl,by rw [ad3,lenV];exact hl,by simpa using rv⟩) (fun b u z=>by have z':(none:Option HO)=some u:=z;cases z') (fun b z=>absurd rfl z) fun z=>absurd rfl z
 | none =>
  refine core (fun b=>if b=a then some (.frz { cls:=.type "list",data:=.seq vs.toArray } (.lst (ns.map V.int))) else none) (fun b=>?_) (.inl (.inr ⟨{ cls:=.type "list",data:=.seq vs.toArray },if_pos rfl⟩)) (fun b u z=>?_) (fun b z=>?_) fun _=>hk
  ·by_cases hb:b=a
   ·exact .inr ⟨_,_,if_pos hb⟩
   ·exact .inl (if_neg hb)
  ·by_cases hb:b=a
   ·have z':=(if_pos hb).symm.trans z;cases z';subst hb;exact⟨ha,by rw [adG];exact hl,vs,_,rv,ha⟩
   ·have z':=(if_neg hb).symm.trans z;cases z'
  ·by_cases hb:b=a
   ·exact hb
   ·exact absurd (if_neg hb) z
theorem walk_of {l:PySem.W.OpenLaw}{n k:Nat}{q:Program}{loose:List Str}{XP:(Str->Option Value)->Heap->Prop}{YP:World->Heap->Prop}{d:DefRec}{K:Params->PySem.W.Frag}{CX:World->CXT}{sp:World->Sp}{x:Str}
 (hn:l.most=some n)(hn2:n<=sizeLine)(hdf:d.params.defaults=[])(hr:Room k callerA)
 (hY:∀ (w:World) (h:Heap),YP w h->(K w.params).In h)
 (F:∀ (w:World) (mg:Str->Option Value) (fa:Addr) (h:Heap),(K w.params).In h->h.Ns mainGlobals mg->mg d.name=some (.ref fa) →
  ∃ fd:FuncData,(∀ (s:Shared) (u:Value),BindsTo s fd ⟨[u],[]⟩ [(x,u)]) ∧
   ∀ base:Heap,(K w.params).In base->base.Ns mainGlobals mg->FnOk l.prog w (K w.params) mg base (CX w) k fa fd [x] (sp w))
 (hsp:∀ (w:World) (H:Hp) (a:Addr) (ns:List Int),ns.length<=n->acB H->SqL (K w.params) H a (ns.map V.int)->sp w [.ref a] H (fun v _=>v=.bl true) fun _ _ _=>False)
 (hCX:∀ (w:World) (H:Hp) (s:Shared) (e:Value) (s':Shared),CX w [] H s (fun _ _ _=>False) e s'->False) :
 PySem.W.WalkO q loose XP YP l.row.toRowW d [] (fun f vs=>PySem.call f vs):=by
 refine Att.attach_call hn hdf fun w s₀ s₁ mg mb fa o pm cd doc a vs ns G Y ho hd hcd hmg hobj hints hlen hg=>?_;have KX:=hY w _ Y;obtain⟨fd,hb,hF⟩:=F w mg fa _ KX G.T.g hmg;exact yX KX G.T.g G.T.b G.T.builtins G.T.nolimit hg hobj hints (adZ hlen hn2) hr hF hb (fun H hO hS=>hsp w H a ns hlen hO hS) fun H e s'=>hCX w H s₁ e s'
def fO (s:Stmt):Arguments:=match s with
 | .FunctionDef _ a _ _ _ _ _ _ _ _=>a
 | _=>{ posonlyargs:=[],args:=[],vararg:=none,kwonlyargs:=[],kw_defaults:=[],kwarg:=none,defaults:=[] }
def bZ (s:Stmt):List Stmt:=match s with
 | .FunctionDef _ _ b _ _ _ _ _ _ _=>b
 | _=>[]
def ai (s:Stmt):Scope:=match s with
 | .FunctionDef _ _ _ _ _ _ sc _ _ _=>sc
 | _=>{ kind:=.function,names:=[],isGenerator:=false,isCoroutine:=false }
abbrev CX0:CXT:=fun _ _ _ _ _ _=>False
abbrev E0:XK:=fun _ _ _=>False
theorem iT {X:Cx}:nH CX0 X E0:=fun _ _ _ _ _ _ _ h=>h.elim
structure Fun (K:PySem.W.Frag)(x qual:Str)(st:Stmt)(f:Addr)(fd:FuncData):Prop where
 ex:∃ (oc:Value) (od:Option Addr) (kV doc pm:Value) (an:Option Addr) (cdv ct:Value) (osl:Array (Option Value)),
  fd=fnOf x qual (fO st) (bZ st) (ai st) .none kV doc pm an cdv ct/\K.lookup f=some ⟨oc,od,.func fd,osl⟩/\codeIn K cdv qual=true
 kp:keepIn K (.ref f)=true
section
variable {P:Program}{w:World}{K:PySem.W.Frag}{mg:Str->Option Value}{base:Heap}
theorem Fun.ok {x qual:Str}{st:Stmt}{f:Addr}{fd:FuncData}{N ps:List Str}{k:Nat}{sp:Sp}(F:Fun K x qual st f fd)(S:aA N ps (ai st))(len:∀ vs H Q E,sp vs H Q E->vs.length=ps.length)
 (hbody:∀ (cdv:Value) (A:Around) (outer:List Env) (s:Shared) (H:Hp) (vs:List V) (Q:VK) (E:XK),Room k (A.deeper (envOfC qual (ai st) s.heap.objs.size f cdv))->sp vs H Q E →
  ∃ t,PSs (pM CX0 P w K mg base N qual (ai st) f cdv A outer s H E).nox (bZ st) t/\t { nx:=fun _ H'=>Q .non H',rt:=Q } (mM N vs) H):FnOk P w K mg base CX0 (k+1) f fd ps sp:=by
 obtain⟨oc,od,kV,doc,pm,an,cdv,ct,osl,rfl,lk,hcd⟩:=F.ex;refine aaC lk hcd S len fun A outer s H vs Q E hr hsp=>?_;obtain⟨t,h,q⟩:=hbody cdv A outer s H vs Q E hr hsp;exact⟨t,h.nox,q⟩
theorem Fun.binds {x qual:Str}{st:Stmt}{f:Addr}{fd:FuncData}{ps:List Str}(F:Fun K x qual st f fd)
 (h:∀ (kV doc pm:Value) (an:Option Addr) (cdv ct:Value) (us:List Value),us.length=ps.length->bindArgs (fnOf x qual (fO st) (bZ st) (ai st) .none kV doc pm an cdv ct) ⟨us,[]⟩=pure (ps.zip us)):Binds K fd ps []:=by
 obtain⟨oc,od,kV,doc,pm,an,cdv,ct,osl,rfl,lk,hcd⟩:=F.ex;exact .all (h kV doc pm an cdv ct)
theorem fun_mk {x qual:Str}{st:Stmt}{f:Addr}{oc:Value}{od an:Option Addr}{osl:Array (Option Value)}{kV doc pm cdv ct:Value}(l:K.lookup f=some ⟨oc,od,.func (fnOf x qual (fO st) (bZ st) (ai st) .none kV doc pm an cdv ct),osl⟩)
 (c:codeIn K cdv qual=true)(k:keepIn K (.ref f)=true):Fun K x qual st f (fnOf x qual (fO st) (bZ st) (ai st) .none kV doc pm an cdv ct):=⟨⟨oc,od,kV,doc,pm,an,cdv,ct,osl,rfl,l,c⟩,k⟩
end
theorem dO {A:Around}{k:Nat}(hr:Room k A):A.units+1 < cLine:=aeg (aeq (by decide:1<=64) _) hr.units
theorem gJ {n:Nat}(h:n<=1000):n < sizeLine:=aeg h (by decide)
section
variable {X:Cx}
theorem pv (i:Nat){x:Str}{pos:Pos}(hN:X.N[i]? = some x:=by rfl)(hv:Vis X.env.scope x:=by first | exact Or.inl rfl | exact Or.inr (.inl rfl) | exact Or.inr (.inr rfl))(hd:(x == ("__debug__" : Str))=false:=by decide)
 (hcd:(x == ("__classdict__" : Str))=false:=by decide):PE X (.Name x pos) (abu i):=abW hN hv hd hcd
end
theorem eP {A B:Prop}(h:B):if false=true then A else B:=by
 rw [if_neg adM];exact h
theorem gI {A B:Prop}(h:A):if true=true then A else B:=by
 rw [if_pos rfl];exact h
theorem acg {c A B:Prop}[Decidable c](h1:c->A)(h2:¬ c->B):if c then A else B:=by
 by_cases h:c
 ·rw [if_pos h];exact h1 h
 ·rw [if_neg h];exact h2 h
def Same (H H':Hp):Prop:=∀ b o,H b=some o->H' b=some o
theorem Same.refl (H:Hp):Same H H:=fun _ _ h=>h
theorem Same.trans {H H1 H2:Hp}(a:Same H H1)(b:Same H1 H2):Same H H2:=fun c o h=>b c o (a c o h)
theorem Same.free {H H':Hp}(e:Same H H'){l:Addr}(h:H' l=Option.none):H l=Option.none:=by
 cases q:H l with
 | none=>rfl
 | some o =>
  rw [e l o q] at h;cases h
theorem Same.seq {K:PySem.W.Frag}{H H':Hp}{a:Addr}{xs:List V}(e:Same H H')(h:SqL K H a xs):SqL K H' a xs:=by
 rcases h with (h | ⟨o,h⟩) | h
 ·exact .inl (.inl (e _ _ h))
 ·exact .inl (.inr ⟨o,e _ _ h⟩)
 ·exact .inr h
section
variable {κ:Type}[DecidableEq κ]
def fk (kvs:List (κ×V))(k:κ):Option V:=(kvs.find? fun kv=>decide (kv.1=k)).map (·.2)
def fJ (kvs:List (κ×V))(k:κ)(v:V):List (κ×V) :=
 if (kvs.any fun kv=>decide (kv.1=k))=true then kvs.map (fun kv=>if kv.1=k then (kv.1,v) else kv) else kvs++[(k,v)]
theorem cn {p:κ×V}{r:List (κ×V)}{k:κ}(e:p.1=k):fk (p::r) k=some p.2:=by simp [fk,afD,e]
theorem cm {p:κ×V}{r:List (κ×V)}{k:κ}(e:¬ p.1=k):fk (p::r) k=fk r k:=by simp [fk,afD,e]
theorem gw (k:κ):∀ kvs:List (κ×V),(kvs.any fun kv=>decide (kv.1=k))=(fk kvs k).isSome
 | []=>rfl
 | p::r=>by
  rw [afS];by_cases e:p.1=k
  ·simp only [cn e,adY e,Bool.true_or,Option.isSome_some]
  ·rw [cm e,ad4 e,Bool.false_or];exact gw k r
theorem ux (k j:κ)(y:V):∀ kvs:List (κ×V),fk (kvs.map fun kv=>if kv.1=k then (kv.1,y) else kv) j=(fk kvs j).map fun x=>if j=k then y else x
 | []=>rfl
 | p::r=>by
  have ih:=ux k j y r;rw [adS];by_cases h:p.1=k
  ·rw [if_pos h];by_cases e:p.1=j
   ·rw [cn (p:=(p.1,y)) e,cn e,agl,if_pos (e.symm.trans h)]
   ·rw [cm (p:=(p.1,y)) e,cm e,ih]
  ·rw [if_neg h];by_cases e:p.1=j
   ·rw [cn (p:=p) e,cn e,agl,if_neg (fun z=>h (e.trans z))]
   ·rw [cm (p:=p) e,cm e,ih]
theorem pX (k j:κ)(y:V):∀ kvs:List (κ×V),fk kvs k=none->fk (kvs++[(k,y)]) j=if j=k then some y else fk kvs j
 | [],_=>by
  by_cases e:k=j
  ·rw [if_pos e.symm];exact cn (p:=(k,y)) e
  ·rw [if_neg (fun z=>e z.symm)];exact cm (p:=(k,y)) e
 | p::r,hn=>by
  rw [agY];have hk:¬ p.1=k:=fun z=>by rw [cn z] at hn;cases hn
  rw [cm hk] at hn;have ih:=pX k j y r hn;by_cases e:p.1=j
  ·rw [cn e,cn e,if_neg (fun z=>hk (e.trans z))]
  ·rw [cm e,cm e,ih]
theorem gB (kvs:List (κ×V))(k j:κ)(y:V):fk (fJ kvs k y) j=if j=k then some y else fk kvs j:=by
 unfold fJ;by_cases a:(kvs.any fun kv=>decide (kv.1=k))=true
 ·rw [if_pos a,ux];rw [gw] at a;by_cases e:j=k
  ·obtain⟨x,hx⟩:=agF.mp a;rw [if_pos e,e,hx,agl,if_pos rfl]
  ·rw [if_neg e];cases fk kvs j with
   | none=>rfl
   | some x=>rw [agl,if_neg e]
 ·rw [if_neg a];refine pX k j y kvs ?_;rw [gw] at a;cases q:fk kvs k with
  | none=>rfl
  | some x=>rw [q] at a;exact (a rfl).elim
theorem fi (kvs:List (κ×V))(k:κ)(v:V):(fJ kvs k v).length<=kvs.length+1:=by
 unfold fJ;split
 ·rw [adG];lia
 ·rw [adI,aef,ahd];lia
theorem sY {kvs:List (κ×V)}{k:κ}(v:V)(h:fk kvs k=none):fJ kvs k v=kvs++[(k,v)]:=by
 unfold fJ;rw [gw,h];exact if_neg (by decide)
theorem RelO.isSome_eq {o:Option V}{u:Option Value}(r:RelO o u):o.isSome=u.isSome:=by
 cases o with
 | none=>cases u with
  | none=>rfl
  | some _=>exact (show False from r).elim
 | some _=>cases u with
  | none=>exact (show False from r).elim
  | some _=>rfl
theorem KV.val {kvs:List (κ×V)}{vs:List (κ×Value)}(r:KV kvs vs)(k:κ):RelO (fk kvs k) (valueAt vs k):=by
 unfold KV at r
 induction r with
 | nil=>exact True.intro
 | @cons p q ps qs h t ih =>
  obtain⟨h1,h2⟩:=h;by_cases e:p.1=k
  ·have e':q.1=k:=h1.symm.trans e;have b:valueAt (q::qs) k=some q.2:=by simp [valueAt,afD,e']
   rw [cn e,b];exact h2
  ·have e':¬ q.1=k:=fun z=>e (h1.trans z);have b:valueAt (q::qs) k=valueAt qs k:=by simp [valueAt,afD,e']
   rw [cm e,b];exact ih
theorem KV.any {kvs:List (κ×V)}{vs:List (κ×Value)}(r:KV kvs vs)(k:κ):(kvs.any fun kv=>decide (kv.1=k))=vs.any fun kv=>decide (kv.1=k):=by
 unfold KV at r
 induction r with
 | nil=>rfl
 | cons h t ih=>rw [afS,afS,ih,h.1]
theorem KV.repl {kvs:List (κ×V)}{vs:List (κ×Value)}(r:KV kvs vs)(k:κ){y:V}{u:Value}(ry:RelV y u) :
 KV (kvs.map fun kv=>if kv.1=k then (kv.1,y) else kv) (vs.map fun kv=>if kv.1=k then (kv.1,u) else kv):=by
 unfold KV at r ⊢
 induction r with
 | nil=>exact .nil
 | @cons p q ps qs h t ih =>
  rw [adS,adS];refine .cons ?_ ih;obtain⟨h1,h2⟩:=h;by_cases e:p.1=k
  ·rw [if_pos e,if_pos (h1.symm.trans e)];exact⟨h1,ry⟩
  ·rw [if_neg e,if_neg (fun z=>e (h1.trans z))];exact⟨h1,h2⟩
theorem KV.put {kvs:List (κ×V)}{vs:List (κ×Value)}(r:KV kvs vs)(k:κ){y:V}{u:Value}(ry:RelV y u):KV (fJ kvs k y) (stored vs k u):=by
 unfold fJ stored;rw [r.any k];by_cases e:(vs.any fun kv=>decide (kv.1=k))=true
 ·rw [if_pos e,if_pos e];exact r.repl k ry
 ·rw [if_neg e,if_neg e];exact Paired.snoc r ⟨rfl,ry⟩
theorem KV.keys {kvs:List (κ×V)}{vs:List (κ×Value)}(r:KV kvs vs):kvs.map (·.1)=vs.map (·.1):=by
 unfold KV at r
 induction r with
 | nil=>rfl
 | cons h t ih=>rw [adS,adS,ih,h.1]
theorem KV.length {kvs:List (κ×V)}{vs:List (κ×Value)}(r:KV kvs vs):kvs.length=vs.length:=agN r
end
theorem u5 {P:Program}{w:World}{k:Key}{u:Value}(r:RelV (kV k) u):(aT P w).is k u=true:=by
 cases k with
 | inl i=>obtain⟨t,e⟩:=(show ∃ t,u=Value.int i t from r);subst e;exact sg P w i t
 | inr x=>obtain⟨t,e⟩:=(show ∃ t,u=Value.str x t from r);subst e;exact rX P w x t
theorem qP {P:Program}{w:World}:∀ {ks:List Key} {us:List Value},Vals (ks.map kV) us->ItemsAre (aT P w) ks us
 | [],_,r=>by rw [ahc] at r;cases r;exact .nil
 | k::ks,_,r=>by
  rw [adS] at r;cases r with
  | cons h t=>exact .cons (u5 h) (qP t)
abbrev KT (H:Hp):List (List Key×V)->List (List Key×Addr×Value)->Prop:=Paired fun p q=>p.1=q.1/\H q.2.1=some (.tup (p.1.map kV))/\RelV p.2 q.2.2
theorem KT.val {H:Hp}{kvs:List (List Key×V)}{xs:List (List Key×Addr×Value)}(r:KT H kvs xs)(k:List Key):RelO (fk kvs k) ((atKey xs k).map (·.2)):=by
 induction r with
 | nil=>exact True.intro
 | @cons p q ps qs h t ih =>
  obtain⟨h1,_,h2⟩:=h;by_cases e:p.1=k
  ·have e':q.1=k:=h1.symm.trans e;have b:atKey (q::qs) k=some q.2:=by simp [atKey,afD,e']
   rw [cn e,b];exact h2
  ·have e':¬ q.1=k:=fun z=>e (h1.trans z);have b:atKey (q::qs) k=atKey qs k:=by simp [atKey,afD,e']
   rw [cm e,b];exact ih
theorem KT.repl {H:Hp}{kvs:List (List Key×V)}{xs:List (List Key×Addr×Value)}(r:KT H kvs xs)(k:List Key){y:V}{u:Value}(ry:RelV y u) :
 KT H (kvs.map fun kv=>if kv.1=k then (kv.1,y) else kv) (xs.map (putAt k u)):=by
 induction r with
 | nil=>exact .nil
 | @cons p q ps qs h t ih =>
  rw [adS,adS];refine .cons ?_ ih;obtain⟨h1,h2,h3⟩:=h;unfold putAt;by_cases e:p.1=k
  ·rw [if_pos e,if_pos (h1.symm.trans e)];exact⟨h1,h2,ry⟩
  ·rw [if_neg e,if_neg (fun z=>e (h1.trans z))];exact⟨h1,h2,h3⟩
theorem KT.put {H:Hp}{kvs:List (List Key×V)}{xs:List (List Key×Addr×Value)}(r:KT H kvs xs)(k:List Key){b:Addr}{y:V}{u:Value}(hb:H b=some (.tup (k.map kV)))(ry:RelV y u) :
 KT H (fJ kvs k y) (storedH xs k b u):=by
 have e:(kvs.any fun kv=>decide (kv.1=k))=(atKey xs k).isSome:=by
  rw [gw,(r.val k).isSome_eq,Option.isSome_map]
 unfold fJ storedH;rw [e];by_cases q:(atKey xs k).isSome=true
 ·rw [if_pos q,if_pos q];exact r.repl k ry
 ·rw [if_neg q,if_neg q];exact Paired.snoc r ⟨rfl,hb,ry⟩
theorem KT.keeps {H H':Hp}{kvs:List (List Key×V)}{xs:List (List Key×Addr×Value)}(r:KT H kvs xs)(ht:∀ b ys,H b=some (.tup ys)->H' b=some (.tup ys)):KT H' kvs xs :=
 Paired.mapP r fun _ _ z=>⟨z.1,ht _ _ z.2.1,z.2.2⟩
section
variable {P:Program}{w:World}{H:Hp}{h:Heap}{a:Addr}
theorem abG {u:HO}(ok:HOk P w H h)(e:Rd H a u):ObjOk P w H h a u:=e.ok ok
theorem yT {kvs:List (Key×V)}(ok:HOk P w H h)(e:Rd H a (.dK kvs)):kvs.length<=sizeLine/\(a == sysModules)=false/\∃ vs,KV kvs vs/\h.DictOf (aT P w) a vs :=
 show ObjOk P w H h a (.dK kvs) from abG ok e
theorem uE {kvs:List (Key×V)}(ok:HOk P w H h)(e:H a=some (.dK kvs)):kvs.length<=sizeLine/\(a == sysModules)=false/\∃ vs,KV kvs vs/\h.DictOf (aT P w) a vs:=yT ok (.inl e)
theorem sZ {ks:List Key}(ok:HOk P w H h)(e:H a=some (.tup (ks.map kV))):(tupleKind (aT P w)).is h ks a:=by
 obtain⟨_,its,r,o,h1,h2,n,h3⟩:=(show ObjOk P w H h a (.tup (ks.map kV)) from ok a _ e);exact⟨o,its.toArray,n,h1,h2,h3,by simpa using qP r⟩
theorem yD {kvs:List (List Key×V)}(ok:HOk P w H h)(e:Rd H a (.dT kvs)):kvs.length<=sizeLine/\(a == sysModules)=false ∧
 ∃ xs,KT H kvs xs/\h.DictOfH (tupleKind (aT P w)) a xs:=by
 obtain⟨z,y,xs,r,o,es,ep,h1,h2,h3,h4,h5⟩:=(show ObjOk P w H h a (.dT kvs) from abG ok e);refine⟨z,y,xs,r,o,es,ep,h1,h2,h3,h4,fun x hx=>?_,h5⟩;have all:∀ {l:List (List Key×V)} {m:List (List Key×Addr×Value)},KT H l m->∀ x∈m,(tupleKind (aT P w)).is h x.1 x.2.1:=by
  intro l m q
  induction q with
  | nil=>intro x hx;exact nomatch hx
  | @cons p q ps qs hq t ih =>
   intro x hx;rcases adO.mp hx with e | hx
   ·subst e;exact sZ ok (by rw [← hq.1];exact hq.2.1)
   ·exact ih x hx
 exact all r x hx
theorem acp {kvs:List (List Key×V)}(ok:HOk P w H h)(e:H a=some (.dT kvs)):kvs.length<=sizeLine/\(a == sysModules)=false ∧
 ∃ xs,KT H kvs xs/\h.DictOfH (tupleKind (aT P w)) a xs:=yD ok (.inl e)
end
def DGet (H:Hp)(a:Addr)(y:V)(r:Option V):Prop :=
 (∃ kvs k,Rd H a (.dK kvs)/\y=kV k/\r=fk kvs k)\/∃ kvs k b,Rd H a (.dT kvs)/\y=.ref b/\H b=some (.tup (k.map kV))/\r=fk kvs k
def DPut (H:Hp)(a:Addr)(y v:V)(H':Hp):Prop :=
 (∃ kvs k,H a=some (.dK kvs)/\y=kV k/\kvs.length < sizeLine/\H'=upd H a (.dK (fJ kvs k v))) ∨
 ∃ kvs k b,H a=some (.dT kvs)/\y=.ref b/\H b=some (.tup (k.map kV))/\kvs.length < sizeLine/\H'=upd H a (.dT (fJ kvs k v))
theorem DGet.k {H:Hp}{a:Addr}{kvs:List (Key×V)}{k:Key}(e:H a=some (.dK kvs)):DGet H a (kV k) (fk kvs k):=.inl ⟨kvs,k,.inl e,rfl,rfl⟩
theorem DPut.k {H:Hp}{a:Addr}{kvs:List (Key×V)}{k:Key}{v:V}(e:H a=some (.dK kvs))(hl:kvs.length < sizeLine):DPut H a (kV k) v (upd H a (.dK (fJ kvs k v))):=.inl ⟨kvs,k,e,rfl,hl,rfl⟩
section
variable {X:Cx}{pins:List (Addr×Obj)}{σ:St}{H:Hp}{s:Shared}{a:Addr}{y v:V}{u r:Value}{o:Option V}{A:Around}{E:Value->Shared->Prop}
theorem Inv.big (I:Inv X pins σ H s):sysModules < s.heap.objs.size:=by
 have h:mainGlobals < s.heap.objs.size:=(I.mod.glob.keeps I.bk).lt;exact air (by decide) h
theorem pI {Q:Value->Shared->Prop}(hu:A.units+1 < cLine)(I:Inv X pins σ H s)(g:DGet H a y (some v))(ry:RelV y u)(h:∀ w' s',Inv X pins σ H s'->RelV v w'->Q w' s') :
 wpAny (model X.prog X.w) A (getItem (.ref a) u) Q E s:=by
 rcases g with ⟨kvs,k,e,ey,l⟩ | ⟨kvs,k,b,e,ey,eb,l⟩
 ·subst ey;obtain⟨z,hd,vs,rel,dd⟩:=yT I.hok e;obtain⟨w',hw,rw'⟩:=RelO.some_of (v:=v) (o:=valueAt vs k) (by rw [l];exact rel.val k);exact wpAny_getItem_of (u5 ry) dd.mapOf hw (h w' _ (I.tok _) rw')
 ·subst ey;cases (show u=Value.ref b from ry);obtain⟨z,hd,xs,rel,dd⟩:=yD I.hok e;obtain⟨w',hw,rw'⟩:=RelO.some_of (v:=v) (o:=(atKey xs k).map (·.2)) (by rw [l];exact rel.val k);obtain⟨p,hp,hp2⟩:=afz.mp hw;refine wpAny_getItem_heap (agx hu) (sZ I.hok eb) dd hp ?_;rw [hp2];exact h w' _ (I.tok _) rw'
theorem aaU {Q:Value->Shared->Prop}(hu:A.units+1 < cLine)(I:Inv X pins σ H s)(g:DGet H a y o)(ry:RelV y u)(h:∀ s',Inv X pins σ H s'->Q (.bool (!o.isSome)) s') :
 wpAny (model X.prog X.w) A (compareOp .NotIn u (.ref a)) Q E s:=by
 rcases g with ⟨kvs,k,e,ey,l⟩ | ⟨kvs,k,b,e,ey,eb,l⟩
 ·subst ey;obtain⟨z,hd,vs,rel,dd⟩:=yT I.hok e;refine wpAny_notIn_of (u5 ry) hd dd.mapOf ?_;rw [← (rel.val k).isSome_eq,← l];exact h _ (I.tok _)
 ·subst ey;cases (show u=Value.ref b from ry);obtain⟨z,hd,xs,rel,dd⟩:=yD I.hok e;refine wpAny_notIn_heap (agx hu) (sZ I.hok eb) hd dd ?_;have q:=(rel.val k).isSome_eq;rw [Option.isSome_map] at q;rw [← q,← l];exact h _ (I.tok _)
theorem lS {h':Heap}{t':Nat}{ob:HO}(I:Inv X pins σ H s)(mu:Mut (H a))(hs:Heap.SameBut a s.heap h')(he:∃ q,h'.get? a=some q)(new:ObjOk X.prog X.w (upd H a ob) h' a ob) :
 Inv X pins σ (upd H a ob) { s with heap:=h',toks:=t' } :=
 I.write (x:=a) (e:=a) mu (.inl rfl) (fun b q hb z=>(hs.2 b hb).trans z) he new
theorem ye {P:Program}{w:World}{H':Hp}{h':Heap}{kvs:List (Key×V)}{vs:List (Key×Value)}(z:kvs.length<=sizeLine)(hd:(a == sysModules)=false)(rel:KV kvs vs)(dd:h'.DictOf (aT P w) a vs) :
 ObjOk P w H' h' a (.dK kvs):=⟨z,hd,vs,rel,dd⟩
theorem qV {H':Hp}{Q:Unit->Shared->Prop}(hu:A.units+1 < cLine)(I:Inv X pins σ H s)(g:DPut H a y v H')(ry:RelV y u)(rv:RelV v r)(h:∀ s',Inv X pins σ H' s'->Q () s') :
 wpAny (model X.prog X.w) A (setItem (.ref a) u r) Q E s:=by
 rcases g with ⟨kvs,k,e,ey,l,eH⟩ | ⟨kvs,k,b,e,ey,eb,l,eH⟩
 ·subst ey eH;obtain⟨z,hd,vs,rel,dd⟩:=uE I.hok e;have hz:vs.length<=sizeLine:=by rw [← rel.length];exact z
  have hl:(fJ kvs k v).length<=sizeLine:=by have:=fi kvs k v;lia
  refine wpAny_setItem_pairs (hsz:=hz) (u5 ry) dd fun h' dd' hs=>h _ ?_;have he:∃ q,h'.get? a=some q:=let ⟨q,_,_,hq,_⟩:=dd';⟨q,hq⟩;exact lS I (by rw [e];exact True.intro) hs he (ye hl hd (rel.put k rv) dd')
 ·subst ey eH;cases (show u=Value.ref b from ry);obtain⟨z,hd,xs,rel,dd⟩:=acp I.hok e;have hz:xs.length<=sizeLine:=by rw [← agN rel];exact z
  have hl:(fJ kvs k v).length<=sizeLine:=by have:=fi kvs k v;lia
  refine wpAny_setItem_heap (hsz:=hz) (agx hu) (sZ I.hok eb) dd fun h' dd' hs=>h _ ?_;obtain⟨q,es,ep,hq,h2,h3,h4,_,h5⟩:=dd';refine lS I (by rw [e];exact True.intro) hs ⟨q,hq⟩ ⟨hl,hd,_,(rel.put k eb rv).keeps fun c ys ec=>?_,q,es,ep,hq,h2,h3,h4,h5⟩;rw [aj (vT ec e (fun z=>nomatch z))];exact ec
end
section
variable {X:Cx}{pins:List (Addr×Obj)}{σ:St}{H:Hp}{s:Shared}{a:Addr}{kvs:List (Key×V)}{k:Key}{u:Value}{A:Around}{E:Value->Shared->Prop}
end
def ac5 (i:Expr):Prop:=∀ ov iv,subscripted i false ov iv=operate [ov,iv] (getItem ov iv)
theorem aaG {prog:Program}{w:World}{A:Around}{E:Value->Shared->Prop}{s:Shared}{env:Env}{value slice:Expr}{pos:Pos}{T id:String}{Q:Value->Shared->Prop}
 (hl:typeLookup (.type T) "__getitem__" = pure (some (.builtin id)))(hs:ac5 slice)
 (h:wpAny (model prog w) A (eval value env) (fun o s₁=>wpAny (model prog w) A (eval slice env) (fun i s₂=>s₂.TypeIs o T/\wpAny (model prog w) A (getItem o i) Q E s₂) E s₁) E s) :
 wpAny (model prog w) A (eval (.Subscript value slice pos) env) Q E s:=by
 refine Subscript_ (aed h (fun o s₁ h₁=>aed h₁ (fun i s₂ h₂=>?_) fun _ _ x=>x) fun _ _ x=>x);obtain⟨hT,h₂⟩:=h₂;unfold subscriptTail;refine adE ?_;rw [getitemInPython_of_ne hT.not_modules];refine adE (wpAny_specialOf hT hl ?_);have fin:wpAny (model prog w) A (subscripted slice false o i) (fun r s₃=>wpAny (model prog w) A (letTemporaryGo value o r >>= fun _=>pure r) Q E s₃) E s₂:=by
  rw [hs o i];exact wpAny_operating (aed h₂ (fun r s₃ h₃=>adE (wpAny_letTemporaryGo (adJ h₃))) fun _ _ x=>x)
 first
  | exact adJ (adE fin)
  | exact adE (adJ (adE fin))
  | exact adE fin
theorem rM {X:Cx}{pins:List (Addr×Obj)}{σ:St}{H:Hp}{s:Shared}{a:Addr}{y:V}{o:Option V}(I:Inv X pins σ H s)(g:DGet H a y o):s.TypeIs (.ref a) "dict" := by
 rcases g with ⟨kvs,k,e,_,_⟩ | ⟨kvs,k,b,e,_,_,_⟩
 ·obtain⟨_,_,vs,_,dd⟩:=yT I.hok e;exact dd.typeIs
 ·obtain⟨_,_,xs,_,dd⟩:=yD I.hok e;exact dd.typeIs
def acK (td ty:TE):TE:=fun σ H Q=>td σ H fun x H1=>ty σ H1 fun y H2=>∃ a v,x=.ref a/\DGet H2 a y (some v)/\Q v H2
def zX (ty td:TE):TE:=fun σ H Q=>ty σ H fun y H1=>td σ H1 fun x H2=>∃ a o,x=.ref a/\DGet H2 a y o/\Q (.bl (!o.isSome)) H2
def aav (td ty tv:TE):TS:=fun D σ H=>tv σ H fun v H1=>td σ H1 fun x H2=>ty σ H2 fun y H3=>∃ a H4,x=.ref a/\DPut H3 a y v H4/\D.nx σ H4
def acP (td ty tv:TE)(rd:V->V->Hp->VK->Prop):TS:=fun D σ H=>td σ H fun x H1=>ty σ H1 fun y H2=>∃ a v,x=.ref a/\DGet H2 a y (some v) ∧
 tv σ H2 fun y2 H3=>rd v y2 H3 fun z H4=>∃ H5,DPut H4 a y z H5/\D.nx σ H5
section
variable {X:Cx}{o i e value:Expr}{pos pos' tpos:Pos}{td ty tv:TE}
theorem cV (hu:X.A.units+1 < cLine)(ho:PE X o td)(hi:PE X i ty)(hs:ac5 i):PE X (.Subscript o i pos) (acK td ty):=by
 intro pins s σ H Q I h;refine aaG PySem.F.slot_dict_getitem.lookup hs (thn (ho pins s σ H _ I h) fun u s1 ⟨x,H1,I1,rx,q1⟩=>thn (hi pins s1 σ H1 _ I1 q1) fun iv s2 ⟨y,H2,I2,ry,a,v,ex,g,q2⟩=>?_);subst ex;obtain rfl:u=Value.ref a:=rx;exact⟨rM I2 g,pI hu I2 g ry fun w' s3 I3 rw'=>⟨v,H2,I3,rw',q2⟩⟩
theorem wN (hu:X.A.units+1 < cLine)(hi:PE X i ty)(ho:PE X o td):PC X .NotIn i o (zX ty td):=by
 intro pins s σ H Q I h;refine thn (hi pins s σ H _ I h) fun iv s1 ⟨y,H1,I1,ry,q1⟩=>thn (ho pins s1 σ H1 _ I1 q1) fun u s2 ⟨x,H2,I2,rx,a,ov,ex,g,q2⟩=>?_;subst ex;obtain rfl:u=Value.ref a:=rx;exact aaU hu I2 g ry fun s3 I3=>⟨.bl (!ov.isSome),H2,I3,rfl,q2⟩
theorem lG (hu:X.A.units+1 < cLine)(ho:PE X o td)(hi:PE X i ty)(hv:PE X value tv)(hs:swapsWith value (some (.Subscript o i pos')) pos.line X.env=pure false) :
 PS X (.Assign [.Subscript o i pos'] value pos) (aav td ty tv):=by
 intro pins s σ H D I h;refine wpAny_Assign_Subscript (thn (hv pins s σ H _ I h) fun r s1 ⟨v,H1,I1,rv,q1⟩=>thn (ho pins s1 σ H1 _ I1 q1) fun u s2 ⟨x,H2,I2,rx,q2⟩=>thn (hi pins s2 σ H2 _ I2 q2) fun iv s3 ⟨y,H3,I3,ry,a,H4,ex,g,q3⟩=>?_) hs;subst ex;obtain rfl:u=Value.ref a:=rx;exact qV hu I3 g ry rv fun s4 I4=>⟨σ,H4,I4,q3⟩
theorem aam {op:Operator}{rd:V->V->Hp->VK->Prop}(hu:X.A.units+1 < cLine)(ho:PE X o td)(hi:PE X i ty)(hv:PE X value tv)(hop:ac8 X op rd)
 (ha:∀ ov iv new,augStore i ov iv new=(do holding [new,ov,iv] (setItem ov iv new);release [new,ov,iv] [];pure .next)):PS X (.AugAssign (.Subscript o i tpos) op value pos) (acP td ty tv rd):=by
 intro pins s σ H D I h;refine agh (thn (ho pins s σ H _ I h) fun u s1 ⟨x,H1,I1,rx,q1⟩=>thn (hi pins s1 σ H1 _ I1 q1) fun iv s2 ⟨y,H2,I2,ry,a,v,ex,g,q2⟩=>?_) ha;subst ex;obtain rfl:u=Value.ref a:=rx;refine pI hu I2 g ry fun w' s3 I3 rw'=>thn (hv pins s3 σ H2 _ I3 q2) fun w2 s4 ⟨y2,H3,I4,ry2,q3⟩=>thn (hop pins s4 σ H3 v y2 w' w2 _ I4 rw' ry2 q3) fun w3 s5 ⟨z,H4,I5,rz,H5,g5,q4⟩=>?_;exact qV hu I5 g5 ry rz fun s6 I6=>⟨σ,H5,I6,q4⟩
end
theorem o9 {P:Program}{w:World}{H:Hp}(h:Heap)(hb:sysModules < h.objs.size):ObjOk P w H (h.push { cls:=.type "dict",data:=.dict #[] }) h.objs.size (.dK []) :=
 ⟨ad7 _,afo.mpr (aeL (ad2 hb)),[],.nil,Heap.DictOf.new h⟩
def abR:TE:=fun _ H Q=>∀ p,H p=none->Q (.ref p) (upd H p (.dK []))
section
variable {X:Cx}{pos:Pos}
theorem px:PE X (.Dict [] [] pos) abR:=fun pins s σ H Q I h =>
 wpAny_Dict_empty ⟨.ref s.heap.objs.size,_,I.laid (a:=s.heap.objs.size) (o:=.dK []) (t':=s.toks) (fun _ _ q=>adH _ q) (adL _) (o9 s.heap I.big),rfl,h _ (I.hok.fresh (adL _))⟩
end
def zO:List (TE×TE)->St->Hp->(List (V×V)->Hp->Prop)->Prop
 | [],_,H,Q=>Q [] H
 | (tk,tv)::r,σ,H,Q=>tk σ H fun x H1=>tv σ H1 fun y H2=>zO r σ H2 fun ps H3=>Q ((x,y)::ps) H3
abbrev VV:List (V×V)->List (Value×Value)->Prop:=Paired fun p q=>RelV p.1 q.1/\RelV p.2 q.2
def PPs (X:Cx)(pos:Pos)(keys:List (Option Expr))(values:List Expr)(trs:List (TE×TE)):Prop :=
 ∀ (pins:List (Addr×Obj)) (s:Shared) (σ:St) (H:Hp) (Q:List (V×V)->Hp->Prop),Inv X pins σ H s->zO trs σ H Q →
  wpAny (model X.prog X.w) X.A (evalPairs (pairTrees keys values X.env pos)) (fun vs s'=>∃ ps H',Inv X pins σ H' s'/\VV ps vs/\Q ps H') X.xe s
theorem aaf {X:Cx}{pos:Pos}:PPs X pos [] [] []:=fun pins s σ H Q I h=>pairTrees_nil_walk ⟨[],H,I,.nil,h⟩
theorem yE {X:Cx}{pos:Pos}{k v:Expr}{ks:List (Option Expr)}{vs:List Expr}{tk tv:TE}{trs:List (TE×TE)}(hk:PE X k tk)(hv:PE X v tv)(hr:PPs X pos ks vs trs) :
 PPs X pos (some k::ks) (v::vs) ((tk,tv)::trs):=fun pins s σ H Q I h =>
 pairTrees_cons_walk (thn (hk pins s σ H _ I h) fun u s1 ⟨x,H1,I1,rx,q1⟩=>thn (hv pins s1 σ H1 _ I1 q1) fun w2 s2 ⟨y,H2,I2,ry,q2⟩ =>
  thn (hr pins s2 σ H2 _ I2 q2) fun ws s3 ⟨ps,H3,I3,rel,q3⟩=>⟨(x,y)::ps,H3,I3,.cons ⟨rx,ry⟩ rel,q3⟩)
section
variable {X:Cx}{pins:List (Addr×Obj)}{σ:St}{H:Hp}{s:Shared}{a:Addr}{y d:V}{u r:Value}{o:Option V}{A:Around}{E:Value->Shared->Prop}
end
section
variable {X:Cx}{o e f:Expr}{apos cpos:Pos}{td ty tx:TE}
end
section
variable {X:Cx}{pins:List (Addr×Obj)}{σ:St}{H:Hp}{s:Shared}{a:Addr}{kvs:List (Key×V)}{A:Around}{E:Value->Shared->Prop}
end
section
variable {X:Cx}{pins:List (Addr×Obj)}{σ:St}{H:Hp}{s:Shared}{a:Addr}{y:V}{u:Value}{A:Around}{E:Value->Shared->Prop}
end
def i9 (env:Env):List (Str×NameKind)->List (Str×Addr)->List (Str×Addr)
 | [],cs=>cs
 | (n,k)::r,cs=>i9 env r (if k=.free then (n,(env.cells.lookup n).getD 0)::cs else cs)
theorem vW {env:Env}:∀ (ns:List (Str×NameKind)) (cs:List (Str×Addr)),(∀ x∈ns,x.2=.free->∃ c,env.cells.lookup x.1=some c) →
 (forIn (m:=Sem) ns cs fun (x:Str×NameKind) (r:List (Str×Addr))=>(if (x.2 == .free)=true then (do let a ← cellOf env x.1;pure (ForInStep.yield ((x.1,a)::r))) else pure (ForInStep.yield r)))=pure (i9 env ns cs)
 | [],cs,_=>by simp [i9]
 | (n,k)::r,cs,h=>by
  have ih:=fun cs=>vW r cs fun x hx=>h x (adN _ hx);rw [agm];by_cases hk:k=.free
  ·subst hk;obtain⟨c,hc⟩:=h (n,.free) adV rfl;have e1:cellOf env n=pure c:=by unfold cellOf;rw [hc]
   have hb:(NameKind.free == NameKind.free)=true:=rfl;simp only [hb,agO,e1,pure_bind,i9,hc,Option.getD_some];exact ih _
  ·have hb:(k == NameKind.free)=false:=by simpa using hk
   simp only [hb,aeI,agi,pure_bind,i9,if_neg hk];exact ih _
theorem pD {env:Env}:∀ (ns:List (Str×NameKind)) (cs:List (Str×Addr)) (x:Str) (c:Addr),(∀ x∈ns,x.2=.free->∃ c,env.cells.lookup x.1=some c)->(i9 env ns cs).lookup x=some c->cs.lookup x=some c\/env.cells.lookup x=some c
 | [],cs,x,c,_,e=>.inl e
 | (n,k)::r,cs,x,c,h,e=>by
  have ih:=pD r (if k=.free then (n,(env.cells.lookup n).getD 0)::cs else cs) x c (fun x hx=>h x (adN _ hx)) e;rcases ih with ih | ih
  ·by_cases hk:k=.free
   ·subst hk;rw [if_pos rfl] at ih;obtain⟨d,hd⟩:=h (n,.free) adV rfl;have hd':env.cells.lookup n=some d:=hd;rw [hd'] at ih;rw [aeU] at ih;cases hx:x == n with
    | true =>
     rw [hx] at ih;have:x=n:=by simpa using hx
     subst this;right;rw [hd'];exact ih
    | false =>
     rw [hx] at ih;exact .inl ih
   ·rw [if_neg hk] at ih;exact .inl ih
  ·exact .inr ih
theorem pT {env:Env}:∀ (ns:List (Str×NameKind)) (cs:List (Str×Addr)) (x:Str),(∃ c,cs.lookup x=some c)->∃ c,(i9 env ns cs).lookup x=some c
 | [],_,_,h=>h
 | (n,k)::r,cs,x,h=>by
  refine pT r _ x ?_;split
  ·rw [aeU];split
   ·exact⟨_,rfl⟩
   ·exact h
  ·exact h
theorem jA {env:Env}:∀ (ns:List (Str×NameKind)) (cs:List (Str×Addr)) (x:Str),(x,NameKind.free)∈ns->∃ c,(i9 env ns cs).lookup x=some c
 | [],_,_,h=>nomatch h
 | (n,k)::r,cs,x,h=>by
  rcases adO.mp h with e | h
  ·cases e;refine pT r _ _ ⟨(env.cells.lookup n).getD 0,?_⟩;rw [if_pos rfl,aeU,afi]
  ·exact jA r _ x h
theorem gh {scope:Scope}{env:Env}(h:∀ x∈scope.names,x.2=.free->∃ c,env.cells.lookup x.1=some c):closureFor scope env=pure (i9 env scope.names []):=by
 have e:=vW scope.names [] h;unfold closureFor;simp only [] at e ⊢;rw [e]
 rfl
theorem gs {scope:Scope}{env:Env}{x:Str}{k:NameKind}:(relabel scope env).names.lookup x=some k->∃ k',(x,k')∈scope.names/\(k=k'\/(k'=.free/\k=.cell)):=by
 intro h;have all:∀ (ns:List (Str×NameKind)),(ns.map fun (n,k)=>if (k == NameKind.free && env.scope.kind == .function && env.kindOf n == some .cell) then (n,NameKind.cell) else (n,k)).lookup x=some k->∃ k',(x,k')∈ns/\(k=k'\/(k'=.free/\k=.cell)):=by
  intro ns
  induction ns with
  | nil=>intro h;simp at h
  | cons y r ih =>
   obtain⟨n,k'⟩:=y;intro h;rw [adS,aeU] at h;by_cases hc:(k' == NameKind.free && env.scope.kind == .function && env.kindOf n == some .cell)=true
   ·simp only [hc,agO] at h;cases hx:x == n with
    | true =>
     rw [hx] at h;have e:x=n:=by simpa using hx
     subst e;have hk:k'=.free:=by
      simp only [aei] at hc;simpa using hc.1.1
     exact⟨k',adV,.inr ⟨hk,(aev h).symm⟩⟩
    | false =>
     rw [hx] at h;obtain⟨k2,h1,h2⟩:=ih h;exact⟨k2,adN _ h1,h2⟩
   ·simp only [hc,aeI,agi] at h;cases hx:x == n with
    | true =>
     rw [hx] at h;have e:x=n:=by simpa using hx
     subst e;exact⟨k',adV,.inl (aev h).symm⟩
    | false =>
     rw [hx] at h;obtain⟨k2,h1,h2⟩:=ih h;exact⟨k2,adN _ h1,h2⟩
 exact all scope.names h
def Cx.comp (X:Cx)(scope:Scope)(N':List Str)(C:Addr)(fp:List Addr)(s₀:Shared)(H₀:Hp):Cx :=
 { X with N:=N',s₀:=s₀,H₀:=H₀,env:=compEnvC scope (i9 X.env scope.names []) C X.env,outer:=X.stack,stack:=X.stack,ex:=fp,fn:=fun _=>false,pn:=[],xe:=fun _ _=>False }
structure CompScope (X:Cx)(scope:Scope):Prop where
 kind:scope.kind=.function
 nocell:∀ x∈scope.names,x.2≠.cell
 loc:∀ x∈scope.names,x.2=.local->scope.names.lookup x.1=some .local
 free:∀ x∈scope.names,x.2=.free->X.env.kindOf x.1=some .cell
section
variable {X:Cx}{pins:List (Addr×Obj)}{σ:St}{H:Hp}{s:Shared}{scope:Scope}{N':List Str}{fp:List Addr}
theorem CompScope.cells (S:CompScope X scope)(ok:X.Ok):∀ x∈scope.names,x.2=.free->∃ c,X.env.cells.lookup x.1=some c:=fun x hx hk=>ok.has x.1 (.inl (S.free x hx hk))
theorem CompScope.sub (S:CompScope X scope)(ok:X.Ok){x:Str}{c:Addr}(e:(i9 X.env scope.names []).lookup x=some c):X.env.cells.lookup x=some c:=by
 rcases pD scope.names [] x c (S.cells ok) e with h | h
 ·cases h
 ·exact h
theorem CompScope.ok (S:CompScope X scope)(I:Inv X pins σ H s)(hf:∀ b∈fp,jE X pins H b)(ho:∀ b∈fp,b < s.heap.objs.size):(X.comp scope N' s.heap.objs.size fp s H).Ok where
 mod:=I.ok.mod
 kind:=S.kind
 glob:=I.ok.glob
 blt:=I.ok.blt
 above:=adL _
 inj:=fun x y c e1 e2=>I.ok.inj x y c (S.sub I.ok e1) (S.sub I.ok e2)
 has:=fun x hx=>by
  have hx':(relabel scope X.env).names.lookup x=some .cell\/(relabel scope X.env).names.lookup x=some .free:=hx;have fr:(x,NameKind.free)∈scope.names:=by
   rcases hx' with h | h
   ·obtain⟨k',h1,h2⟩:=gs h;rcases h2 with h2 | ⟨h2,_⟩
    ·subst h2;exact absurd rfl (S.nocell _ h1)
    ·subst h2;exact h1
   ·obtain⟨k',h1,h2⟩:=gs h;rcases h2 with h2 | ⟨h2,h3⟩
    ·subst h2;exact h1
    ·cases h3
  exact jA scope.names [] x fr
 cab:=fun x c h _=>by cases h
 hd:=I.ok.hd
 frames:=I.ok.frames
 stk:=.inl rfl
 exf:=fun b hb=>⟨ad2 (ho b hb),fun x c e=>(hf b hb).2.2.2.2.1 x c (S.sub I.ok e)⟩
 bs:=I.bs
 bsz:=adZ I.ok.bsz I.sz
 noex:=fun b o e hb=>by
  rcases (hf b hb).2.2.2.1 with h | h
  ·exact I.ok.noex b o e h
  ·exact absurd (adU (adQ e) (adZ I.ok.bsz h)) (aez _)
 exfs:=fun b hb hs=>by
  rcases adO.mp (I.stkSub b hs) with h | h
  ·exact (hf b hb).2.1 h
  ·exact (hf b hb).2.2.1 h
 funs:=I.stack
 frf:=I.stkFree
def cz (nl:Nat)(ix:List Nat)(σ:St):St:=List.replicate nl none++ix.map fun j=>(σ[j]?).join
structure yw (X:Cx)(scope:Scope)(N':List Str)(nl:Nat)(ix:List Nat):Prop where
 len:N'.length=nl+ix.length
 at':∀ (k j:Nat),ix[k]? = some j->∃ x,X.N[j]? = some x/\N'[nl+k]? = some x/\X.env.kindOf x=some .cell/\(relabel scope X.env).names.lookup x=some .cell/\(x,NameKind.free)∈scope.names
theorem kW {nl:Nat}{ix:List Nat}{h1:Heap}{tk:Nat}(S:CompScope X scope)(Cp:yw X scope N' nl ix)(I:Inv X pins σ H s)(hf:∀ b∈fp,jE X pins H b)(ho:∀ b∈fp,b < s.heap.objs.size)
 (hn:h1.Ns s.heap.objs.size (fun _=>none))(hk:∀ b o,s.heap.get? b=some o->h1.get? b=some o):Inv (X.comp scope N' s.heap.objs.size fp s H) [] (cz nl ix σ) H { s with heap:=h1,toks:=tk }:=by
 have ok:=S.ok (N':=N') I hf ho;refine⟨ok,rfl,I.bare,Un.kept hk,⟨_,hn,fun i x v e1 e2 e3=>?_⟩,fun x c e=>?_,I.hok.fresh (adL _),fun x c e=>I.freeC x c (S.sub I.ok e),fun p hp=>by simp [Cx.comp] at hp,I.hok.kept hk,?_⟩
 ·unfold cz at e2;rw [age] at e2;split at e2
  ·rw [afr] at e2;split at e2<;>simp at e2
  ·rename_i hi;rw [aey] at hi e2;rw [adK] at e2;cases ej:ix[i - nl]? with
   | none=>rw [ej] at e2;simp at e2
   | some j =>
    rw [ej] at e2;have e2':(σ[j]?).join=some v:=by simpa using e2
    have e2'':σ[j]? = some (some v):=by
     cases q:σ[j]? with
     | none=>rw [q] at e2';simp at e2'
     | some z=>rw [q] at e2';simp at e2';rw [e2']
    obtain⟨x',a1,a2,a3,a4,a5⟩:=Cp.at' _ _ ej;have hi2:nl+(i - nl)=i:=by lia
    rw [hi2] at a2;have e1':N'[i]? = some x:=e1;rw [a2] at e1';cases e1';obtain⟨m,hm,hl⟩:=I.loc;obtain⟨u,r,l⟩:=hl j x v a1 e2'' (.inr (.inl a3));refine⟨u,r,?_⟩;rcases l with ⟨k,_⟩ | ⟨_,c,ec,z⟩
    ·rw [k] at a3;cases a3
    ·obtain⟨c',hc'⟩:=jA (env:=X.env) scope.names [] x a5;have ec':=S.sub I.ok hc';rw [ec] at ec';cases ec';obtain⟨o,ho',hd⟩:=z;exact .inr ⟨.inl a4,c,hc',o,hk _ _ ho',hd⟩
 ·obtain⟨v,o,ho',hd⟩:=I.cell x c (S.sub I.ok e);exact⟨v,o,hk _ _ ho',hd⟩
 ·show (cz nl ix σ).length=N'.length;unfold cz;rw [adI,aey,adG,Cp.len]
theorem jD {H':Hp}{σ':St}{pins':List (Addr×Obj)}{s':Shared}{h':Heap}(I:Inv X pins σ H s)(hf:∀ b∈fp,jE X pins H b)
 (I':Inv (X.comp scope N' s.heap.objs.size fp s H) pins' σ' H' s')(hs:Heap.SameBut s.heap.objs.size s'.heap h'):Inv X pins σ H' { s' with heap:=h' }:=by
 have lo:∀ b o,s.heap.get? b=some o->b≠s.heap.objs.size:=fun b o e=>ad2 (adQ e);have B:=I'.base;refine I.call' (ch:=fp) (show s'.os=s.os from I'.os) ⟨fun b o e n hb hx=>?_,fun b o e n hb hx=>?_,fun b o e n hx=>B.free b o e n hx,fun b o e hx=>?_,B.tups,B.frzs,B.tbls⟩ (fun b u e=>?_) I'.bare fun b hb=>⟨(hf b hb).2.2.2.1,(hf b hb).2.1,(hf b hb).2.2.2.2.1,(hf b hb).2.2.2.2.2⟩
 ·exact (hs.2 b (lo b o e)).trans (B.keep b o e n hb hx)
 ·obtain⟨sl,q⟩:=B.slot b o e n hb hx;exact⟨sl,(hs.2 b (lo b o e)).trans q⟩
 ·obtain⟨o',q⟩:=B.there b o e hx;exact⟨o',(hs.2 b (lo b o e)).trans q⟩
 ·have nl:H' s.heap.objs.size=none:=I'.free;refine (I'.hok b u e).stay (fun c v hc q=>(hs.2 c ?_).trans q) (fun _ q=>q) fun _ _ q=>q;rintro rfl;rcases hc with z | z
  ·rw [← z,nl] at e;cases e
  ·rw [nl] at z;cases z
end
def PIf (X:Cx)(ifs:List Expr)(t:TT):Prop :=
 ∀ (pins:List (Addr×Obj)) (s:Shared) (σ:St) (H:Hp) (Q:Bool->Hp->Prop),Inv X pins σ H s->t σ H Q →
  wpAny (model X.prog X.w) X.A (forIn ifs true fun c r=>if r=true then do let ok ← isTrue c X.env (eval c X.env);pure (ForInStep.yield ok) else pure (ForInStep.yield r)) (TP X pins σ Q) X.xe s
def tZ:TT:=fun _ H Q=>Q true H
theorem dA {X:Cx}:PIf X [] tZ:=fun _ _ _ H _ I h=>ahe ⟨H,I,h⟩
theorem hE {X:Cx}{c:Expr}{t:TT}(h:PT X c t):PIf X [c] t:=fun pins s σ H Q I hw=>wpAny_tests_one (h pins s σ H Q I hw)
section
variable {prog:Program}{w:World}{A:Around}{R:Result->Shared->Prop}{s:Shared}
theorem jF {elt target iter:Expr}{ifs:List Expr}{scope:Scope}{pos:Pos}{it acc:Value}{env:Env}(I:Nat->Shared->Prop)
 (turn:∀ n s,I n s->wpAny (model prog w) A (pyNext it) (fun r s₁=>match r with
  | none=>R (.ok .next) s₁
  | some v=>wpAny (model prog w) A (letOwnedTupleGo target it v) (fun _ s₁'=>wpAny (model prog w) A (assign target env v) (fun _ s₂ =>
   wpAny (model prog w) A (forIn ifs true fun c r=>if r=true then do let ok ← isTrue c env (eval c env);pure (ForInStep.yield ok) else pure (ForInStep.yield r)) (fun ok s₃ =>
    if ok=true then wpAny (model prog w) A (eval elt env) (fun x s₄ =>
     wpAny (model prog w) A (call (.builtin "list.append") [acc,x]) (fun _ s₅=>∃ m,m < n/\I m s₅) (fun _ _=>False) s₄) (fun _ _=>False) s₃
    else ∃ m,m < n/\I m s₃) (fun _ _=>False) s₂) (fun _ _=>False) s₁') (fun _ _=>False) s₁) (fun _ _=>False) s)
 (n:Nat)(h:I n s) :
 codeAny (model prog w) A (.compLoop (.ListComp elt [⟨target,iter,ifs,0⟩] scope pos) 0 it acc env) R s:=by
 have no:∀ {E:Value->Shared->Prop} (x:Value) (s:Shared),False->E x s:=fun _ _ z=>z.elim;refine ahf rfl I (fun n s hI=>?_) n h;show wpAny _ A ((compTurn (.ListComp elt [⟨target,iter,ifs,0⟩] scope pos) 0 it acc env).onRaise (fun x=>do noteFrame x env;theTreesLotGoes x)) _ _ s;refine ahI ?_;rw [compTurn_list];refine adE (aeC (adE (aed (turn n s hI) (fun r s₁ h₁=>?_) no)));cases r with
 | none=>exact adJ h₁
 | some v =>
  refine adE (aed h₁ (fun _ s₁' h₁'=>adE (aed h₁' (fun _ s₂ h₂=>adE (aed h₂ (fun ok s₃ h₃=>?_) no)) no)) no);cases ok with
  | false=>exact adJ ⟨rfl,h₃⟩
  | true =>
   exact adE (adE (aed h₃ (fun x s₄ h₄=>adE (aed h₄ (fun _ s₅ h₅=>adJ (adJ ⟨rfl,h₅⟩)) no)) no))
end
def ll (nl:Nat)(ix:List Nat)(wi:TI)(g:TG)(tf:TT)(te:TE):TE:=fun σ H Q=>wi σ H fun J H1=>∀ D,H1 D=none->∃ W:Nat->Nat->List V->Hp->Prop,(∃ m,W 0 m [] (upd H1 D (.lst []))) ∧
 ∀ i m ys H2,W i m ys H2->H2 D=some (.lst ys)/\((J.stop i H2/\Q (.ref D) H2)\/(J.go i H2/\∀ x H3,J.yld i H2 x H3->g x (cz nl ix σ) H3 fun σ4 H4=>(σ4.length=(cz nl ix σ).length/\σ4.drop nl=ix.map fun j=>(σ[j]?).join)/\tf σ4 H4 fun b H5 =>
  if b=true then te σ4 H5 fun y H6=>H6 D=some (.lst ys)/\ys.length < sizeLine/\∃ m',m' < m/\W (i+1) m' (ys++[y]) (upd H6 D (.lst (ys++[y]))) else ∃ m',m' < m/\W (i+1) m' ys H5))
theorem gL {X:Cx}{pins:List (Addr×Obj)}{σ σ4:St}{H:Hp}{s:Shared}{nl:Nat}{ix:List Nat}(I:Inv X pins σ4 H s)(hl:σ4.length=(cz nl ix σ).length)(hd:σ4.drop nl=ix.map fun j=>(σ[j]?).join):Inv X pins (cz nl ix σ) H s:=by
 refine I.weak hl.symm fun i v e=>?_;unfold cz at e;rw [age] at e;split at e
 ·rw [afr] at e;split at e<;>simp at e
 ·rename_i hi;rw [aey] at hi e;rw [← hd,List.getElem?_drop] at e;have hi2:nl+(i - nl)=i:=by lia
  rw [hi2] at e;exact e
section
variable {X:Cx}
theorem kO {elt tg iter:Expr}{ifs:List Expr}{scope:Scope}{pos:Pos}{N':List Str}{nl:Nat}{ix:List Nat}{wi:TI}{g:TG}{tf:TT}{te:TE}(hc:X.calm=true)(S:CompScope X scope)(Cp:yw X scope N' nl ix)(hi:PI X tg iter wi)
 (hg:∀ C fp s₀ H₀,PG (X.comp scope N' C fp s₀ H₀) tg g)(hf:∀ C fp s₀ H₀,PIf (X.comp scope N' C fp s₀ H₀) ifs tf)(he:∀ C fp s₀ H₀,PE (X.comp scope N' C fp s₀ H₀) elt te)
 (hs:∀ x,foldedSetIterable iter X.env x=pure x:=by intro _;rfl):PE X (.ListComp elt [⟨tg,iter,ifs,0⟩] scope pos) (ll nl ix wi g tf te):=by
 intro pins s σ H Q I h;rw [eval_ListComp];refine ae5 (use:=none) (cl:=i9 X.env scope.names []) rfl hs (gh (S.cells I.ok)) S.kind S.loc ?_;refine thn (hi pins s σ H _ I h) fun v s1 h1=>thn h1 fun itv s2 h2=>?_;obtain⟨it,fp,tn,J,H2,rfl,I2,T,st2,f2,h2⟩:=h2;obtain⟨W,⟨m0,w0⟩,turn⟩:=h2 s2.heap.objs.size I2.fresh;refine aeM (afK S.nocell (by intro y hy;simp at hy) (fun h₁ hns₁ hsb₁=>?_) S.kind);dsimp only at hns₁ hsb₁ ⊢;have fpo:∀ b∈fp,b < s2.heap.objs.size:=fun b hb=>by
  obtain⟨o,e,_⟩:=T.obj 0 _ st2 b hb;exact adQ e
 have I3:Inv X pins σ (upd H2 s2.heap.objs.size (.lst [])) { s2 with heap:=s2.heap.push { cls:=.type "list",data:=.seq ([]:List Value).toArray },toks:=s2.toks }:=I2.lnew .nil (ad7 _);have hD:(upd H2 s2.heap.objs.size (.lst [])) s2.heap.objs.size=some (.lst []):=af;have f3:∀ b∈fp,jE X pins (upd H2 s2.heap.objs.size (.lst [])) b:=fun b hb=>by
  refine⟨?_,(f2 b hb).2⟩;rw [aj (ad2 (fpo b hb))];exact (f2 b hb).1
 generalize hS3:s2.heap.push { cls:=.type "list",dict:=none,data:=.seq ([]:List Value).toArray }=g3 at hns₁ hsb₁ I3 ⊢;have sz3:g3.objs.size=s2.heap.objs.size+1:=by rw [← hS3,aex]
 have fpo3:∀ b∈fp,b < ({ s2 with heap:=g3,toks:=s2.toks }:Shared).heap.objs.size:=fun b hb=>by
  show b < g3.objs.size;rw [sz3];exact aeN (fpo b hb)
 have old:∀ b o,g3.get? b=some o->h₁.get? b=some o:=fun b o e=>hsb₁.extBut b o (ad2 (adQ e)) (adH _ e);have I4:=kW (tk:=s2.toks+([]:List (Str×Value)).length) S Cp I3 f3 fpo3 hns₁ old;generalize hX:X.comp scope N' g3.objs.size fp { s2 with heap:=g3,toks:=s2.toks } (upd H2 s2.heap.objs.size (.lst []))=X' at *;have hPr:X'.prog=X.prog:=by rw [← hX];rfl
 have hWr:X'.w=X.w:=by rw [← hX];rfl
 have hKr:X'.K=X.K:=by rw [← hX];rfl
 have hAr:X'.A=X.A:=by rw [← hX];rfl
 have hCa:X'.calm=true:=by rw [← hX];exact hc
 have hXe:X'.xe=fun _ _=>False:=by rw [← hX];rfl
 have hEx:X'.ex=fp:=by rw [← hX];rfl
 have hPn:X'.pn=[]:=by rw [← hX];rfl
 have hLo:X'.env.locals=g3.objs.size:=by rw [← hX];rfl
 have hEn:X'.env=compEnvC scope (i9 X.env scope.names []) g3.objs.size X.env:=by rw [← hX];rfl
 have hg':=hg g3.objs.size fp { s2 with heap:=g3,toks:=s2.toks } (upd H2 s2.heap.objs.size (.lst []));have hf':=hf g3.objs.size fp { s2 with heap:=g3,toks:=s2.toks } (upd H2 s2.heap.objs.size (.lst []));have he':=he g3.objs.size fp { s2 with heap:=g3,toks:=s2.toks } (upd H2 s2.heap.objs.size (.lst []));rw [hX] at hg' hf' he';have I4':Inv X' [] (cz nl ix σ) (upd H2 s2.heap.objs.size (.lst [])) { s2 with heap:=h₁,toks:=s2.toks+([]:List (Str×Value)).length }:=I4;have back:∀ {H':Hp} {σ':St} {pins':List (Addr×Obj)} {s':Shared} {h':Heap},Inv X' pins' σ' H' s'->Heap.SameBut g3.objs.size s'.heap h'->Inv X pins σ H' { s' with heap:=h' }:=fun I' sb=>by
  subst hX;exact jD I3 f3 I' sb
 have stat:∀ {H':Hp},(∀ b∈fp,H' b=none)->∀ b∈fp,jE X' [] H' b:=fun hn b hb=>by
  refine⟨hn b hb,?_,?_,.inl (by rw [hEx];exact hb),?_,fun p hp=>by rw [hPn] at hp;cases hp⟩
  ·rw [hLo];exact ad2 (fpo3 b hb)
  ·exact I4'.ok.exfs b (by rw [hEx];exact hb)
  ·exact (I4'.ok.exf b (by rw [hEx];exact hb)).2
 have loop:codeAny (model X.prog X.w) X.A (.compLoop (.ListComp elt [⟨tg,iter,ifs,0⟩] scope pos) 0 (.ref it) (.ref s2.heap.objs.size) X'.env)
  (compPost (model X.prog X.w) X.A X.xe none (EP X pins σ Q) (.ref s2.heap.objs.size) g3.objs.size) { s2 with heap:=h₁,toks:=s2.toks+([]:List (Str×Value)).length }:=by
  rw [← hPr,← hWr,← hAr];refine jF (fun n s'=>∃ i ys H',Inv X' [] (cz nl ix σ) H' s'/\tn i s'.heap/\(∀ b∈fp,H' b=none)/\W i n ys H') ?_ m0
   ⟨0,[],_,I4',T.keep _ _ _ st2 (fun b hb o e=>old b o (by rw [← hS3];exact adH _ e)),fun b hb=>(f3 b hb).1,w0⟩
  rintro n s5 ⟨i,ys,H5,I5,st5,fr5,w5⟩;obtain⟨hD5,alt⟩:=turn i n ys H5 w5;rcases alt with ⟨stop,qn⟩ | ⟨go,step⟩
  ·rw [hPr,hWr];refine thn (T.done X' hPr hWr hKr hCa i [] s5 _ H5 _ I5 (stat fr5) st5 stop) fun r s6 ⟨hr,I6⟩=>?_;subst hr;obtain⟨m,hn,_⟩:=I6.loc;rw [hLo] at hn;exact⟨m,hn,fun h' sb=>⟨.ref s2.heap.objs.size,H5,back I6 sb,rfl,qn⟩⟩
  ·have it5:=T.item X' hPr hWr hKr hCa i [] s5 _ H5 (fun _ _=>False) I5 (stat fr5) st5 go;rw [← hPr,← hWr] at it5;refine thn it5 fun r s6 ⟨u,hr,h6⟩=>?_;subst hr;refine thn h6 fun _ s7 ⟨x,H7,I7,r7,y7,st7,fr7⟩=>?_;have I7':=I7.pinned (stat fr7) (T.obj _ _ st7);have g7:=hg' _ s7 _ H7 x u _ I7' r7 (step x H7 y7);rw [hXe] at g7;refine thn g7 fun _ s8 ⟨σ8,H8,I8,⟨hl8,hd8⟩,q8⟩=>?_;have f8:=hf' _ s8 σ8 H8 _ I8 q8;rw [hXe] at f8;refine thn f8 fun ok s9 ⟨H9,I9,q9⟩=>?_;have again:∀ {H10:Hp} {s10:Shared} {ys':List V},Inv X' ([]++fz fp s7.heap) σ8 H10 s10->(∃ m',m' < n/\W (i+1) m' ys' H10)->∃ m,m < n/\∃ i ys H',Inv X' [] (cz nl ix σ) H' s10/\tn i s10.heap/\(∀ b∈fp,H' b=none)/\W i m ys H':=fun {H10 s10 ys'} I10 ⟨m',hm,w'⟩=>by
    refine⟨m',hm,i+1,ys',H10,gL I10.unpinned hl8 hd8,T.keep _ _ _ st7 fun b hb o e=>(I10.pin (b,o) (adP _ (adP _ (aR hb e)))).1,fun b hb=>?_,w'⟩;obtain⟨o,e,d⟩:=T.obj _ _ st7 b hb;exact (I10.pin (b,o) (adP _ (adP _ (aR hb e)))).2.1
   cases ok with
   | false =>
    rw [if_neg adM] at q9 ⊢;exact again I9 q9
   | true =>
    rw [if_pos rfl] at q9 ⊢;have e9:=he' _ s9 σ8 H9 _ I9 q9;rw [hXe] at e9;refine thn e9 fun xv s10 ⟨y,H10,I10,r10,hD10,hz,mw⟩=>?_;have a10:=dm (X:=X') _ s10 σ8 H10 (.ref s2.heap.objs.size) [y] _ [xv] (fun _ H'=>H'=upd H10 s2.heap.objs.size (.lst (ys++[y]))) I10 rfl (.cons r10 .nil) ⟨_,ys,y,rfl,rfl,hD10,hz,rfl⟩;rw [hXe] at a10;refine thn a10 fun _ s11 ⟨_,H11,I11,_,e11⟩=>?_;subst e11;exact again I11 mw
 rw [hEn] at loop;exact afX loop (T.self _ 0 _ _ _ (T.keep _ _ _ st2 (fun b hb o e=>old b o (by rw [← hS3];exact adH _ e))) loop)
theorem il:∀ {ss:List Str} {us:List Value},Vals (ss.map V.str) us->StrsAre us ss
 | [],_,.nil=>.nil
 | _::_,_,.cons r t=>by
  obtain⟨k,rfl⟩:=r;exact .cons _ k (il t)
theorem jQ:∀ {ss:List Str} {us:List Value},StrsAre us ss->Vals (ss.map V.str) us
 | _,_,.nil=>.nil
 | _,_,.cons y t h=>.cons ⟨t,rfl⟩ (jQ h)
theorem tP:∀ bs:List Bool,(List.range bs.length).all (fun i=>bs.getD i false)=bs.all id
 | []=>rfl
 | b::r=>by
  rw [aef,List.range_succ_eq_map,agP,af6,agP,← tP r]
  rfl
theorem kP (hc:X.calm=true):gX X (.builtin "all") (fun xs H Q=>∃ (p:Addr) (bs:List Bool),xs=[.ref p]/\SqL X.K H p (bs.map V.bl)/\Q (.bl (bs.all id)) H):=by
 intro pins s σ H xs us Q I r h;obtain⟨p,bs,rfl,hq,q⟩:=h;obtain⟨u,rfl,rx⟩:=ja r;cases rx;obtain⟨its,rv,pl,hz⟩:=I.list hq;have hh:X.A.in1.handled=none:=I.ok.hd hc;have hlt:p < s.heap.objs.size:=by obtain⟨o,e,_⟩:=pl.isList;exact adQ e
 have hlen:=rv.length;rw [adG] at hlen;refine call_all_walk (agE pl.isList ?_);refine⟨s.heap.objs.size,_,_,_,_,_,fun i=>bs.getD i false,rfl,Walks.list hh s.heap.objs.size p (ad2 hlt) its.toArray,⟨⟨_,adX _ rfl,rfl,rfl⟩,pl.isList.push _⟩,fun i v s' Q' E' hv hq'=>?_,fun h' tk hk=>?_⟩
 ·have hv':its[i]? = some v:=by simpa using hv
  have hi:i < its.length:=(adF.mp hv').1;have hb:bs[i]? = some (bs.getD i false):=by
   rw [aeW];rw [adD (by lia)]
   rfl
  obtain⟨u,hu,ru⟩:=rv.get (i:=i) (x:=.bl (bs.getD i false)) (by rw [adK,hb];rfl);rw [hv'] at hu;cases hu;cases ru;exact aeG hq'
 ·have e:(List.range its.toArray.size).all (fun i=>bs.getD i false)=bs.all id:=by
   rw [ad3,← hlen,tP]
  rw [e];refine⟨.bl _,H,?_,rfl,q⟩;refine (I.kept (t':=s.toks) (h':=s.heap.push { cls:=.type "list_iterator",data:=.fields #[.ref p,.int 0 0] }) fun b o e=>adH _ e).turned (it:=s.heap.objs.size) (t':=tk) (h':=h') (fun b o hb e=>hk b o (by simpa using hb) e) I.fresh (af5 I.lt) (.inr I.sz) (fun x c e z=>?_) fun p' hp z=>?_
  ·obtain⟨v,q⟩:=I.cell x c e;exact absurd (z▸q.lt) (aez _)
  ·exact absurd (z▸adQ (I.pin p' hp).1) (aez _)
theorem mD:gX X (.builtin "sorted") (fun xs H Q=>∃ (p:Addr) (ss:List Str),xs=[.ref p]/\SqL X.K H p (ss.map V.str)/\ss.length < 64/\∀ (l:Addr) (ss':List Str),H l=none->ss'.Perm ss->sortedS ss'=true->Q (.ref l) (upd H l (.lst (ss'.map V.str)))):=by
 intro pins s σ H xs us Q I r h;obtain⟨p,ss,rfl,hq,hl,q⟩:=h;obtain⟨u,rfl,rx⟩:=ja r;cases rx;obtain⟨its,rv,pl,hz⟩:=I.list hq;have hlen:=rv.length;rw [adG] at hlen;refine sorted_strs pl.isList (il rv) (by lia) fun out ss' a1 a2 a3=>?_;obtain⟨e,he⟩:=sortedAll_at s.heap its out;have hlen':ss'.length=ss.length:=a2.length_eq;refine⟨.ref (s.heap.objs.size+1),_,I.laid (t':=s.toks) (o:=.lst (ss'.map V.str)) (fun b o e=>sortedAll_old e) (ae7 _) ⟨?_,out.toList,e,jQ a1,?_⟩,rfl,q _ ss' (I.hok.fresh (ae7 _)) a2 a3⟩
 ·rw [adG];exact afb (adU (by lia:ss'.length < 64) (by decide))
 ·simpa using he
def abw:V->List V->Hp->VK->Prop:=fun x vs H Q=>∃ (l:Addr) (ss:List Str) (k:Str),x=.ref l/\vs=[.str k]/\H l=some (.lst (ss.map V.str))/\Q (.int (ss.count k)) H
theorem r9 (k:Str):∀ ss:List Str,countIn (.str k) (ss.map PyData.str)=((ss.count k:Nat):Int):=by
 intro ss
 induction ss with
 | nil=>rfl
 | cons y r ih =>
  rw [adS,countIn,ih,List.count_cons];by_cases e:y=k
  ·subst e;have e1:same (.str y) (.str y)=true:=same_refl _;rw [if_pos e1,afi,if_pos rfl];lia
  ·have e1:¬ same (.str y) (.str k)=true:=by simpa [same] using e
   have e2:(y == k)=false:=by simpa using e
   rw [if_neg e1,e2];simp
theorem iu:MtM X "list.count" abw:=by
 intro pins s σ H x vs v us Q I rx rv h;obtain⟨l,ss,k,rfl,rfl,hH,q⟩:=h;cases rx;obtain⟨u,rfl,t,rfl⟩:=rv.one;obtain⟨its,r,pl,hz⟩:=I.list (aAA hH);refine count_list_strs pl.isList (il r) ⟨.int (ss.count k),H,I.tok _,⟨s.toks,?_⟩,q⟩;rw [r9]
end
mutual
inductive Sees (H:Hp):V->PyData->Prop
 | non:Sees H .non .none
 | bl (b:Bool):Sees H (.bl b) (.bool b)
 | int (i:Int):Sees H (.int i) (.int i)
 | str (x:Str):Sees H (.str x) (.str x)
 | lst {a:Addr} {vs:List V} {ds:List PyData}:H a=some (.lst vs)->SeesAll H vs ds->Sees H (.ref a) (.list ds)
 | tup {a:Addr} {vs:List V} {ds:List PyData}:H a=some (.tup vs)->SeesAll H vs ds->Sees H (.ref a) (.tuple ds)
inductive SeesAll (H:Hp):List V->List PyData->Prop
 | nil:SeesAll H [] []
 | cons {v:V} {vs:List V} {d:PyData} {ds:List PyData}:Sees H v d->SeesAll H vs ds->SeesAll H (v::vs) (d::ds)
end
mutual
theorem Sees.reads {P:Program}{w:World}{H:Hp}{h:Heap}(ok:HOk P w H h):∀ {d:PyData} {v:V} {u:Value},Sees H v d->RelV v u->∃ as,Reads h u d as
 | _,_,_,.non,r=>by cases r;exact⟨_,.none⟩
 | _,_,_,.bl b,r=>by cases r;exact⟨_,.bool b⟩
 | _,_,_,.int i,r=>by obtain⟨t,rfl⟩:=r;exact⟨_,.int i t⟩
 | _,_,_,.str x,r=>by obtain⟨t,rfl⟩:=r;exact⟨_,.str x t⟩
 | _,_,_,.lst e q,r=>by
  cases r;obtain⟨_,its,n,rv,g⟩:=ok _ _ e;obtain⟨as,ra⟩:=SeesAll.reads ok q rv;exact⟨_,.list g rfl rfl (by simpa using ra)⟩
 | _,_,_,.tup e q,r=>by
  cases r;obtain⟨_,its,rv,o,g,hc,n,hd⟩:=ok _ _ e;obtain⟨as,ra⟩:=SeesAll.reads ok q rv;exact⟨_,.tuple g hc hd (by simpa using ra)⟩
theorem SeesAll.reads {P:Program}{w:World}{H:Hp}{h:Heap}(ok:HOk P w H h):∀ {ds:List PyData} {vs:List V} {us:List Value},SeesAll H vs ds->Vals vs us->∃ as,ReadsAll h us ds as
 | _,_,_,.nil,r=>by cases r;exact⟨_,.nil⟩
 | _,_,_,.cons a b,r=>by
  cases r with
  | cons r1 r2 =>
   obtain⟨_,x⟩:=Sees.reads ok a r1;obtain⟨_,y⟩:=SeesAll.reads ok b r2;exact⟨_,.cons x y⟩
end
mutual
theorem Sees.same {H H':Hp}:∀ {d:PyData} {v:V},(∀ b o,H b=some o->(∃ xs,o=.lst xs\/o=.tup xs)->H' b=some o)->Sees H v d->Sees H' v d
 | _,_,_,.non=>.non
 | _,_,_,.bl b=>.bl b
 | _,_,_,.int i=>.int i
 | _,_,_,.str x=>.str x
 | _,_,k,.lst e q=>.lst (k _ _ e ⟨_,.inl rfl⟩) (SeesAll.same k q)
 | _,_,k,.tup e q=>.tup (k _ _ e ⟨_,.inr rfl⟩) (SeesAll.same k q)
theorem SeesAll.same {H H':Hp}:∀ {ds:List PyData} {vs:List V},(∀ b o,H b=some o->(∃ xs,o=.lst xs\/o=.tup xs)->H' b=some o)->SeesAll H vs ds->SeesAll H' vs ds
 | _,_,_,.nil=>.nil
 | _,_,k,.cons a b=>.cons (Sees.same k a) (SeesAll.same k b)
end
theorem SeesAll.strs {H:Hp}:∀ ss:List Str,SeesAll H (ss.map V.str) (ss.map PyData.str)
 | []=>.nil
 | s::r=>.cons (.str s) (SeesAll.strs r)
section
variable {X:Cx}
def zP (A:Around)(neg:Bool):R2:=fun x y H Q=>∃ da db,Sees H x da/\Sees H y db/\da.canLay0=true/\db.canLay0=true/\A.units+min da.depth db.depth < cLine/\Q (.bl (if neg then !PyData.eqv da db else PyData.eqv da db)) H
theorem vU:OpR X (compareOp .Eq) (zP X.A false):=by
 intro pins s σ H x y v u Q I rx ry h;obtain⟨da,db,sa,sb,la,lb,hu,q⟩:=h;obtain⟨_,ra⟩:=sa.reads I.hok rx;obtain⟨_,rb⟩:=sb.reads I.hok ry;exact SeqAt.rcAt_reads ra rb la lb hu _ _ _ _ ⟨.bl _,H,I,rfl,q⟩
theorem nY:OpR X (compareOp .NotEq) (zP X.A true):=by
 intro pins s σ H x y v u Q I rx ry h;obtain⟨da,db,sa,sb,la,lb,hu,q⟩:=h;obtain⟨_,ra⟩:=sa.reads I.hok rx;obtain⟨_,rb⟩:=sb.reads I.hok ry;exact SeqAt.compareNe_reads ra rb la lb hu ⟨.bl _,H,I,rfl,q⟩
def Itn (n:Nat)(val:Nat->V->Prop):It:=⟨fun i _=>i < n,fun i H x H'=>H'=H/\val i x,fun i _=>i=n⟩
theorem nG {P:Program}{w:World}{K:PySem.W.Frag}{x:Str}{p:Pos}{I:Addr}{n:Nat}{Pv:Nat->Value->Prop}{St:Nat->Heap->Prop}{val:Nat->V->Prop}
 (W:∀ A':Around,A'.handled=none->Walks P w A' I [I] [I] n Pv St)(ho:∀ i h,St i h->∃ o,h.get? I=some o/\∀ v,o.data≠.cell v)(hv:∀ i u,Pv i u->∃ v,RelV v u/\val i v)
 (hself:∀ (A:Around) (i:Nat) (s:Shared) (Q:Value->Shared->Prop) (E:Value->Shared->Prop),St i s.heap->Q (.ref I) s->wpAny (model P w) A (pyIter (.ref I)) Q E s) :
 zg P w K (.Name x p) (Itn n val) [I] I St where
 mem:=by simp
 obj:=fun i h st b hb=>by
  have e:b=I:=by simpa using hb
  subst e;exact ho i h st
 keep:=fun i h h' st k=>(W { handled:=none,depth:=0,frames:=none,guards:=none,units:=0 } rfl).frame i h h' st k
 item:=by
  intro X hP hw hK hc i pins s σ H E J hf st hg;subst hP hw hK;obtain⟨f0,f1,f2,f3,f4,f5⟩:=hf I (by simp);refine (W X.A (J.ok.hd hc)).item i s _ _ hg st fun v h' tk hPv st' kk=>?_;obtain⟨y,ry,vy⟩:=hv i v hPv;have J1:Inv X pins σ H { s with heap:=h',toks:=tk }:=J.turned (fun b o hb e=>kk b o (by simpa using hb) e) f0 f1 f3 f4 f5;exact⟨v,rfl,adJ ⟨y,H,J1,ry,⟨rfl,vy⟩,st',fun b hb=>(hf b hb).1⟩⟩
 done:=by
  intro X hP hw hK hc i pins s σ H E J hf st hg;subst hP hw hK;obtain⟨f0,f1,f2,f3,f4,f5⟩:=hf I (by simp);have e:i=n:=hg;subst e;exact (W X.A (J.ok.hd hc)).done s _ _ st fun h' tk kk=>⟨rfl,J.turned (fun b o hb e=>kk b o (by simpa using hb) e) f0 f1 f3 f4 f5⟩
 self:=hself
theorem lA {h:Heap}{I:Addr}{n:String}{x:Str}{t:Tok}{i:Nat}(st:h.IsStrIter I n x t i):∃ o,h.get? I=some o/\∀ v,o.data≠.cell v:=by
 obtain⟨o,e,_,d⟩:=st;exact⟨o,e,fun v z=>by rw [d] at z;cases z⟩
def ItS (z:Str):It:=Itn z.cps.size fun i v=>∃ c,z.cps[i]? = some c/\v=.str ⟨#[c]⟩
def adj (tl:TE):TI:=fun σ H R=>tl σ H fun x H1=>∃ z,x=.str z/\R (ItS z) H1
theorem tV {z:Str}(i:Nat)(u:Value)(h:SignAt z i u):∃ v,RelV v u/\∃ c,z.cps[i]? = some c/\v=.str ⟨#[c]⟩:=by
 obtain⟨c,t,e,rfl⟩:=h;exact⟨.str ⟨#[c]⟩,⟨t,rfl⟩,c,e,rfl⟩
theorem abT {l:Expr}{tl:TE}{x:Str}{p:Pos}(hl:PE X l tl):PI X (.Name x p) l (adj tl):=by
 intro pins s σ H R I h;refine thn (hl pins s σ H _ I h) fun v s1 ⟨y,H1,I1,r1,q1⟩=>?_;obtain⟨z,rfl,q⟩:=q1;obtain⟨t,rfl⟩:=r1;have fin:∀ (o:Obj),Inv X pins σ H1 { s1 with heap:=s1.heap.push o }:=fun o=>I1.kept (t':=s1.toks) fun b o e=>adH _ e;have ff:∀ b∈[s1.heap.objs.size],jE X pins H1 b:=fun b hb=>by
  have e:b=s1.heap.objs.size:=by simpa using hb
  subst e;exact I1.fpOk (adL _) I1.fresh
 cases ha:z.cps.all (· < 128)
 ·refine wpAny_pyIter_wide ha ⟨s1.heap.objs.size,[s1.heap.objs.size],_,ItS z,H1,rfl,fin _,nG (fun A' hA=>Walks.strWide hA _ z t) (fun i h st=>lA st) tV (fun A i s Q E st h=>wpAny_pyIter_striter_wide st h),⟨_,adX _ rfl,rfl,rfl⟩,ff,q⟩
 ·refine wpAny_pyIter_ascii ha ⟨s1.heap.objs.size,[s1.heap.objs.size],_,ItS z,H1,rfl,fin _,nG (fun A' hA=>Walks.strAscii hA _ z t) (fun i h st=>lA st) tV (fun A i s Q E st h=>wpAny_pyIter_striter_ascii st h),⟨_,adX _ rfl,rfl,rfl⟩,ff,q⟩
end
def jc (scope outer:Scope):List (Str×NameKind) :=
 scope.names.map fun (n,k)=>if (k == .free && outer.kind == .function && outer.names.lookup n == some .cell) then (n,.cell) else (n,k)
def jf (outer scope:Scope)(N N':List Str)(nl:Nat)(ix:List Nat):Bool :=
 (scope.kind == .function && scope.names.all fun x=>x.2 != .cell && (x.2 != .local || scope.names.lookup x.1 == some .local) && (x.2 != .free || outer.names.lookup x.1 == some .cell)) &&
 (N'.length == nl+ix.length && (List.range ix.length).all fun k=>match ix[k]? with
  | none=>false
  | some j=>match N[j]? with
   | none=>false
   | some x=>N'[nl+k]? == some x && outer.names.lookup x == some .cell && (jc scope outer).lookup x == some .cell && decide ((x,NameKind.free)∈scope.names))
theorem iO {X:Cx}{outer scope:Scope}{N N':List Str}{nl:Nat}{ix:List Nat}(h1:X.env.scope=outer)(h2:X.N=N)(h:jf outer scope N N' nl ix=true):CompScope X scope/\yw X scope N' nl ix:=by
 unfold jf at h;simp only [aei,aes,afh,bne_iff_ne,ahg,ne_eq,ae1] at h;obtain⟨⟨hk,ha⟩,hl,hb⟩:=h;have kd:∀ x,X.env.kindOf x=outer.names.lookup x:=fun x=>by rw [← h1];rfl
 refine⟨⟨hk,fun x hx=>(ha x hx).1.1,fun x hx e=>?_,fun x hx e=>?_⟩,⟨hl,fun k j e=>?_⟩⟩
 ·rcases (ha x hx).1.2 with z | z
  ·exact absurd e z
  ·exact z
 ·rcases (ha x hx).2 with z | z
  ·exact absurd e z
  ·rw [kd];exact z
 ·have hk':k < ix.length:=(adF.mp e).1;have q:=hb k hk';rw [e] at q;simp only at q;cases ex:N[j]? with
  | none=>rw [ex] at q;simp at q
  | some x =>
   rw [ex] at q;simp only [aei,afh,afm] at q;obtain⟨⟨⟨q1,q2⟩,q3⟩,q4⟩:=q;refine⟨x,by rw [h2];exact ex,q1,by rw [kd];exact q2,?_,q4⟩;have er:(relabel scope X.env).names=jc scope outer:=by rw [← h1];rfl
   rw [er];exact q3
def Nx (n i:Nat)(p:Prop):Prop:=∃ m',m' < n - i/\m'=n - (i+1)/\i+1<=n/\p
theorem nx {n i:Nat}{p:Prop}(h:i < n)(q:p):Nx n i p:=⟨n - (i+1),by lia,rfl,h,q⟩
def cE (nl:Nat)(ix:List Nat)(g:TG)(tf:TT)(te:TE)(σ:St)(D:Addr)(ys:List V)(H:Hp)(x:V)(nxt:List V->Hp->Prop):Prop :=
 g x (cz nl ix σ) H fun σ4 H4=>(σ4.length=(cz nl ix σ).length/\σ4.drop nl=ix.map fun j=>(σ[j]?).join)/\tf σ4 H4 fun b H5 =>
  if b=true then te σ4 H5 fun y H6=>H6 D=some (.lst ys)/\ys.length < sizeLine/\nxt (ys++[y]) (upd H6 D (.lst (ys++[y]))) else nxt ys H5
def gQ (nl:Nat)(ix:List Nat)(g:TG)(tf:TT)(te:TE)(σ:St)(J:It)(H1:Hp)(D:Addr)(Q:VK):Prop :=
 ∃ W:Nat->Nat->List V->Hp->Prop,(∃ m,W 0 m [] (upd H1 D (.lst []))) ∧
 ∀ i m ys H2,W i m ys H2->H2 D=some (.lst ys)/\((J.stop i H2/\Q (.ref D) H2)\/(J.go i H2/\∀ x H3,J.yld i H2 x H3->cE nl ix g tf te σ D ys H3 x fun ys' H'=>∃ m',m' < m/\W (i+1) m' ys' H'))
theorem aQ (nl:Nat)(ix:List Nat)(wi:TI)(g:TG)(tf:TT)(te:TE)(σ:St)(H:Hp)(Q:VK)(h:wi σ H fun J H1=>∀ D,H1 D=none->gQ nl ix g tf te σ J H1 D Q):ll nl ix wi g tf te σ H Q:=h
section
variable {nl:Nat}{ix:List Nat}{g:TG}{tf:TT}{te:TE}{σ:St}{H1:Hp}{D:Addr}{Q:VK}(Pv:Nat->List V->Hp->Prop)
theorem nM {J:It}{n:Nat}(h0:Pv 0 [] (upd H1 D (.lst [])))(hD:∀ i ys H,Pv i ys H->H D=some (.lst ys))(go:∀ i ys H,i < n->Pv i ys H->J.go i H)(stop:∀ ys H,Pv n ys H->J.stop n H)
 (hs:∀ i ys H x H',i < n->Pv i ys H->J.yld i H x H'->cE nl ix g tf te σ D ys H' x fun ys' H'=>Nx n i (Pv (i+1) ys' H'))
 (hd:∀ ys H,Pv n ys H->Q (.ref D) H):gQ nl ix g tf te σ J H1 D Q:=by
 refine⟨fun i m ys H=>m=n - i/\i<=n/\Pv i ys H,⟨n,by simp,ad7 _,h0⟩,?_⟩;rintro i m ys H ⟨rfl,hi,p⟩;refine⟨hD i ys H p,?_⟩;by_cases hlt:i < n
 ·exact .inr ⟨go i ys H hlt p,fun x H' y=>hs i ys H x H' hlt p y⟩
 ·have e:i=n:=by lia
  subst e;exact .inl ⟨stop ys H p,hd ys H p⟩
theorem uC {lo:Int}{n:Nat}(h0:Pv 0 [] (upd H1 D (.lst [])))(hD:∀ i ys H,Pv i ys H->H D=some (.lst ys))
 (hs:∀ i ys H,i < n->Pv i ys H->cE nl ix g tf te σ D ys H (.int (lo+i)) fun ys' H'=>Nx n i (Pv (i+1) ys' H'))(hd:∀ ys H,Pv n ys H->Q (.ref D) H):gQ nl ix g tf te σ (Itr lo n) H1 D Q:=by
 refine nM (n:=n) Pv h0 hD (fun _ _ _ hi _=>hi) (fun _ _ _=>adL _) (fun i ys H x H' hi p y=>?_) hd;obtain⟨e,y⟩:=y;subst e y;exact hs i ys H' hi p
theorem di {K:PySem.W.Frag}{a:Addr}{xs:List V}(h0:Pv 0 [] (upd H1 D (.lst [])))(hD:∀ i ys H,Pv i ys H->H D=some (.lst ys))(hl:∀ i ys H,Pv i ys H->SqL K H a xs)
 (hs:∀ i ys H x,xs[i]? = some x->Pv i ys H->cE nl ix g tf te σ D ys H x fun ys' H'=>Nx xs.length i (Pv (i+1) ys' H'))(hd:∀ ys H,Pv xs.length ys H->Q (.ref D) H):gQ nl ix g tf te σ (Itl K a) H1 D Q:=by
 refine nM (n:=xs.length) Pv h0 hD (fun i ys H hi p=>⟨xs,xs[i],hl i ys H p,by simp [hi]⟩) (fun ys H p=>⟨xs,hl _ ys H p,adL _⟩) (fun i ys H x H' hi p y=>?_) hd;obtain⟨e,y⟩:=y;subst e;exact hs i ys H' x (y xs (hl i ys H' p)) p
theorem yJ {K:PySem.W.Frag}{a:Addr}{xs:List V}(h0:Pv 0 [] (upd H1 D (.lst [])))(hD:∀ i ys H,Pv i ys H->H D=some (.lst ys))(hl:∀ i ys H,Pv i ys H->SqT K H a xs)
 (hs:∀ i ys H x,xs[i]? = some x->Pv i ys H->cE nl ix g tf te σ D ys H x fun ys' H'=>Nx xs.length i (Pv (i+1) ys' H'))(hd:∀ ys H,Pv xs.length ys H->Q (.ref D) H):gQ nl ix g tf te σ (Itt K a) H1 D Q:=by
 refine nM (n:=xs.length) Pv h0 hD (fun i ys H hi p=>⟨xs,xs[i],hl i ys H p,by simp [hi]⟩) (fun ys H p=>⟨xs,hl _ ys H p,adL _⟩) (fun i ys H x H' hi p y=>?_) hd;obtain⟨e,y⟩:=y;subst e;exact hs i ys H' x (y xs (hl i ys H' p)) p
theorem yq {z:Str}(h0:Pv 0 [] (upd H1 D (.lst [])))(hD:∀ i ys H,Pv i ys H->H D=some (.lst ys))
 (hs:∀ i ys H c,z.cps[i]? = some c->Pv i ys H->cE nl ix g tf te σ D ys H (.str ⟨#[c]⟩) fun ys' H'=>Nx z.cps.size i (Pv (i+1) ys' H'))(hd:∀ ys H,Pv z.cps.size ys H->Q (.ref D) H):gQ nl ix g tf te σ (ItS z) H1 D Q:=by
 refine nM (n:=z.cps.size) Pv h0 hD (fun _ _ _ hi _=>hi) (fun _ _ _=>rfl) (fun i ys H x H' hi p y=>?_) hd;obtain⟨e,c,ec,ex⟩:=y;subst e ex;exact hs i ys H' c ec p
end
section
variable {X:Cx}{K:PySem.W.Frag}
theorem pE (hK:X.K=K):IxR X (ada K):=by subst hK;exact bR
theorem sU (hK:X.K=K):IxR X (ac0 K):=by subst hK;exact eY
theorem lV (hK:X.K=K):gX X (.builtin "len") (fun xs H Q=>∃ p ys,xs=[.ref p]/\(SqL K H p ys\/SqT K H p ys)/\Q (.int ys.length) H):=by subst hK;exact aB
theorem i6 {pos:Pos}{es:List Expr}{k:Nat}{t:TGs}{n:Nat}(hK:X.K=K)(hc:X.calm=true)(h:PGs X es t)(hn:(assignEach es X.env).length=n:=by rfl)(hst:(assignEach es X.env).findIdx? (·.1)=none:=by rfl):PG X (.Tuple es k pos) (abY K n t):=by
 subst hK;exact kh hc h hn hst
end
theorem fh {nl:Nat}{ix:List Nat}{te:TE}{σ:St}{D:Addr}{ys:List V}{H:Hp}{x:V}{nxt:List V->Hp->Prop}{i:Nat}(h1:((cz nl ix σ).set i (some x)).drop nl=ix.map fun j=>(σ[j]?).join)
 (h:te ((cz nl ix σ).set i (some x)) H fun y H6=>H6 D=some (.lst ys)/\ys.length < sizeLine/\nxt (ys++[y]) (upd H6 D (.lst (ys++[y])))):cE nl ix (cw i) tZ te σ D ys H x nxt:=by
 unfold cE cw tZ;dsimp only;rw [if_pos rfl];exact⟨⟨by simp,h1⟩,h⟩
section
variable {X:Cx}
theorem aO:gX X (.builtin "isinstance") (fun xs H Q=>∃ (x:V) (T:String) (t:Value) (b:Bool),xs=[x,.ty T]/\uX X.K H x t/\kitOne X.K t (.type T)=some b/\Q (.bl b) H):=by
 intro pins s σ H xs us Q I r h;obtain⟨x,T,t,b,rfl,ty,e,q⟩:=h;obtain⟨u,v,rfl,rx,ry⟩:=aaz r;cases ry;exact xG I rx ty e fun tk=>⟨.bl b,H,I.tok _,rfl,q⟩
theorem de (K:PySem.W.Frag)(n:String):kitOne K (.type n) (.type n)=some true:=by
 unfold kitOne;rw [if_pos (by simp)]
end
def acD (h:Heap)(e T:Addr)(cls a0:Value):Prop :=
 ∃ oe vs oT ts,h.get? e=some oe/\(oe.cls=cls/\vs[0]? = some a0)/\oe.data=.fields vs/\vs[1]? = some (.ref T)/\T≠e/\h.get? T=some oT/\oT.data=.fields ts/\ts[3]? = some .none
def CXr (P:Program)(w:World):CXT:=fun outer H s E ev s'=>∃ (e T:Addr) (cls a0:Value) (H':Hp),ev=.ref e/\s'.os=s.os/\AllBare s'.gens/\Un (frs outer) [] H H' s.heap s'.heap/\HOk P w H' s'.heap ∧
 acD s'.heap e T cls a0/\s.heap.get? e=none/\s.heap.get? T=none/\H' e=none/\H' T=none/\E cls none H'
theorem ObjOk.obj {P:Program}{w:World}{H:Hp}{h:Heap}{a:Addr}{o:HO}(x:ObjOk P w H h a o):∃ ob,h.get? a=some ob:=by
 cases o with
 | lst xs=>obtain⟨_,_,_,_,e⟩:=x;exact⟨_,e⟩
 | tup xs=>obtain⟨_,_,_,o,e,_⟩:=x;exact⟨_,e⟩
 | dK kvs=>obtain⟨_,_,_,_,o,_,_,e,_⟩:=x;exact⟨_,e⟩
 | dT kvs=>obtain⟨_,_,_,_,o,_,_,e,_⟩:=x;exact⟨_,e⟩
 | set S n=>obtain⟨o,_,_,_,e,_⟩:=x;exact⟨_,e⟩
 | ins C dx fs=>obtain⟨_,_,_,e,_⟩:=x;exact⟨_,e⟩
 | own y=>exact x
 | xd fs=>obtain⟨_,⟨_,_,_,e,_⟩,_⟩:=x;exact⟨_,e⟩
 | rng lo hi=>obtain⟨_,_,_,e⟩:=x;exact⟨_,e⟩
 | frz ob u=>obtain⟨e,_⟩:=x;exact⟨_,e⟩
 | tbl ps=>exact⟨_,x⟩
 | met f y=>exact⟨_,x⟩
 | ext φ=>exact x.2.1
def iJ (h:Heap)(l:List Addr):Heap:=hideAll h l
theorem mr {h base:Heap}{L:List Addr}:∀ {l:List Env},h.FunFrames base l->(∀ b∈frs l,b∈L)->h.FunFrames (iJ h L) l
 | [],_,_=>True.intro
 | env::outer,x,s=>by
  unfold Heap.FunFrames at x ⊢;obtain⟨k,⟨F,o,f,_,g,d⟩,r⟩:=x;have hF:F∈frs (env::outer):=by unfold frs;rw [afd,f];exact adV
  exact⟨k,⟨F,o,f,afa _ (s F hF),g,d⟩,mr r fun b hb=>s b (by unfold frs at hb ⊢;rw [afd,f];exact adN _ hb)⟩
theorem HOk.left {P:Program}{w:World}{H:Hp}{h h':Heap}{L:List Addr}(x:HOk P w H h)(n:∀ b∈L,H b=none)(k:(iJ h L).StaysIn h'):HOk P w H h':=fun a o q=>by
 refine (x a o q).stay (fun b u hb g=>k b u (afp _ g fun z=>?_)) (fun _ z=>z) fun _ _ z=>z;have hn:=n b z;rcases hb with e | e
 ·rw [e,q] at hn;cases hn
 ·rw [e] at hn;cases hn
theorem lq {h h':Heap}{base:Heap}{l:List Env}(x:h.FunFrames base l)(k:∀ b o,h.get? b=some o->(∀ vs,o.data≠.fields vs)->∃ sl,h'.get? b=some { o with slots:=sl }){b:Addr}{o:Obj}(hb:b∈frs l)(e:h.get? b=some o):∃ sl,h'.get? b=some { o with slots:=sl }:=by
 obtain⟨_,o',e',d⟩:=x.mem hb;rw [e] at e';cases e';exact k b o e d
section
variable {P:Program}{w:World}{K:PySem.W.Frag}{mg:Str->Option Value}{base:Heap}{N:List Str}{qual:Str}{scope:Scope}{f:Addr}{cd:Value}{A:Around}{outer:List Env}{s:Shared}{H:Hp}{E0:XK}
theorem zY {pins:List (Addr×Obj)}{σ:St}{H2:Hp}{s2:Shared}{h':Heap}{e T:Addr}{cls a0:Value}(J:Inv (pM (CXr P w) P w K mg base N qual scope f cd A outer s H E0) pins σ H2 s2)
 (ne:H2 e=none)(nT:H2 T=none)(ge:s.heap.get? e=none)(gT:s.heap.get? T=none)
 (L:Heap.LeftW (iJ s2.heap (e::T::frs (envOfC qual scope s.heap.objs.size f cd::outer))) (envOfC qual scope s.heap.objs.size f cd::outer) e cls a0 s2.heap h')(q:E0 cls none H2):CXr P w outer H s E0 (.ref e) { s2 with heap:=h' }:=by
 obtain⟨st,fn,⟨oe,vs,T',oT,ts,g1,g2,g3,g4,g5,g6,g7,g8,g9⟩,kp⟩:=L;have hst:=J.stack;have sf:∀ b∈frs (envOfC qual scope s.heap.objs.size f cd::outer),H2 b=none:=J.stkFree;have nl:∀ b∈e::T::frs (envOfC qual scope s.heap.objs.size f cd::outer),H2 b=none:=fun b hb=>by
  rcases adO.mp hb with z | hb
  ·rw [z];exact ne
  ·rcases adO.mp hb with z | hb
   ·rw [z];exact nT
   ·exact sf b hb
 have fsub:∀ b∈frs outer,b∈frs (envOfC qual scope s.heap.objs.size f cd::outer):=fun b hb=>by
  unfold frs at hb ⊢;rw [afd];split
  ·exact hb
  ·exact adN _ hb
 have locs:∀ b∈frs (envOfC qual scope s.heap.objs.size f cd::outer),b=s.heap.objs.size\/b∈frs outer:=fun b hb=>adO.mp (J.stkSub b hb);have notF:∀ b∈frs (envOfC qual scope s.heap.objs.size f cd::outer),b≠T':=fun b hb z=>by
  obtain⟨_,o',e',d⟩:=fn.mem hb;rw [z,g7] at e';cases e';exact d _ g8
 have inB:∀ b o,s2.heap.get? b=some o->b≠e->b≠T->b ∉ frs (envOfC qual scope s.heap.objs.size f cd::outer)->(iJ s2.heap (e::T::frs (envOfC qual scope s.heap.objs.size f cd::outer))).get? b=some o:=fun b o g h1 h2 h3=>afp _ g fun z=>by
  rcases adO.mp z with z | z
  ·exact h1 z
  ·rcases adO.mp z with z | z
   ·exact h2 z
   ·exact h3 z
 have hb:=J.base;have old:∀ b o,s.heap.get? b=some o->b≠e/\b≠T/\b≠s.heap.objs.size:=fun b o g=>⟨(fun z=>by rw [z,ge] at g;cases g),(fun z=>by rw [z,gT] at g;cases g),fun z=>aez _ (z▸adQ g)⟩;have step:∀ b o,s2.heap.get? b=some o->b≠e->b≠T->∃ sl,h'.get? b=some { o with slots:=sl }:=fun b o g h1 h2=>by
  by_cases h3:b∈frs (envOfC qual scope s.heap.objs.size f cd::outer)
  ·exact lq hst kp h3 g
  ·exact⟨o.slots,st b o (inB b o g h1 h2 h3)⟩
 refine⟨e,T',cls,a0,H2,rfl,J.os,J.bare,⟨fun b o g n hf hx=>?_,fun b o g n hf hx=>?_,hb.free,fun b o g hx=>?_,hb.tups,hb.frzs,hb.tbls⟩,J.hok.left nl st,⟨oe,vs,oT,ts,g1,g2,g3,g4,g6,g7,g8,g9⟩,ge,?_,ne,?_,q⟩
 ·obtain⟨h1,h2,h3⟩:=old b o g;refine st b o (inB b o (hb.keep b o g n hf hx) h1 h2 fun z=>?_);rcases locs b z with z | z
  ·exact h3 z
  ·exact hf z
 ·obtain⟨h1,h2,h3⟩:=old b o g;obtain⟨sl,g'⟩:=hb.slot b o g n hf hx;obtain⟨sl',g''⟩:=step b _ g' h1 h2;exact⟨sl',g''⟩
 ·obtain⟨h1,h2,h3⟩:=old b o g;obtain⟨o',g'⟩:=hb.there b o g hx;obtain⟨sl',g''⟩:=step b _ g' h1 h2;exact⟨_,g''⟩
 ·cases g:s.heap.get? T' with
  | none=>rfl
  | some o =>
   obtain⟨h1,h2,h3⟩:=old T' o g;obtain⟨o',g'⟩:=hb.there T' o g (by show T' ∉ ([]:List Addr);simp);have:=inB T' o' g' h1 h2 fun z=>notF T' z rfl;rw [g5] at this;cases this
 ·cases g:H2 T' with
  | none=>rfl
  | some o =>
   obtain⟨ob,g'⟩:=(J.hok T' o g).obj;have:=inB T' ob g' g6 (fun z=>by rw [z,nT] at g;cases g) fun z=>notF T' z rfl;rw [g5] at this;cases this
end
structure kA (K:PySem.W.Frag)(C:Addr)(bm:List Value):Prop where
 facts:∃ (nm q:Str) (N:Addr) (bs bmB:List Value) (hdct:Bool) (sn:List Str) (sub:List Value) (ab:Bool) (col:Option Bool) (dd:Option Addr) (k0 k1 k2 k3 k5:Option Value) (B Bn newId nid initId inN:String) (bmN:List Value) (mN:Str->Option Value),
  ExcBaseFacts Bn newId inN bmN/\bmB.contains (.type Bn)=true/\ExcBaseFacts B nid initId bmB/\bm.contains (.type "BaseException")=true/\mN "__init__" = none/\∀ h:Heap,K.In h->h.get? C=some (excClassObj nm q C N bs bm hdct sn sub ab col dd k0 k1 k2 k3 k5 newId)/\h.Ns N mN/\OwnTail h bmB bm
def abt (C:Addr)(E:XK)(t:TA):TS:=fun _ σ H=>t σ H fun vs H1=>vs.length<=sizeLine/\E (.ref C) none H1
section
variable {P:Program}{w:World}{K:PySem.W.Frag}{mg:Str->Option Value}{base:Heap}{N:List Str}{qual:Str}{scope:Scope}{f:Addr}{cd:Value}{A:Around}{outer:List Env}{s:Shared}{H:Hp}{E0:XK}
theorem kZ {x:Str}{C:Addr}{bm:List Value}{np cpos pos:Pos}{a:Expr}{t:TA}(c:kA K C bm)(hg:Gl (pM (CXr P w) P w K mg base N qual scope f cd A outer s H E0) x)(hm:mg x=some (.ref C))
 (ha:PA (pM (CXr P w) P w K mg base N qual scope f cd A outer s H E0) [a] t)(hs:starEach [a] (envOfC qual scope s.heap.objs.size f cd)=[(false,eval a (envOfC qual scope s.heap.objs.size f cd))]:=by rfl)(hdb:(x == ("__debug__" : Str))=false:=by decide) :
 PS (pM (CXr P w) P w K mg base N qual scope f cd A outer s H E0) (.Raise (some (.Call (.Name x np) [a] [] cpos)) none pos) (abt C E0 t):=by
 intro pins s1 σ H1 D I h;obtain⟨nm,q,N',bs,bmB,hdct,sn,sub,ab,col,dd,k0,k1,k2,k3,k5,B,Bn,newId,nid,initId,inN,bmN,mN,f1,f2,f3,f4,f5,g⟩:=c.facts;have hd:(pM (CXr P w) P w K mg base N qual scope f cd A outer s H E0).A.handled=none:=I.ok.hd rfl;refine wpAny_Raise_call_subU (bm:=bm) (N:=N') (nm:=nm) (q:=q) (bs:=bs) (hdct:=hdct) (sn:=sn) (sub:=sub) (ab:=ab) (col:=col) (dd:=dd) (k0:=k0) (k1:=k1) (k2:=k2) (k3:=k3) (k5:=k5) f1 f2 f3 (mN:=mN) f4 hd ?_ f5 (jR I hg hm ⟨rfl,?_⟩ hdb)
 ·show ((backTo cpos (starEach [a] (envOfC qual scope s.heap.objs.size f cd))).any fun x=>x.1)=false;rw [hs]
  rfl
 have e:backTo cpos (starEach [a] (envOfC qual scope s.heap.objs.size f cd))=(false,eval a (envOfC qual scope s.heap.objs.size f cd))::[]:=by rw [hs];rfl
 show wpAny _ _ (evalArgs (.ref C) true (backTo cpos (starEach [a] (envOfC qual scope s.heap.objs.size f cd))) []) _ _ s1;rw [e];refine Calls.evalArgs_plain ?_;rw [← e];refine thn (ha cpos pins s1 σ H1 _ I h) fun us s2 ⟨vs,H2,I2,r,hl,q⟩=>?_;obtain⟨c1,c2,c3⟩:=g s2.heap I2.kIn;refine⟨rfl,by rw [← r.length];exact hl,c1,c2,c3,fun h' ea made=>?_⟩;obtain⟨tt,m1,m2,m3⟩:=made.there;have J:Inv (pM (CXr P w) P w K mg base N qual scope f cd A outer s H E0) pins σ H2 { s2 with heap:=h' }:=I2.kept (t':=s2.toks) made.keeps;have st:=J.stack;have none_of:∀ b,s2.heap.get? b=none->s.heap.get? b=none:=fun b z=>by
  cases g:s.heap.get? b with
  | none=>rfl
  | some o =>
   obtain⟨o',g'⟩:=I2.base.there b o g (by show b ∉ ([]:List Addr);simp);rw [z] at g';cases g'
 have untr:∀ b,s2.heap.get? b=none->H2 b=none:=fun b z=>by
  cases g:H2 b with
  | none=>rfl
  | some o =>
   obtain⟨ob,g'⟩:=(I2.hok b o g).obj;rw [z] at g';cases g'
 show wpAny (model P w) (A.deeper (envOfC qual scope s.heap.objs.size f cd)) (leaving (envOfC qual scope s.heap.objs.size f cd) (.ref ea)) _ _ _;refine wpAny_leaving_firstW (base:=iJ h' (ea::ea::frs (envOfC qual scope s.heap.objs.size f cd::outer))) (L:=s.heap.objs.size) J.ok.frames (mr st fun b hb=>adN _ (adN _ hb)) rfl m1 (fun b o g=>afP _ g) (afa _ adV) rfl rfl rfl fun h2 L=>?_;exact zY J (untr _ made.new) (untr _ made.new) (none_of _ made.new) (none_of _ made.new) L q
end
theorem mP:isSubtype (.type "type") (.type "tuple")=pure false:=by first | rfl | kernel_rfl
theorem qB {M:Model}{A:Around}{E:Value->Shared->Prop}{s:Shared}{C1:Addr}{b:Value}{nm1 q1:Str}{N1:Addr}{bs1 bm1:List Value}{hdct1:Bool}{sn1:List Str}{sub1:List Value}{ab1:Bool}{col1:Option Bool}{dd1:Option Addr}{l0 l1 l2 l3 l5:Option Value}{newId1:String}{Q:Bool->Shared->Prop}
 (hC1:s.heap.get? C1=some (excClassObj nm1 q1 C1 N1 bs1 bm1 hdct1 sn1 sub1 ab1 col1 dd1 l0 l1 l2 l3 l5 newId1))(h:Q ((Value.ref C1::bm1).contains b) s):wpAny M A (isSubtype (.ref C1) b) Q E s:=by
 unfold isSubtype mroOf classData;refine adE (adE (adE (wpAny_load hC1 ?_)));refine adJ (adJ ?_);show wpAny M A (pure ((Value.ref C1::bm1).contains b)) Q E s;exact adJ h
theorem aaX {M:Model}{A:Around}{E:Value->Shared->Prop}{s:Shared}{e C C1:Addr}{oe:Obj}{nm q nm1 q1:Str}{N N1:Addr}{bs bm bs1 bm1:List Value}{hdct hdct1:Bool}{sn sn1:List Str}{sub sub1:List Value}{ab ab1:Bool}{col col1:Option Bool}{dd dd1:Option Addr}{k0 k1 k2 k3 k5 l0 l1 l2 l3 l5:Option Value}{newId newId1:String}{Q:Bool->Shared->Prop}
 (hC:s.heap.get? C=some (excClassObj nm q C N bs bm hdct sn sub ab col dd k0 k1 k2 k3 k5 newId))(hC1:s.heap.get? C1=some (excClassObj nm1 q1 C1 N1 bs1 bm1 hdct1 sn1 sub1 ab1 col1 dd1 l0 l1 l2 l3 l5 newId1))
 (he:s.heap.get? e=some oe)(hc:oe.cls=.ref C1)(hb:bm.contains (.type "BaseException")=true)(hm:(Value.ref C1::bm1).contains (.ref C)=true)(h:Q true s):wpAny M A (excMatches (.ref e) (.ref C)) Q E s:=by
 unfold excMatches isInstance;refine adE (adE (wpAny_typeOf (T := "type") ⟨_,hC,rfl⟩ ?_));rw [mP];refine adJ ?_;show wpAny M A (forIn [Value.ref C] PUnit.unit _ >>= _) Q E s;rw [agm];refine adE (adE (adE ?_));unfold isExcClass isType loadHead;refine adE (adE (wpAny_loadPart hC ?_));refine adJ ?_;show wpAny M A (isSubtype (Value.ref C) (Value.type "BaseException")) _ E s;refine qB hC ?_;have e1:(Value.ref C::bm).contains (.type "BaseException")=true:=by rw [List.contains_cons,hb,Bool.or_true]
 rw [e1];show wpAny M A (pure (ForInStep.yield PUnit.unit)) _ E s;refine adJ ?_;show wpAny M A (pure PUnit.unit) _ E s;refine adJ ?_;refine adE (wpAny_typeOf_ref he ?_);rw [hc];rw [agm];refine adE (adE (adE (qB hC1 ?_)));rw [hm];show wpAny M A (pure (ForInStep.done (some true,()))) _ E s;refine adJ ?_;show wpAny M A (pure (some true,())) _ E s;refine adJ ?_;exact adJ h
def aa1 (a:Addr)(cls:Value):HO:=.ext fun h=>∃ o,h.get? a=some o/\o.cls=cls
abbrev Cx.tried (X:Cx)(pins:List (Addr×Obj))(xe:Value->Shared->Prop):Cx:={ X with pn:=X.pn++pins,xe:=xe }
abbrev Cx.marked (X:Cx)(a:Addr):Cx:={ X with A:=X.A.mark (some (.ref a)),calm:=false,xe:=fun _ _=>False }
section
variable {X:Cx}{pins pins':List (Addr×Obj)}{σ:St}{H:Hp}{s:Shared}{xe:Value->Shared->Prop}{a:Addr}
theorem Inv.tried (I:Inv X pins σ H s)(xe:Value->Shared->Prop):Inv (X.tried pins xe) [] σ H s :=
 ⟨⟨I.ok.mod,I.ok.kind,I.ok.glob,I.ok.blt,I.ok.above,I.ok.inj,I.ok.has,I.ok.cab,I.ok.hd,I.ok.frames,I.ok.stk,I.ok.exf,I.ok.bs,I.ok.bsz,I.ok.noex,I.ok.exfs,I.ok.funs,I.ok.frf⟩,I.os,I.bare,I.base,I.loc,I.cell,I.free,I.freeC,fun p hp=>I.pin p (by simpa using hp),I.hok,I.len⟩
theorem Inv.untried (I:Inv (X.tried pins xe) pins' σ H s):Inv X pins σ H s :=
 ⟨⟨I.ok.mod,I.ok.kind,I.ok.glob,I.ok.blt,I.ok.above,I.ok.inj,I.ok.has,I.ok.cab,I.ok.hd,I.ok.frames,I.ok.stk,I.ok.exf,I.ok.bs,I.ok.bsz,I.ok.noex,I.ok.exfs,I.ok.funs,I.ok.frf⟩,I.os,I.bare,I.base,I.loc,I.cell,I.free,I.freeC,fun p hp=>I.pin p (afI _ hp),I.hok,I.len⟩
theorem SP.untried {D:Ends}{f:Flow}{s':Shared}(h:SP (X.tried pins xe) pins' D f s'):SP X pins D f s':=by
 cases f with
 | next=>obtain⟨σ',H',I,q⟩:=h;exact⟨σ',H',I.untried,q⟩
 | brk=>obtain⟨σ',H',I,q⟩:=h;exact⟨σ',H',I.untried,q⟩
 | cont=>obtain⟨σ',H',I,q⟩:=h;exact⟨σ',H',I.untried,q⟩
 | ret u=>obtain⟨v,σ',H',I,r,q⟩:=h;exact⟨v,σ',H',I.untried,r,q⟩
theorem Inv.marked (I:Inv X pins σ H s)(a:Addr):Inv (X.marked a) pins σ H s :=
 ⟨⟨I.ok.mod,I.ok.kind,I.ok.glob,I.ok.blt,I.ok.above,I.ok.inj,I.ok.has,I.ok.cab,(fun z=>by cases z),I.ok.frames,I.ok.stk,I.ok.exf,I.ok.bs,I.ok.bsz,I.ok.noex,I.ok.exfs,I.ok.funs,I.ok.frf⟩,I.os,I.bare,I.base,I.loc,I.cell,I.free,I.freeC,I.pin,I.hok,I.len⟩
theorem Inv.unmarked (I:Inv (X.marked a) pins σ H s)(hd:X.calm=true->X.A.handled=none):Inv X pins σ H s :=
 ⟨⟨I.ok.mod,I.ok.kind,I.ok.glob,I.ok.blt,I.ok.above,I.ok.inj,I.ok.has,I.ok.cab,hd,I.ok.frames,I.ok.stk,I.ok.exf,I.ok.bs,I.ok.bsz,I.ok.noex,I.ok.exfs,I.ok.funs,I.ok.frf⟩,I.os,I.bare,I.base,I.loc,I.cell,I.free,I.freeC,I.pin,I.hok,I.len⟩
theorem Inv.bend {h':Heap}{t':Nat}{e T:Addr}(I:Inv X pins σ H s)(ne:H e=none)(nT:H T=none)(old:∀ b o,X.s₀.heap.get? b=some o->b ∉ X.ex->b≠e/\b≠T)(pn:∀ p∈X.pn++pins,p.1≠e/\p.1≠T)
 (st:(iJ s.heap (e::T::frs X.stack)).StaysIn h')(kp:∀ b o,s.heap.get? b=some o->(∀ vs,o.data≠.fields vs)->∃ sl,h'.get? b=some { o with slots:=sl }):Inv X pins σ H { s with heap:=h',toks:=t' }:=by
 have hst:=I.stack;have nl:∀ b∈e::T::frs X.stack,H b=none:=fun b hb=>by
  rcases adO.mp hb with z | hb
  ·rw [z];exact ne
  ·rcases adO.mp hb with z | hb
   ·rw [z];exact nT
   ·exact I.stkFree b hb
 have inB:∀ b o,s.heap.get? b=some o->b≠e->b≠T->b ∉ frs X.stack->h'.get? b=some o:=fun b o g h1 h2 h3=>st b o (afp _ g fun z=>by
  rcases adO.mp z with z | z
  ·exact h1 z
  ·rcases adO.mp z with z | z
   ·exact h2 z
   ·exact h3 z)
 have neL:∀ b o,X.s₀.heap.get? b=some o->b≠X.env.locals:=fun b o e=>ad2 (adU (adQ e) I.ok.above);have notF:∀ b,b≠X.env.locals->b ∉ X.fs->b ∉ frs X.stack:=fun b h1 h2 z=>by
  rcases adO.mp (I.stkSub b z) with z | z
  ·exact h1 z
  ·exact h2 z
 have step:∀ b o,s.heap.get? b=some o->b≠e->b≠T->∃ sl,h'.get? b=some { o with slots:=sl }:=fun b o g h1 h2=>by
  by_cases h3:b∈frs X.stack
  ·exact lq hst kp h3 g
  ·exact⟨o.slots,inB b o g h1 h2 h3⟩
 have cellK:∀ c v,s.heap.IsCell c v->h'.IsCell c v:=fun c v ⟨o,ho,hd⟩=>by
  obtain⟨sl,g⟩:=kp c o ho fun vs z=>by rw [hd] at z;cases z
  exact⟨_,g,hd⟩
 refine⟨I.ok,I.os,I.bare,⟨fun b o g n hf hx=>?_,fun b o g n hf hx=>?_,I.base.free,fun b o g hx=>?_,I.base.tups,I.base.frzs,I.base.tbls⟩,?_,fun x c g=>?_,I.free,I.freeC,fun p hp=>?_,I.hok.left nl st,I.len⟩
 ·obtain⟨h1,h2⟩:=old b o g hx;exact inB b o (I.base.keep b o g n hf hx) h1 h2 (notF b (neL b o g) hf)
 ·obtain⟨h1,h2⟩:=old b o g hx;obtain⟨sl,g'⟩:=I.base.slot b o g n hf hx;obtain⟨sl',g''⟩:=step b _ g' h1 h2;exact⟨sl',g''⟩
 ·obtain⟨h1,h2⟩:=old b o g hx;obtain⟨o',g'⟩:=I.base.there b o g hx;obtain⟨sl',g''⟩:=step b _ g' h1 h2;exact⟨_,g''⟩
 ·obtain⟨m,hn,hl⟩:=I.loc;obtain⟨o,es,ep,ho,r⟩:=id hn;obtain⟨sl,g⟩:=kp X.env.locals o ho fun vs z=>by rw [r.1] at z;cases z
  refine⟨m,⟨_,es,ep,g,r⟩,fun i x v e1 e2 e3=>?_⟩;obtain⟨u,rv,l⟩:=hl i x v e1 e2 e3;refine⟨u,rv,?_⟩;rcases l with l | ⟨k,c,hc,hi⟩
  ·exact .inl l
  ·exact .inr ⟨k,c,hc,cellK c _ hi⟩
 ·obtain⟨v,hv⟩:=I.cell x c g;exact⟨v,cellK c v hv⟩
 ·obtain⟨p1,p2,p3,p4,p5⟩:=I.pin p hp;obtain⟨h1,h2⟩:=pn p hp;exact⟨inB p.1 p.2 p1 h1 h2 (notF p.1 p3 p4),p2,p3,p4,p5⟩
theorem Inv.track {e:Addr}{oe:Obj}(I:Inv X pins σ H s)(ne:H e=none)(ge:s.heap.get? e=some oe)(old:∀ b o,X.s₀.heap.get? b=some o->b ∉ X.ex->b≠e)(pn:∀ p∈X.pn++pins,p.1≠e)(nl:e≠X.env.locals)(nc:∀ x c,X.env.cells.lookup x=some c->c≠e):Inv X pins σ (upd H e (aa1 e oe.cls)) s:=by
 have up:∀ b u,H b=some u->(upd H e (aa1 e oe.cls)) b=some u:=fun b u g=>by rw [aj (aq g ne)];exact g
 refine⟨I.ok,I.os,I.bare,⟨I.base.keep,I.base.slot,fun b o g n hx=>?_,I.base.there,fun b xs g=>up _ _ (I.base.tups b xs g),fun b o u g=>up _ _ (I.base.frzs b o u g),fun b ps g=>?_⟩,I.loc,I.cell,?_,fun x c g=>?_,fun p hp=>?_,fun b u g=>?_,I.len⟩
 ·rw [aj (old b o g hx)];exact I.base.free b o g n hx
 ·obtain⟨more,q⟩:=I.base.tbls b ps g;exact⟨more,up _ _ q⟩
 ·rw [aj (aeL nl)];exact I.free
 ·rw [aj (nc x c g)];exact I.freeC x c g
 ·obtain⟨p1,p2,p3,p4,p5⟩:=I.pin p hp;exact⟨p1,by rw [aj (pn p hp)];exact p2,p3,p4,p5⟩
 ·by_cases hb:b=e
  ·subst hb;rw [af] at g;cases g;exact⟨⟨oe,ge,rfl⟩,⟨oe,ge⟩,fun h1 h2 ⟨o,g1,g2⟩ k=>⟨o,k o g1,g2⟩⟩
  ·rw [aj hb] at g;exact (I.hok b u g).stay (fun _ _ _ q=>q) (fun c q=>up _ _ q) fun c xs q=>up _ _ q
theorem Inv.goes {i:Nat}{n:Str}{h':Heap}{t':Nat}{v:Option Value}{m:Str->Option Value}(I:Inv X pins σ H s)(hN:X.N.Nodup)(hi:X.N[i]? = some n)(hk:X.env.kindOf n=some .local)(hm:∀ (j:Nat) (x:Str) (v:V),X.N[j]? = some x->σ[j]? = some (some v)->Vis X.env.scope x->∃ u,RelV v u/\ac1 X.env s.heap m x u)
 (ns:h'.Ns X.env.locals fun x=>if x=n then v else m x)(sb:Heap.SameBut X.env.locals s.heap h')(nsm:s.heap.Ns X.env.locals m):Inv X pins (σ.set i none) H { s with heap:=h',toks:=t' }:=by
 have neL:∀ b o,X.s₀.heap.get? b=some o->b≠X.env.locals:=fun b o e=>ad2 (adU (adQ e) I.ok.above);obtain⟨oL,_,_,hoL,_⟩:=id nsm;have cellK:∀ x c v,X.env.cells.lookup x=some c->s.heap.IsCell c v->h'.IsCell c v:=fun x c v hx ⟨o,ho,hd⟩=>⟨o,(sb.2 c (I.cne x c hx)).trans ho,hd⟩;refine⟨I.ok,I.os,I.bare,⟨fun b o g nn hf hx=>(sb.2 b (neL b o g)).trans (I.base.keep b o g nn hf hx),fun b o g nn hf hx=>?_,I.base.free,fun b o g hx=>?_,I.base.tups,I.base.frzs,I.base.tbls⟩,⟨_,ns,fun j x v' e1 e2 e3=>?_⟩,fun x c g=>?_,I.free,I.freeC,fun p hp=>?_,fun b u g=>?_,by simpa using I.len⟩
 ·obtain⟨sl,g'⟩:=I.base.slot b o g nn hf hx;exact⟨sl,(sb.2 b (neL b o g)).trans g'⟩
 ·obtain⟨o',g'⟩:=I.base.there b o g hx;exact⟨o',(sb.2 b (neL b o g)).trans g'⟩
 ·have hj:j≠i:=fun z=>by
   subst z;have hjl:j < σ.length:=by rw [I.len];exact (adF.mp hi).1
   rw [afy hjl] at e2;cases e2
  rw [afJ (aeL hj)] at e2;obtain⟨u,r,l⟩:=hm j x v' e1 e2 e3;refine⟨u,r,?_⟩;rcases l with ⟨k,q⟩ | ⟨k,c,hc,hi'⟩
  ·refine .inl ⟨k,?_⟩;show (if x=n then v else m x)=some u;rw [if_neg fun z:x=n=>hj (oQ hN e1 (by rw [z];exact hi))];exact q
  ·exact .inr ⟨k,c,hc,cellK x c _ hc hi'⟩
 ·obtain⟨v',hv⟩:=I.cell x c g;exact⟨v',cellK x c v' g hv⟩
 ·obtain⟨p1,p2,p3,p4,p5⟩:=I.pin p hp;exact⟨(sb.2 p.1 p3).trans p1,p2,p3,p4,p5⟩
 ·refine (I.hok b u g).stay (fun c w' hc q=>(sb.2 c fun z=>?_).trans q) (fun _ q=>q) fun _ _ q=>q;have:=I.free;rcases hc with e | e
  ·rw [← z,e,g] at this;cases this
  ·rw [← z,e] at this;cases this
end
def abv (K:PySem.W.Frag)(C:Addr)(cls:Value):Prop:=∃ C1 bm1,cls=.ref C1/\kA K C1 bm1/\(Value.ref C1::bm1).contains (.ref C)=true
def adt (i:Nat)(M:Value->Prop)(tb:(St->XK)->TS)(th:TS):TS:=fun D σ H=>tb (fun σ' cls _ H'=>M cls/\∀ a,H' a=none->th { nx:=fun σ2 H2=>D.nx (σ2.set i none) H2,rt:=fun _ _=>False } (σ'.set i (some (.ref a))) (upd H' a (aa1 a cls))) D σ H
theorem jC {h:Heap}{a b:Addr}{f:Obj->Obj}{o:Obj}(ne:b≠a)(g:h.get? b=some o):(h.update a f).get? b=some o:=Heap.get?_update_of_ne f (aeL ne) g
theorem zu {X:Cx}{body suite:List Stmt}{b₀:Stmt}{C:Addr}{bm:List Value}{n cx:Str}{i:Nat}{np hpos pos:Pos}{tb:(St->XK)->TS}{th:TS}(hst:X.stack=X.env::X.outer)(hfr:X.env.frame=some X.env.locals)(hg:Gl X cx)(hm:X.mg cx=some (.ref C))(c:kA X.K C bm)(hN:X.N.Nodup)(hi:X.N[i]? = some n)(hk:X.env.kindOf n=some .local)
 (hb:∀ pins xe Eh,(∀ σ H s ev s',Inv X pins σ H s->CXr X.prog X.w X.stack H s (Eh σ) ev s'->xe ev s')->PSs (X.tried pins xe) body (tb Eh))(hsu:∀ a,PSs (X.marked a) (b₀::suite) th)(hdb:(cx == ("__debug__" : Str))=false:=by decide)(hloc:Loc X.env.scope n:=by first | exact .inl rfl | exact .inr rfl)(hfn:X.fn n=true\/X.env.scope.names.lookup n=some .local:=by first | exact .inl rfl | exact .inr rfl | assumption) :
 PS X (.Try body [.ExceptHandler (some (.Name cx np)) (some n) (b₀::suite) hpos] [] [] pos) (adt i (abv X.K C) tb th):=by
 intro pins s σ H D I h;obtain⟨nm,q,N',bs,bmB,hdct,sn,sub,ab,col,dd,k0,k1,k2,k3,k5,B,Bn,newId,nid,initId,inN,bmN,mN,f1,f2,f3,f4,f5,g⟩:=c.facts;refine wpAny_Try_except ?_;have hand:∀ (σ':St) (H1:Hp) (s1:Shared) (ev:Value) (s2:Shared),Inv X pins σ' H1 s1->CXr X.prog X.w X.stack H1 s1 (fun cls _ H'=>abv X.K C cls/\∀ a,H' a=none->th { nx:=fun σ2 H2=>D.nx (σ2.set i none) H2,rt:=fun _ _=>False } (σ'.set i (some (.ref a))) (upd H' a (aa1 a cls))) ev s2 →
  wpAny (model X.prog X.w) X.A (noteFrame ev X.env) (fun _ s₂=>wpAny (model X.prog X.w) X.A (setFlight ev none) (fun _ s₃=>wpAny (model X.prog X.w) X.A (handleBy ev X.env [.ExceptHandler (some (.Name cx np)) (some n) (b₀::suite) hpos]) (SP X pins D) X.xe s₃) X.xe s₂) X.xe s2:=by
  intro σ' H1 s1 ev s2 I1 hcx;obtain⟨e,T,cls,a0,H2,rfl,os,bare,un,hok,ex,ge,gT,ne,nT,mm,qq⟩:=hcx;obtain⟨C1,bm1,rfl,c1,hm1⟩:=mm;obtain⟨nm1,q1,N1,bs1,bmB1,hdct1,sn1,sub1,ab1,col1,dd1,j0,j1,j2,j3,j5,B1,Bn1,newId1,nid1,initId1,inN1,bmN1,mN1,_,_,_,_,_,gc1⟩:=c1.facts;have J:Inv X pins σ' H2 s2:=I1.call' os un hok bare (fun b z=>absurd z (by simp));have old:∀ b o,X.s₀.heap.get? b=some o->b ∉ X.ex->b≠e/\b≠T:=fun b o gb hx=>by
   obtain⟨o',g'⟩:=I1.base.there b o gb hx;exact⟨(fun z=>by rw [z,ge] at g';cases g'),(fun z=>by rw [z,gT] at g';cases g')⟩
  have pn:∀ p∈X.pn++pins,p.1≠e/\p.1≠T:=fun p hp=>by
   have g':=(I1.pin p hp).1;exact⟨(fun z=>by rw [z,ge] at g';cases g'),(fun z=>by rw [z,gT] at g';cases g')⟩
  have st:=J.stack;obtain⟨oe,vs,oT,ts,g1,g2,g3,g4,g6,g7,g8,g9⟩:=ex;have frm:X.A.frames=some (X.env::X.outer):=by rw [← hst];exact J.ok.frames
  have sth:s2.heap.FunFrames (iJ s2.heap (e::T::frs X.stack)) (X.env::X.outer):=by
   have:=mr (L:=e::T::frs X.stack) st fun b hb=>adN _ (adN _ hb);rw [hst] at this ⊢;exact this
  refine wpAny_noteFrame_onW (base:=iJ s2.heap (e::T::frs X.stack)) (L:=X.env.locals) (outer:=X.outer) frm sth hfr ⟨oe,vs,T,oT,ts,g1,g2,g3,g4,afa _ (adN _ adV),g6,g7,g8,g9⟩ (fun b o gb=>afP _ gb) (afa _ adV) fun h' L=>?_;obtain⟨st',fn',⟨oe',vs',T',oT',ts',k1',k2',k3',k4',k5',k6',k7',k8',k9'⟩,kp'⟩:=L;have J2:Inv X pins σ' H2 { s2 with heap:=h' }:=J.bend (t':=s2.toks) ne nT old pn st' kp';have notF:T' ∉ frs X.stack:=fun z=>by
   rw [hst] at z;obtain⟨_,o',e',d⟩:=fn'.mem z;rw [k7'] at e';cases e';exact d _ k8'
  have notIn:∀ b o,s2.heap.get? b=some o->b≠e->b≠T->b≠T':=fun b o gb h1 h2 z=>by
   subst z;have:(iJ s2.heap (e::T::frs X.stack)).get? b=some o:=afp _ gb fun z=>by
    rcases adO.mp z with z | z
    ·exact h1 z
    ·rcases adO.mp z with z | z
     ·exact h2 z
     ·exact notF z
   rw [k5'] at this;cases this
  have nT':H2 T'=none:=by
   cases gt:H2 T' with
   | none=>rfl
   | some o =>
    obtain⟨ob,g'⟩:=(J.hok T' o gt).obj;exact absurd rfl (notIn T' ob g' k6' fun z=>by rw [z,nT] at gt;cases gt)
  have old':∀ b o,X.s₀.heap.get? b=some o->b ∉ X.ex->b≠T'/\b≠T':=fun b o gb hx=>by
   obtain⟨o',g'⟩:=J.base.there b o gb hx;have:=notIn b o' g' (old b o gb hx).1 (old b o gb hx).2;exact⟨this,this⟩
  have pn':∀ p∈X.pn++pins,p.1≠T'/\p.1≠T':=fun p hp=>by
   have:=notIn p.1 p.2 (J.pin p hp).1 (pn p hp).1 (pn p hp).2;exact⟨this,this⟩
  have sz:3 < ts'.size:=(afH.mp k9').1;refine wpAny_setFlight_none k1' k3' k4' k7' k8' sz ?_;have flight:∀ (hh:Heap) (t:Nat) (ot:Obj) (tv:Array Value),Inv X pins σ' H2 { s2 with heap:=hh,toks:=t }->hh.get? T'=some ot->ot.data=.fields tv->Inv X pins σ' H2 { s2 with heap:=hh.update T' (Obj.mapFields fun x=>x.setIfInBounds 3 .none),toks:=t }:=fun hh t ot tv IJ gt dt=>by
   refine IJ.bend (t':=t) nT' nT' old' pn' (fun b o gb=>jC (fun z=>?_) (afP _ gb)) fun b o gb hd=>⟨o.slots,jC (fun z=>?_) gb⟩
   ·have:(iJ hh (T'::T'::frs X.stack)).get? T'=none:=afa _ adV;rw [z] at gb;rw [this] at gb;cases gb
   ·have gb':hh.get? b=some o:=gb;rw [z,gt] at gb';cases gb';exact hd _ dt
  have J3:Inv X pins σ' H2 { s2 with heap:=h'.update T' (Obj.mapFields fun x=>x.setIfInBounds 3 .none) }:=flight h' s2.toks oT' ts' J2 k7' k8';obtain⟨oe3,vs3,oT3,ts3,m1,m2,m3,m4,m5,m6⟩:=marked_update .none k1' k3' k4' k7' k8' k9';have e3:(h'.update T' (Obj.mapFields fun x=>x.setIfInBounds 3 .none)).get? e=some oe':=jC (aeL k6') k1';rw [e3] at m1;cases m1;generalize h'.update T' (Obj.mapFields fun x=>x.setIfInBounds 3 .none)=h3 at *;refine wpAny_handleBy_cons ?_ (fun z=>by cases z);refine codeAny_handlers_test (jR (X:=X.marked e) (J3.marked e) hg hm ?_ hdb);refine aaX (g _ J3.kIn).1 (gc1 _ J3.kIn).1 e3 k2'.1 f4 hm1 ?_;refine codeAny_handlers_suite_as (wpAny_setFlight_none e3 m2 m3 m4 m5 (afH.mp m6).1 ?_);have J4:Inv X pins σ' H2 { s2 with heap:=h3.update T' (Obj.mapFields fun x=>x.setIfInBounds 3 .none) }:=flight h3 s2.toks oT3 ts3 J3 m4 m5;have e4:(h3.update T' (Obj.mapFields fun x=>x.setIfInBounds 3 .none)).get? e=some oe':=jC (aeL k6') e3;generalize h3.update T' (Obj.mapFields fun x=>x.setIfInBounds 3 .none)=h4 at *;have eL:e≠X.env.locals:=fun z=>by
   obtain⟨m,⟨o,es,ep,ho,r⟩,_⟩:=J4.loc;have ho':h4.get? X.env.locals=some o:=ho;rw [← z,e4] at ho';cases ho';have:=r.1;rw [k3'] at this;cases this
  have eC:∀ x c,X.env.cells.lookup x=some c->c≠e:=fun x c hc z=>by
   obtain⟨v,o,ho,hd⟩:=J4.cell x c hc;have ho':h4.get? c=some o:=ho;rw [z,e4] at ho';cases ho';rw [k3'] at hd;cases hd
  have J5:Inv X pins σ' (upd H2 e (aa1 e oe'.cls)) { s2 with heap:=h4 }:=J4.track ne e4 (fun b o gb hx=>(old b o gb hx).1) (fun p hp=>(pn p hp).1) eL eC;rw [k2'.1] at J5;refine jB (X:=X.marked e) (J5.marked e) hN hi hloc (show RelV (.ref e) (.ref e) from rfl) (fun s5 I5 _=>?_) hfn;refine aed (hsu e pins s5 _ _ _ I5 (qq e ne)) (fun fl s6 x=>?_) fun _ _ z=>z.elim;cases fl with
  | next =>
   obtain⟨σ2,H6,I6,qn⟩:=x;have I6':=I6.unmarked J.ok.hd;obtain⟨m,nsm,hml⟩:=I6'.loc;refine wpAny_nameGoes_keeps hk nsm (by rw [I6'.ok.kind];rfl) fun h7 v ns sb=>?_;exact⟨σ2.set i none,H6,I6'.goes hN hi hk hml ns sb nsm,qn⟩
  | brk=>obtain⟨_,_,_,z⟩:=x;exact z.elim
  | cont=>obtain⟨_,_,_,z⟩:=x;exact z.elim
  | ret u=>obtain⟨_,_,_,_,_,z⟩:=x;exact z.elim
 refine aed (hb pins _ _ hand [] s σ H D (I.tried _) h) (fun f s1 x=>?_) (fun _ _ x=>x);have x':=SP.untried x;cases f with
 | next=>obtain⟨σ',H',I',q⟩:=x';exact afQ ⟨σ',H',I',q⟩
 | brk=>exact x'
 | cont=>exact x'
 | ret u=>exact x'
section
variable {X:Cx}
def abV (sp:Sp)(dvs:List V)(E:St->XK)(t:TA):TE:=fun σ H Q=>t σ H fun vs H1=>sp (vs++dvs) H1 Q (E σ)
theorem tQ {x:Str}{p pos:Pos}{e:Expr}{es:List Expr}{t:TA}{CX:CXT}{k:Nat}{f:Addr}{fd:FuncData}{ps:List Str}{sp:Sp}{ds:List Value}{dvs:List V}{E:St->XK}(F:FnOk X.prog X.w X.K X.mg X.base CX k f fd ps sp)(hr:Room k X.A)(hg:Gl X x)(hm:X.mg x=some (.ref f))(hk:keepIn X.K (.ref f)=true)(hb:Binds X.K fd ps ds)(hd:Vals dvs ds)
 (hx:∀ pins σ H s ev s',Inv X pins σ H s->CX X.stack H s (E σ) ev s'->X.xe ev s')(ha:PA X (e::es) t)(hdb:(x == ("__debug__" : Str))=false:=by decide)(he:starEach (e::es) X.env=(false,eval e X.env)::starEach es X.env:=by rfl)(hpl:(backTo pos (starEach es X.env)).any (·.1)=false:=by rfl) :
 PE X (.Call (.Name x p) (e::es) [] pos) (abV sp dvs E t):=by
 intro pins s σ H Q I h;refine afA (jR I hg hm ?_ hdb);refine afR (h₀:=X.base) I.ok.mod.kin hk (thn (ha pos pins s σ H _ I h) fun us s1 ⟨vs,H1,I1,r,q⟩=>⟨I1.kIn,?_⟩) he hpl;have r2:Vals (vs++dvs) (us++ds):=r.append hd;have hl:(us++ds).length=ps.length:=by rw [← r2.length];exact F.len _ _ _ _ q
 refine wpAny_call (afC (F.run X.A X.stack s1 H1 ⟨us,[]⟩ (us++ds) (vs++dvs) Q (E σ) hr I1.env0 (hb s1 us I1.kIn hl) r2 q) fun r s' hq=>?_);cases r with
 | error e=>exact hx pins σ H1 s1 e s' I1 hq
 | ok fl =>
  cases fl with
  | ret u=>exact I1.after hq
  | next=>exact False.elim hq
  | brk=>exact False.elim hq
  | cont=>exact False.elim hq
end
section
variable {P:Program}{w:World}{K:PySem.W.Frag}{mg:Str->Option Value}{base:Heap}
theorem Fun.okR {x qual:Str}{st:Stmt}{f:Addr}{fd:FuncData}{N ps:List Str}{k:Nat}{sp:Sp}(F:Fun K x qual st f fd)(S:aA N ps (ai st))(len:∀ vs H Q E,sp vs H Q E->vs.length=ps.length)
 (hbody:∀ (cdv:Value) (A:Around) (outer:List Env) (s:Shared) (H:Hp) (vs:List V) (Q:VK) (E:XK),Room k (A.deeper (envOfC qual (ai st) s.heap.objs.size f cdv))->sp vs H Q E →
  ∃ t,PSs (pM (CXr P w) P w K mg base N qual (ai st) f cdv A outer s H E) (bZ st) t/\t { nx:=fun _ H'=>Q .non H',rt:=Q } (mM N vs) H):FnOk P w K mg base (CXr P w) (k+1) f fd ps sp:=by
 obtain⟨oc,od,kV,doc,pm,an,cdv,ct,osl,rfl,lk,hcd⟩:=F.ex;exact aaC lk hcd S len fun A outer s H vs Q E hr hsp=>hbody cdv A outer s H vs Q E hr hsp
end
section
variable {X:Cx}
end
end L2
namespace K7
open PySem L2 PyProof.Rows
structure FunD (K:PySem.W.Frag)(x qual:Str)(st:Stmt)(T f:Addr)(fd:FuncData):Prop where
 ex:∃ (oc:Value) (od:Option Addr) (kV doc pm:Value) (an:Option Addr) (cdv ct:Value) (osl:Array (Option Value)),
  fd=fnOf x qual (fO st) (bZ st) (ai st) (.ref T) kV doc pm an cdv ct/\K.lookup f=some ⟨oc,od,.func fd,osl⟩/\codeIn K cdv qual=true
 kp:keepIn K (.ref f)=true
theorem FunD.ok {P:Program}{w:World}{K:PySem.W.Frag}{mg:Str->Option Value}{base:Heap}{x qual:Str}{st:Stmt}{T f:Addr}{fd:FuncData}{N ps:List Str}{k:Nat}{sp:Sp}(F:FunD K x qual st T f fd)(S:aA N ps (ai st))(len:∀ vs H Q E,sp vs H Q E->vs.length=ps.length)
 (hbody:∀ (cdv:Value) (A:Around) (outer:List Env) (s:Shared) (H:Hp) (vs:List V) (Q:VK) (E:XK),Room k (A.deeper (envOfC qual (ai st) s.heap.objs.size f cdv))->sp vs H Q E →
  ∃ t,PSs (pM CX0 P w K mg base N qual (ai st) f cdv A outer s H E).nox (bZ st) t/\t { nx:=fun _ H'=>Q .non H',rt:=Q } (mM N vs) H):FnOk P w K mg base CX0 (k+1) f fd ps sp:=by
 obtain⟨oc,od,kV,doc,pm,an,cdv,ct,osl,rfl,lk,hcd⟩:=F.ex;refine aaC lk hcd S len fun A outer s H vs Q E hr hsp=>?_;obtain⟨t,h,q⟩:=hbody cdv A outer s H vs Q E hr hsp;exact⟨t,h.nox,q⟩
theorem fund_mk {K:PySem.W.Frag}{x qual:Str}{st:Stmt}{T f:Addr}{oc:Value}{od an:Option Addr}{osl:Array (Option Value)}{kV doc pm cdv ct:Value}(l:K.lookup f=some ⟨oc,od,.func (fnOf x qual (fO st) (bZ st) (ai st) (.ref T) kV doc pm an cdv ct),osl⟩)
 (c:codeIn K cdv qual=true)(k:keepIn K (.ref f)=true):FunD K x qual st T f (fnOf x qual (fO st) (bZ st) (ai st) (.ref T) kV doc pm an cdv ct):=⟨⟨oc,od,kV,doc,pm,an,cdv,ct,osl,rfl,l,c⟩,k⟩
end K7
namespace L2
open PySem PySem.Spec PyProof.Rows
def leS (a b:Str):Prop:=ltCps b.cps.toList a.cps.toList=false
theorem leS_iff {a b:Str}:leS a b↔a.cps.toList<=b.cps.toList:=by
 unfold leS;rw [ltCps_eq];constructor
 ·intro h;exact List.not_lt.mp (of_decide_eq_false h)
 ·intro h;exact ad4 (List.not_lt.mpr h)
theorem qM {a b:Str}(h1:leS a b)(h2:leS b a):a=b:=by
 have e:=List.le_antisymm (leS_iff.mp h1) (leS_iff.mp h2);cases a;cases b;simp only at e;rw [Str.mk.injEq];exact Array.toList_inj.mp e
theorem wF {a b c:Str}(h1:leS a b)(h2:leS b c):leS a c:=leS_iff.mpr (List.le_trans (leS_iff.mp h1) (leS_iff.mp h2))
theorem mG:∀ {l:List Str} {p:Str},risingS p l=true->(∀ x∈l,leS p x)/\l.Pairwise leS
 | [],p,_=>⟨(fun x hx=>nomatch hx),List.Pairwise.nil⟩
 | y::r,p,h=>by
  have h':(!ltCps y.cps.toList p.cps.toList && risingS y r)=true:=h;rw [aei,agI] at h';obtain⟨i1,i2⟩:=mG h'.2;have py:leS p y:=h'.1;refine⟨fun x hx=>?_,List.Pairwise.cons i1 i2⟩;rcases adO.mp hx with rfl | hx
  ·exact py
  ·exact wF py (i1 x hx)
theorem gF:∀ {l:List Str},sortedS l=true->l.Pairwise leS
 | [],_=>List.Pairwise.nil
 | _::_,h=>let ⟨a,b⟩:=mG h;List.Pairwise.cons a b
theorem ni:∀ {l1 l2:List Str},l1.Pairwise leS->l2.Pairwise leS->l1.Perm l2->l1=l2
 | [],l2,_,_,p=>(List.nil_perm.mp p).symm▸rfl
 | a::r,[],_,_,p=>absurd p.length_eq (by simp)
 | a::r,b::t,h1,h2,p=>by
  have ab:leS a b:=by
   rcases adO.mp (p.mem_iff.mpr adV:b∈a::r) with e | hb
   ·subst e;exact leS_iff.mpr (List.le_refl _)
   ·exact (ae6.mp h1).1 b hb
  have ba:leS b a:=by
   rcases adO.mp (p.mem_iff.mp adV:a∈b::t) with e | ha
   ·subst e;exact leS_iff.mpr (List.le_refl _)
   ·exact (ae6.mp h2).1 a ha
  have e:=qM ab ba;subst e;rw [ni (ae6.mp h1).2 (ae6.mp h2).2 p.cons_inv]
section
variable {M:Model}{A:Around}{E:Value->Shared->Prop}{s:Shared}
theorem o7 {src:Source}{n:Nat}{Q:Nat->Shared->Prop}(hn:n≠0)(h:∀ i,i < n->Q i { s with drawn:=s.drawn.bump src }):wpAny M A (choose src n) Q E s:=fun _ _ _ =>
 ⟨hn,h _ (Nat.mod_lt _ (Nat.pos_of_ne_zero hn))⟩
theorem gn {α:Type}:∀ (xs:List α) (i:Nat) (x:α),xs[i]? = some x->(x::xs.eraseIdx i).Perm xs
 | [],_,_,h=>by simp at h
 | y::r,0,x,h=>by simp at h;subst h;exact .rfl
 | y::r,i+1,x,h=>by
  have h':r[i]? = some x:=by simpa using h
  rw [agR];exact (List.Perm.swap y x _).trans ((gn r i x h').cons y)
theorem gP {α:Type}:∀ (n:Nat) (xs:List α) (s:Shared) (Q:List α->Shared->Prop),xs.length=n->(∀ ys d,ys.Perm xs->Q ys { s with drawn:=d })->wpAny M A (drawOrder n xs) Q E s
 | 0,xs,s,Q,hl,h=>by
  have e:xs=[]:=agS.mp hl;subst e;unfold drawOrder;exact adJ (h [] s.drawn .rfl)
 | n+1,[],s,Q,hl,h=>by simp at hl
 | n+1,y::r,s,Q,hl,h=>by
  unfold drawOrder;refine adE (o7 (by simp) fun i hi=>?_);have hx:(y::r)[i]? = some (y::r)[i]:=adD hi;rw [hx];dsimp only;refine adE (gP n _ _ _ (by rw [agu hi];simpa using hl) fun ys d p=>?_);exact adJ (h _ d ((p.cons _).trans (gn _ i _ hx)))
theorem lZ {α:Type}(next:Nat->Nat):∀ (fuel k:Nat) (left:List α) (out:Array α),left.length=fuel->(pickOrder.go next fuel k left out).toList.Perm (out.toList++left)
 | 0,k,left,out,h=>by
  have e:left=[]:=agS.mp h;subst e;unfold pickOrder.go;simp
 | fuel+1,k,left,out,h=>by
  unfold pickOrder.go;have hp:0 < left.length:=by lia
  have hi:next k % left.length < left.length:=Nat.mod_lt _ hp
  rw [adD hi];dsimp only;refine (lZ next fuel (k+1) _ _ (by rw [agu hi];lia)).trans ?_;rw [Array.toList_push,aer];exact (gn left _ _ (adD hi)).append_left _
theorem iH {α:Type}(next:Nat->Nat)(xs:Array α):(pickOrder next xs).toList.Perm xs.toList:=by
 unfold pickOrder;simpa using lZ next xs.size 0 xs.toList #[] (by simp)
end
theorem vi (t:SetTable)(es:Array (Int×Value))(h:Int)(x:Value):(layNew t es h x).2.1.led=t.led:=by
 unfold layNew;split
 ·dsimp only;unfold SetTable.orStandIn;split<;>rfl
 ·rfl
theorem qo (t:SetTable)(es:Array (Int×Value))(n:Nat):(relayAll t es n).2.1.led=t.led:=by
 unfold relayAll;split
 ·rename_i t' order e;have e2:t'.led=t.led:=by
   unfold SetTable.relaid SetTable.laid at e;simp only [Option.bind_eq_bind,agT] at e;obtain⟨ow,_,e⟩:=e;simp only [Option.pure_def,Option.some.injEq,Prod.mk.injEq] at e;rw [← e.1]
  dsimp only;split
  ·exact e2
  ·rfl
 ·rfl
theorem mZ (t:SetTable)(es:Array (Int×Value))(n:Nat)(h:t.plain=false):(relayAll t es n).2.1.plain=false:=by
 unfold relayAll;split
 ·rename_i t' order e;have e2:t'.plain=t.plain:=by
   unfold SetTable.relaid SetTable.laid at e;simp only [Option.bind_eq_bind,agT] at e;obtain⟨ow,_,e⟩:=e;simp only [Option.pure_def,Option.some.injEq,Prod.mk.injEq] at e;rw [← e.1]
  dsimp only;split
  ·rw [e2];exact h
  ·rfl
 ·rfl
structure TxAt (prog:Program)(w:World)(h:Heap)(a:Addr)(es:Array (Int×Value))(ep:Nat)(t:SetTable):Prop where
 get:h.get? a=some { cls:=.type "set",dict:=none,data:=.set es ep t,slots:=#[] }
 el:ElemsOf (PySem.strKind prog w) es.toList
 bd:es.size < scanBound
 fit:t.fits es.size=true
 led:t.led=!w.params.followText "set-order"
 pl:t.plain=false\/es=#[]
def xE (es:Array (Int×Value)):List Str:=es.toList.map fun e=>strOf e.2
def TxSet (prog:Program)(w:World)(h:Heap)(a:Addr)(ss:List Str):Prop:=∃ es ep t,TxAt prog w h a es ep t/\xE es=ss/\ss.Nodup
section
variable {prog:Program}{w:World}{h h':Heap}{a:Addr}{es:Array (Int×Value)}{ep:Nat}{t:SetTable}{ss:List Str}
theorem TxAt.at' (x:TxAt prog w h a es ep t)(k:∀ o,h.get? a=some o->h'.get? a=some o):TxAt prog w h' a es ep t:=⟨k _ x.get,x.el,x.bd,x.fit,x.led,x.pl⟩
theorem TxSet.at' (x:TxSet prog w h a ss)(k:∀ o,h.get? a=some o->h'.get? a=some o):TxSet prog w h' a ss:=let ⟨es,ep,t,y,r⟩:=x;⟨es,ep,t,y.at' k,r⟩
theorem xS {l:List (Int×Value)}(h:ElemsOf (PySem.strKind prog w) l){e:Int×Value}(he:e∈l):∃ tk,e=(hashStr w (strOf e.2),.str (strOf e.2) tk):=by
 obtain⟨⟨k,hk,hh⟩,_⟩:=h e he;obtain⟨tk,e2⟩:=agj hk;obtain⟨e1,v⟩:=e;simp only at e2 hh;subst e2;exact⟨tk,by rw [hh];rfl⟩
theorem uj {k:Str}{v:Value}{x:Str}{tk:Tok}(e:v=.str x tk):(PySem.strKind prog w).is k v=true↔k=x:=by
 subst e;constructor
 ·intro h;have h':Value.isStrOf k (.str x tk)=true:=h;obtain⟨u,e⟩:=agj h';injection e with e
  exact e.symm
 ·intro h;subst h;show Value.isStrOf k (.str k tk)=true;simp [Value.isStrOf]
theorem zT {l:List (Int×Value)}(h:ElemsOf (PySem.strKind prog w) l)(k:Str):k∈l.map (fun e=>strOf e.2)↔∃ e∈l,(PySem.strKind prog w).is k e.2=true:=by
 rw [ad5];constructor
 ·rintro⟨e,he,rfl⟩;obtain⟨tk,e2⟩:=xS h he;exact⟨e,he,(uj (by rw [e2];rfl)).mpr rfl⟩
 ·rintro⟨e,he,hk⟩;obtain⟨tk,e2⟩:=xS h he;exact⟨e,he,((uj (x:=strOf e.2) (tk:=tk) (by rw [e2];rfl)).mp hk).symm⟩
theorem TxSet.setOf (x:TxSet prog w h a ss):h.SetOf (PySem.strKind prog w) a (fun k=>decide (k∈ss)) ss.length:=by
 obtain⟨es,ep,t,y,e,n⟩:=x;subst e;refine⟨_,es,ep,t,y.get,⟨rfl,rfl,rfl⟩,rfl,y.el,fun k=>?_,y.bd,y.fit,by simp [xE]⟩;rw [afm];exact zT y.el k
section
variable {A:Around}{E:Value->Shared->Prop}{s:Shared}
theorem iI {g:Bool->Sem Unit}(hg:∀ (b:Bool) (s₁:Shared) (Q':Unit->Shared->Prop),Q' () s₁->wpAny (model prog w) A (g b) Q' E s₁)
 (ho:s.heap.get? a=some { cls:=.type "set",dict:=none,data:=.set es ep t,slots:=#[] })
 {es1:Array (Int×Value)}{t2:SetTable}(hel1:ElemsOf (PySem.strKind prog w) es1.toList)
 (hb1:es1.size < scanBound)(hf2:t2.fits es1.size=true)(hl2:t2.led=!w.params.followText "set-order")(hp2:t2.plain=false){wasDummy:Bool}{R:Option Bool->Shared->Prop}
 (h:∀ h' es' ep' t',Heap.SameBut a s.heap h'->TxAt prog w h' a es' ep' t'->es'.toList.Perm es1.toList->R (some true) { s with heap:=h' }) :
 wpAny (model prog w) A (do
  storeSet a es1 t2
  if (!wasDummy && t2.tooFull)=true then do
   g (relayAll t2 es1 (SetTable.grown es1.size)).2.2
   storeSet a (relayAll t2 es1 (SetTable.grown es1.size)).1 (relayAll t2 es1 (SetTable.grown es1.size)).2.1
   pure (some true)
   else pure (some true)) R E s:=by
 refine adE (wpAny_storeSet_of ho rfl ?_ (af0 hb1));have up:∀ {h0:Heap} {es0:Array (Int×Value)} {ep0:Nat} {t0:SetTable} (es':Array (Int×Value)) (t':SetTable),h0.get? a=some { cls:=.type "set",dict:=none,data:=.set es0 ep0 t0,slots:=#[] }->(h0.update a (Obj.putSet es' t')).get? a=some { cls:=.type "set",dict:=none,data:=.set es' (ep0+1) t',slots:=#[] }:=fun es' t' q=>by
  have:=ae4 (Obj.putSet es' t') q (by rw [putSet_of es' t' rfl];rfl);rw [putSet_of es' t' rfl] at this;exact this
 have ho1:=up es1 t2 ho;have hsb1:=afs s.heap a (Obj.putSet es1 t2);split
 ·have hp:=relayAll_perm t2 es1 (SetTable.grown es1.size);have hfr:=relayAll_fits t2 es1 (SetTable.grown es1.size);have hlr:=qo t2 es1 (SetTable.grown es1.size);have hpr:=mZ t2 es1 (SetTable.grown es1.size) hp2;generalize hRl:relayAll t2 es1 (SetTable.grown es1.size)=Rl at hp hfr hlr hpr ⊢;obtain⟨es2,t3,gave2⟩:=Rl;dsimp only at hp hfr hlr hpr ⊢;have hsz:es2.size=es1.size:=by rw [← aec,hp.length_eq,aec]
  have hb2:es2.size < scanBound:=by rw [hsz];exact hb1
  refine adE (hg _ _ _ ?_);refine adE (wpAny_storeSet_of ho1 rfl ?_ (af0 hb2));exact adJ (h _ es2 _ t3 (hsb1.trans (afs _ a _)) ⟨up es2 t3 ho1,hel1.perm hp,hb2,hfr,hlr.trans hl2,.inl hpr⟩ hp)
 ·exact adJ (h _ es1 _ t2 hsb1 ⟨ho1,hel1,hb1,hf2,hl2,.inl hp2⟩ .rfl)
theorem mz {α:Type}{l:List α}{x:α}{l':List α}(hn:l.Nodup)(hx:x ∉ l)(p:l'.Perm (l++[x])):l'.Nodup:=by
 refine p.nodup_iff.mpr ?_;rw [aeY];refine⟨hn,by simp,fun a ha b hb e=>?_⟩;rw [adT.mp hb] at e;exact hx (e▸ha)
theorem mR {x:Str}{tk:Tok}{Q:Bool->Shared->Prop}(hS:TxSet prog w s.heap a ss)(hroom:ss.length+1 < scanBound)
 (h:∀ h' ss',Heap.SameBut a s.heap h'->TxSet prog w h' a ss'->((x∈ss/\ss'=ss)\/(x ∉ ss/\ss'.Perm (ss++[x])))->Q (!decide (x∈ss)) { s with heap:=h' }) :
 wpAny (model prog w) A (setAddHashed a (.str x tk) (hashStr w x)) Q E s:=by
 obtain⟨es,ep,t,T,e,nd⟩:=hS;subst e;have hkey:(PySem.strKind prog w).is x (.str x tk)=true:=(uj rfl).mpr rfl;have hsc:(Value.str x tk).scannable=true:=rfl;have hb1:es.size+1 < scanBound:=by simpa [xE] using hroom
 have hmem:=zT T.el x;unfold setAddHashed setAddHashedIn;refine aeQ (adE (afn T.get rfl T.fit ?_));dsimp only;rw [byScan_of hsc T.bd T.el];simp only [↓reduceIte];unfold setAddByScan;refine adE ?_;refine adE (afO ?_);refine adE (wpAny_setScan_of (knd:=PySem.strKind prog w) hkey T.get rfl T.fit T.el ?_);cases hr:List.findIdx? (fun e=>(PySem.strKind prog w).is x e.2) es.toList with
 | some j =>
  dsimp only;obtain⟨hj,hpj,_⟩:=List.findIdx?_eq_some_iff_getElem.mp hr;have hx:x∈xE es:=hmem.mpr ⟨es.toList[j],aeo hj,hpj⟩;refine adJ (adJ ?_);have q:=h s.heap (xE es) (agJ a s.heap) ⟨es,ep,t,T,rfl,nd⟩ (.inl ⟨hx,rfl⟩);rw [adY hx] at q;exact q
 | none =>
  dsimp only;have hx:x ∉ xE es:=fun hk=>by
   obtain⟨e,he,hp⟩:=hmem.mp hk;have:=List.findIdx?_eq_none_iff.mp hr e he;rw [hp] at this;exact Bool.noConfusion this
  have hgw:∀ (b:Bool) {s₁:Shared} {Q':Unit->Shared->Prop},Q' () s₁->wpAny (model prog w) A (match b with | true=>rule "set.scan.the-table-gave-way" | false=>pure ()) Q' E s₁ :=
   fun b s₁ Q' hq=>by cases b<;>first | exact adJ hq | exact afO hq
  have hperm:=layNew_perm t es (hashStr w x) (.str x tk);have hfits:=layNew_fits t es (hashStr w x) (.str x tk);have hled:=vi t es (hashStr w x) (.str x tk);generalize hL:layNew t es ((PySem.strKind prog w).hash x) (.str x tk)=L;have hL':layNew t es (hashStr w x) (.str x tk)=L:=hL;rw [hL'] at hperm hfits hled ⊢;obtain⟨es1,t1,wasDummy,gave⟩:=L;dsimp only at hperm hfits hled ⊢;rw [Array.toList_push] at hperm;have hel1:ElemsOf (PySem.strKind prog w) es1.toList:=(T.el.push hkey hsc).perm hperm;have hb1':es1.size < scanBound:=by rw [← aec,hperm.length_eq,adI,aec];simpa using hb1
  refine adE (hgw _ ?_);have hend:∀ h' es' ep' t',Heap.SameBut a s.heap h'->TxAt prog w h' a es' ep' t'->es'.toList.Perm es1.toList->Q true { s with heap:=h' }:=by
   intro h' es' ep' t' hsb T' p';have p2:(xE es').Perm (xE es++[x]):=by
    have:=(p'.trans hperm).map (fun e=>strOf e.2);simpa [xE,strOf] using this
   have q:=h h' (xE es') hsb ⟨es',ep',t',T',rfl,mz nd hx p2⟩ (.inr ⟨hx,p2⟩);rw [ad4 hx] at q;exact q
  split
  ·refine adE ?_;rw [hashByValue_scannable 8 hsc];refine adJ ?_;refine iI ?_ T.get hel1 hb1' ?_ ?_ ?_ ?_
   ·intro b s₁ Q' hq;cases b<;>first | exact adJ hq | exact afO hq
   ·exact SetTable.fits_plain_off hfits
   ·exact hled.trans T.led
   ·rfl
   ·intro h' es' ep' t' hsb T' p';dsimp only;exact adJ (hend h' es' ep' t' hsb T' p')
  ·rename_i hpl;refine adE (adJ ?_);simp only [↓reduceIte];refine iI ?_ T.get hel1 hb1' hfits (hled.trans T.led) (by simpa using hpl) ?_
   ·intro b s₁ Q' hq;cases b<;>first | exact adJ hq | exact afO hq
   ·intro h' es' ep' t' hsb T' p';dsimp only;exact adJ (hend h' es' ep' t' hsb T' p')
end
end
theorem mV:entryFor table "set.__iter__" = some Builtin.«frozenset.__iter__» :=
 entryFor_alias (id' := "frozenset.__iter__") (by kernel_rfl) rfl (by decide +kernel) (by kernel_rfl)
theorem slot_si_next:Slot "set_iterator" "__next__" "set_iterator.__next__" :=
 .of (owner := "set_iterator") (n := "__next__") (by rw [typeLookup_type,builtinLookup_eq_fast];kernel_rfl) (by decide +kernel) (by decide +kernel) (by decide +kernel)
  (by first | exact .inl (by decide +kernel) | exact .inr (by decide +kernel)) (by rw [isSubtype_type];kernel_rfl)
theorem pd:entryFor table "set_iterator.__next__" = some Builtin.«set_iterator.__next__»:=entryFor_of_tree (by kernel_rfl)
theorem uw:Manifest.owners.lookup (String.ofList ['r','o','t','a','r','e','t','i','_','t','e','s'].reverse)=some Manifest.sig_set_iterator:=by kernel_rfl
theorem pY (a:Value):argsOk "set_iterator.__next__" ⟨[a],[]⟩:=by
 unfold argsOk;rw [signature?_of (id := "set_iterator.__next__") (n:=['_','_','t','x','e','n','_','_']) (o:=['r','o','t','a','r','e','t','i','_','t','e','s']) (by kernel_rfl) uw];kernel_rfl
theorem kg:Slot "set_iterator" "__iter__" "set_iterator.__iter__" :=
 .of (owner := "set_iterator") (n := "__iter__") (by rw [typeLookup_type,builtinLookup_eq_fast];kernel_rfl) (by decide +kernel) (by decide +kernel) (by decide +kernel)
  (by first | exact .inl (by decide +kernel) | exact .inr (by decide +kernel)) (by rw [isSubtype_type];kernel_rfl)
theorem pF:entryFor table "set_iterator.__iter__" = some Builtin.«dict_keyiterator.__iter__» :=
 entryFor_alias (id' := "dict_keyiterator.__iter__") (by kernel_rfl) rfl (by decide +kernel) (by kernel_rfl)
theorem pQ (a:Value):argsOk "set_iterator.__iter__" ⟨[a],[]⟩:=by
 unfold argsOk;rw [signature?_of (id := "set_iterator.__iter__") (n:=['_','_','r','e','t','i','_','_']) (o:=['r','o','t','a','r','e','t','i','_','t','e','s']) (by kernel_rfl) uw];kernel_rfl
def SIter (h:Heap)(it a:Addr)(first:Value)(i n ep:Nat):Prop :=
 ∃ o,h.get? it=some o/\o.cls=.type "set_iterator" ∧ o.data=.fields #[first,.int i 0,.ref a,.int n 0,.int ep 0]
theorem SIter.typeIs {s:Shared}{it a:Addr}{first:Value}{i n ep:Nat}(x:SIter s.heap it a first i n ep):s.TypeIs (.ref it) "set_iterator" := let ⟨o,ho,hc,_⟩:=x;⟨o,ho,hc⟩
theorem SIter.at' {h h':Heap}{it a:Addr}{first:Value}{i n ep:Nat}(x:SIter h it a first i n ep)(k:∀ o,h.get? it=some o->h'.get? it=some o):SIter h' it a first i n ep:=let ⟨o,ho,r⟩:=x;⟨o,k _ ho,r⟩
section
variable {prog:Program}{w:World}{A:Around}{E:Value->Shared->Prop}{s:Shared}{a I:Addr}{es:Array (Int×Value)}{ep:Nat}{t:SetTable}
theorem jL (es:Array (Int×Value)){ps:List Nat}(h:ps.Perm (List.range es.size)):(ps.filterMap fun p=>es[p]?).Perm es.toList:=by
 have:=h.filterMap fun p=>es[p]?
 rwa [filterMap_getElem?_range] at this
theorem kf (es:Array (Int×Value)):∀ (ps:List Nat),(∀ p∈ps,p < es.size)->∀ i:Nat,(ps.filterMap fun p=>es[p]?)[i]? = (ps[i]?).bind fun p=>es[p]?
 | [],_,i=>by simp
 | p::r,h,i=>by
  have hp:p < es.size:=h p adV;rw [List.filterMap_cons_some (b:=es[p]) (by simp [hp])];cases i with
  | zero=>simp [hp]
  | succ i =>
   rw [aft,aft];exact kf es r (fun q hq=>h q (adN _ hq)) i
theorem yQ {Q:Option Value->Shared->Prop}{s₁:Shared}(hh:A.handled=none)(hQ:∀ h',(∀ b o,s₁.heap.get? b=some o->h'.get? b=some o)->Q none { s₁ with heap:=h' }) :
 wpAny (model prog w) A.in1 (do raiseNew (← newExc (.type "StopIteration") [])) (fun fin s'=>∃ r,fin=Fin.done (.ret r)/\wpAny (model prog w) A (match Except.ok (ε:=Value) (some r) with | .ok (some v)=>pure (some v) | .ok none=>unsupported "x" | .error e=>throw e) Q E s')
  (fun e s'=>wpAny (model prog w) A (do if ← isInstance e (.type "StopIteration") then pure none else throw e) Q E s') s₁:=by
 refine adE ?_;simp only [newExc,newTuple];refine adE (aeM ?_ (by size_fits));refine adE (m:=firstArgMember _ _) (wpAny_of_eq (a:=Value.none) (by first | rfl | (simp only [firstArgMember];rfl)) ?_);refine aeM ?_ (by size_fits);simp only [raiseNew];refine adE (wpAny_handled ?_);rw [show A.in1.handled=none from hh];refine adE (adJ (wpAny_throw ?_));refine adE (wpAny_isInstance (T := "StopIteration") (b:=true) ⟨_,adX _ rfl,rfl⟩ isSubtype_stop ?_);exact adJ (hQ _ fun b o e=>adH _ (adH _ e))
end
def ka (es:Array (Int×Value))(t:SetTable)(slot:Nat):Option (Value×Nat) :=
 match es[SetTable.below t.place slot]?,t.place[SetTable.below t.place slot]? with
  | some (_,x),some j=>some (x,j+1)
  | _,_=>none
def aac (b:Bool):Sem Unit:=do
 if b then unsupported "set:maker-not-led"
theorem rB (a:Addr):setDrawn a=(do
 let (es,_,t) ← setState a
 let byText ← setsByText
 return !byText && (!t.plain && decide (es.size > 1))):=rfl
theorem u6 (a:Addr):setWalk a=(do
 let (es,epoch,t) ← setState a
 if ← setsByText then return pickOrder ((← ask).params.setOrder a epoch) es
 if (!t.plain && decide (es.size > 1)) then return (← drawOrder es.size es.toList).toArray
 aac (!t.led && decide (es.size > 1)) >>= fun _=>pure es):=rfl
theorem nO (a:Addr)(slot given epochThen:Nat):setNext a slot given epochThen=(do
 let (es,epoch,t) ← setState a
 if ← setsByText then
  if epoch != epochThen then unsupported "set_iterator.__next__:elements-changed"
  return ((← setWalk a)[given]?).map fun e=>(e.2,slot)
 if (!t.plain && decide (es.size > 1)) then unsupported "set_iterator.__next__:the-table-is-plain-no-more"
 aac (!t.led && !es.isEmpty) >>= fun _=>pure (ka es t slot)):=rfl
section
variable {prog:Program}{w:World}{A:Around}{E:Value->Shared->Prop}{s:Shared}{a I T:Addr}{es:Array (Int×Value)}{ep:Nat}{t:SetTable}{ps:List Nat}
theorem cT {Q:Bool->Shared->Prop}(h:Q (w.params.followText "set-order") s):wpAny (model prog w) A setsByText Q E s:=by
 unfold setsByText;exact adE (afM (adJ h))
end
section
variable {prog:Program}{w:World}{A:Around}{E:Value->Shared->Prop}{s:Shared}{a I T:Addr}{es:Array (Int×Value)}{ep:Nat}{t:SetTable}{ps:List Nat}{i:Nat}
theorem sq {f x:Value}{n:Nat}{Q:Unit->Shared->Prop}(hit:SIter s.heap I a f i n ep)(h:∀ h',SIter h' I a x i n ep->Heap.SameBut I s.heap h'->Q () { s with heap:=h' }):wpAny (model prog w) A (setField (.ref I) 0 x) Q E s:=by
 obtain⟨o,ho,hc,hd⟩:=hit;refine wpAny_setField ho hd (by simp) (h _ ⟨_,ae4 _ ho (Obj.isFreed_of_fields (afT hd _)),(Obj.cls_mapFields ..).trans hc,by rw [afT hd];simp⟩ (afs ..))
theorem vz {f:Value}{n:Nat}{Q:Unit->Shared->Prop}(hit:SIter s.heap I a f i n ep)(h:∀ h',SIter h' I a f (i+1) n ep->Heap.SameBut I s.heap h'->Q () { s with heap:=h' }):wpAny (model prog w) A (setField (.ref I) 1 (rawInt ((i:Int)+1))) Q E s:=by
 obtain⟨o,ho,hc,hd⟩:=hit;refine wpAny_setField ho hd (by simp) (h _ ⟨_,ae4 _ ho (Obj.isFreed_of_fields (afT hd _)),(Obj.cls_mapFields ..).trans hc,by rw [afT hd];simp [rawInt]⟩ (afs ..))
theorem rJ {f:Value}{n:Nat}{Q:Unit->Shared->Prop}(hit:SIter s.heap I a f i n ep)(h:∀ h',Heap.SameBut I s.heap h'->Q () { s with heap:=h' }):wpAny (model prog w) A (setField (.ref I) 2 .none) Q E s:=by
 obtain⟨o,ho,hc,hd⟩:=hit;exact wpAny_setField ho hd (by simp) (h _ (afs ..))
theorem ml {h h':Heap}(x:Heap.SameBut I h h'):∀ b o,b≠I->h.get? b=some o->h'.get? b=some o:=fun b o hb e=>(x.2 b hb).trans e
theorem aar {Q:Value->Shared->Prop}{f:Value}{n:Nat}(hit:SIter s.heap I a f i n ep)(h:Q (.ref I) s):wpAny (model prog w) A (pyIter (.ref I)) Q E s:=by
 refine agK hit.typeIs kg (afv kg hit.typeIs pF ?_ (pQ _));show wpAny _ _ (ret (.ref I)) _ _ s;exact adJ ⟨_,rfl,"set_iterator",_,hit.typeIs,slot_si_next.lookup,h⟩
end
def UpP (xs:Array Nat):Prop:=∀ i j:Nat,i < j->j < xs.size->xs.getD i 0 < xs.getD j 0
theorem yL (xs:Array Nat)(j:Nat)(u:UpP xs):∀ (fuel lo hi:Nat),hi - lo<=fuel->lo<=hi->hi<=xs.size->(∀ k,k < lo->xs.getD k 0 < j)->(∀ k,hi<=k->k < xs.size->j<=xs.getD k 0) →
 SetTable.below.go xs j fuel lo hi<=xs.size/\(∀ k,k < SetTable.below.go xs j fuel lo hi->xs.getD k 0 < j)/\(∀ k,SetTable.below.go xs j fuel lo hi<=k->k < xs.size->j<=xs.getD k 0):=by
 intro fuel
 induction fuel with
 | zero =>
  intro lo hi h1 h2 h3 h4 h5;have:lo=hi:=by lia
  subst this;exact⟨h3,h4,h5⟩
 | succ fuel ih =>
  intro lo hi h1 h2 h3 h4 h5;unfold SetTable.below.go;by_cases hl:lo < hi
  ·rw [if_pos hl];dsimp only;rw [show xs.getD ((lo+hi) / 2) j=xs.getD ((lo+hi) / 2) 0 by simp only [agn];rw [ae2 (by lia)];rfl];by_cases hm:xs.getD ((lo+hi) / 2) 0 < j
   ·rw [if_pos hm];refine ih _ _ (by lia) (by lia) h3 (fun k hk=>?_) h5;by_cases e:k=(lo+hi) / 2
    ·rw [e];exact hm
    ·exact air (u k _ (by lia) (by lia)) hm
   ·rw [if_neg hm];refine ih _ _ (by lia) (by lia) (by lia) h4 (fun k hk hs=>?_);by_cases e:k=(lo+hi) / 2
    ·rw [e];lia
    ·have:=u ((lo+hi) / 2) k (by lia) hs;lia
  ·rw [if_neg hl];have:lo=hi:=by lia
   subst this;exact⟨h3,h4,h5⟩
theorem ud {xs:Array Nat}(u:UpP xs)(j:Nat):SetTable.below xs j<=xs.size/\(∀ k,k < SetTable.below xs j->xs.getD k 0 < j)/\(∀ k,SetTable.below xs j<=k->k < xs.size->j<=xs.getD k 0) :=
 yL xs j u _ _ _ (by lia) (ad7 _) (adL _) (fun k h=>absurd h (afU k)) (fun k h1 h2=>by lia)
theorem uN {xs:Array Nat}(u:UpP xs):SetTable.below xs 0=0:=by
 obtain⟨h1,h2,h3⟩:=ud u 0;by_cases e:SetTable.below xs 0=0
 ·exact e
 ·exact absurd (h2 0 (by lia)) (by lia)
theorem uI {xs:Array Nat}(u:UpP xs){i:Nat}(hi:i < xs.size):SetTable.below xs (xs.getD i 0+1)=i+1:=by
 obtain⟨h1,h2,h3⟩:=ud u (xs.getD i 0+1);by_cases a:i < SetTable.below xs (xs.getD i 0+1)
 ·by_cases b:SetTable.below xs (xs.getD i 0+1)<=i+1
  ·lia
  ·have q:=h2 (i+1) (by lia);have:=u i (i+1) (by lia) (by lia);lia
 ·have:=h3 i (by lia) hi;lia
end L2
namespace L2
open PySem PySem.Spec PyProof.Rows PySem.W
structure SbAt (w:World)(h:Heap)(a:Addr)(es:Array (Int×Value))(ep:Nat)(t:SetTable):Prop where
 get:h.get? a=some { cls:=.type "set",dict:=none,data:=.set es ep t,slots:=#[] }
 bd:es.size < scanBound
 fit:t.fits es.size=true
 led:t.led=!w.params.followText "set-order"
 up:¬ ((!t.plain && decide (es.size > 1))=true)->UpP t.place
theorem SbAt.at' {w:World}{h h':Heap}{a:Addr}{es:Array (Int×Value)}{ep:Nat}{t:SetTable}(x:SbAt w h a es ep t)(k:∀ o,h.get? a=some o->h'.get? a=some o):SbAt w h' a es ep t:=⟨k _ x.get,x.bd,x.fit,x.led,x.up⟩
theorem TxAt.sb {prog:Program}{w:World}{h:Heap}{a:Addr}{es:Array (Int×Value)}{ep:Nat}{t:SetTable}(x:TxAt prog w h a es ep t):SbAt w h a es ep t:=⟨x.get,x.bd,x.fit,x.led,fun n i j ij hj=>by
 have hp:t.place.size=es.size:=by
  have:=x.fit;simp only [SetTable.fits,aei,afh] at this;exact this.1
 refine absurd ?_ n;rcases x.pl with q | q
 ·rw [q,adY (show es.size > 1 by lia)];rfl
 ·subst q;rw [hp] at hj;exact absurd hj (afU j)⟩
def fG (t:SetTable)(i:Nat):Nat:=if i=0 then 0 else t.place.getD (i - 1) 0+1
section
variable {prog:Program}{w:World}{A:Around}{E:Value->Shared->Prop}{s:Shared}{a I:Addr}{es:Array (Int×Value)}{ep:Nat}{t:SetTable}
def bf (w:World)(es:Array (Int×Value))(t:SetTable)(T:Addr)(i:Nat):Value :=
 if w.params.followText "set-order" = true then .int 0 0 else if (!t.plain && decide (es.size > 1))=true then .ref T else .int ((fG t i:Nat):Int) 0
def dh (w:World)(a:Addr)(es:Array (Int×Value))(ep:Nat)(t:SetTable)(ps:List Nat):List (Int×Value) :=
 if w.params.followText "set-order" = true then (pickOrder (w.params.setOrder a ep) es).toList else if (!t.plain && decide (es.size > 1))=true then ps.filterMap fun p=>es[p]? else es.toList
theorem iL {ps:List Nat}(hps:ps.Perm (List.range es.size)):(dh w a es ep t ps).Perm es.toList:=by
 unfold dh;split
 ·exact iH _ _
 ·split
  ·exact jL es hps
  ·exact .rfl
structure SStY (prog:Program)(w:World)(a I T:Addr)(es:Array (Int×Value))(ep:Nat)(t:SetTable)(ps:List Nat)(i:Nat)(h:Heap):Prop where
 set:SbAt w h a es ep t
 it:SIter h I a (bf w es t T i) i es.size ep
 tup:w.params.followText "set-order" = false->(!t.plain && decide (es.size > 1))=true->IsTup h T (ps.map fun (p:Nat)=>Value.int p 0).toArray
end
section
variable {prog:Program}{w:World}{A:Around}{E:Value->Shared->Prop}{s:Shared}{a I T:Addr}{es:Array (Int×Value)}{ep:Nat}{t:SetTable}{ps:List Nat}
theorem p6 {Q:Bool->Shared->Prop}(x:SbAt w s.heap a es ep t)(h:Q (!w.params.followText "set-order" && (!t.plain && decide (es.size > 1))) s):wpAny (model prog w) A (setDrawn a) Q E s:=by
 rw [rB];refine adE (afn x.get rfl x.fit ?_);dsimp only;refine adE (cT (adJ ?_));exact h
theorem oV {Q:Array (Int×Value)->Shared->Prop}(x:SbAt w s.heap a es ep t)(ht:w.params.followText "set-order" = true)(h:Q (pickOrder (w.params.setOrder a ep) es) s):wpAny (model prog w) A (setWalk a) Q E s:=by
 rw [u6];refine adE (afn x.get rfl x.fit ?_);dsimp only;refine adE (cT ?_);rw [ht];simp only [agO];exact adE (afM (adJ h))
theorem jj {Q:Option (Value×Nat)->Shared->Prop}{given:Nat}(x:SbAt w s.heap a es ep t)(ht:w.params.followText "set-order" = true)(h:Q (((pickOrder (w.params.setOrder a ep) es)[given]?).map fun e=>(e.2,0)) s) :
 wpAny (model prog w) A (setNext a 0 given ep) Q E s:=by
 rw [nO];refine adE (afn x.get rfl x.fit ?_);dsimp only;refine adE (cT ?_);rw [ht];simp only [agO,af1,aeI,agi];refine adE (oV x ht (adJ h))
theorem kE {Q:Option (Value×Nat)->Shared->Prop}{slot given:Nat}(x:SbAt w s.heap a es ep t)(ht:w.params.followText "set-order" = false)(hs:¬ ((!t.plain && decide (es.size > 1))=true))
 (h:Q (ka es t slot) s) :
 wpAny (model prog w) A (setNext a slot given ep) Q E s:=by
 rw [nO];refine adE (afn x.get rfl x.fit ?_);dsimp only;refine adE (cT ?_);have hl:t.led=true:=by rw [x.led,ht];rfl
 rw [ht];simp only [aeI,agi,afE.mpr hs,hl,Bool.not_true,Bool.false_and,aac];exact adE (adJ (adJ h))
theorem xZ (x:SbAt w s.heap a es ep t):t.place.size=es.size:=by
 have:=x.fit;simp only [SetTable.fits,aei,afh] at this;exact this.1
theorem lY (x:SbAt w s.heap a es ep t)(hs:¬ ((!t.plain && decide (es.size > 1))=true)){i:Nat}(hi:i<=es.size):SetTable.below t.place (fG t i)=i:=by
 unfold fG;have hp:=xZ x;cases i with
 | zero=>rw [if_pos rfl];exact uN (x.up hs)
 | succ i=>rw [if_neg (Nat.succ_ne_zero i)];exact uI (x.up hs) (by lia)
theorem pj (x:SbAt w s.heap a es ep t)(hs:¬ ((!t.plain && decide (es.size > 1))=true)){i:Nat}(hi:i < es.size):ka es t (fG t i)=some (es[i].2,fG t (i+1)):=by
 have hp:=xZ x;unfold ka;rw [lY x hs (afb hi),ae2 hi,ae2 (show i < t.place.size by lia)];show some (es[i].2,t.place[i]+1)=_;unfold fG;rw [if_neg (Nat.succ_ne_zero i),Nat.add_sub_cancel,agn,ae2 (show i < t.place.size by lia)]
 rfl
theorem qk (x:SbAt w s.heap a es ep t)(hs:¬ ((!t.plain && decide (es.size > 1))=true)):ka es t (fG t es.size)=none:=by
 unfold ka;rw [lY x hs (adL _),ag5 (adL _)]
end
section
variable {prog:Program}{w:World}{A:Around}{E:Value->Shared->Prop}{s:Shared}{a I T:Addr}{es:Array (Int×Value)}{ep:Nat}{t:SetTable}{ps:List Nat}{i:Nat}
theorem SStY.next {s':Heap}(hit:SStY prog w a I T es ep t ps i s')(hI:a≠I)(hT:T≠I)(i':Nat){h':Heap}(he:SIter h' I a (bf w es t T i') i' es.size ep)(k:∀ b o,b≠I->s'.get? b=some o->h'.get? b=some o):SStY prog w a I T es ep t ps i' h' :=
 ⟨hit.set.at' fun o e=>k a o hI e,he,fun h1 h2=>by
  obtain⟨o,e,c⟩:=hit.tup h1 h2;exact⟨o,k T o hT e,c⟩⟩
theorem nQ {Q:Option Value->Shared->Prop}(hst:SStY prog w a I T es ep t ps i s.heap)
 (h:wpAny (model prog w) A.in1 (match bf w es t T i with
 | Value.int slot tok=>do
  match ← setNext a slot.toNat (i:Int).toNat (ep:Int).toNat with
   | some (x,next)=>do
    setField (Value.ref I) 0 (rawInt (next:Nat))
    setField (Value.ref I) 1 (rawInt ((i:Int)+1))
    ret x
   | none=>do
    setField (Value.ref I) 2 Value.none
    raiseNew (← newExc (Value.type "StopIteration") [])
 | _=>do
  let some places ← seqItems? (bf w es t T i) | unsupported "internal:set_iterator"
  match places[(i:Int).toNat]? with
   | some (Value.int place tok)=>do
    let x ← setNextDrawn a place.toNat (ep:Int).toNat
    setField (Value.ref I) 1 (rawInt ((i:Int)+1))
    ret x
   | some _=>unsupported "internal:set_iterator"
   | none=>do
    setField (Value.ref I) 0 (rawInt 0)
    setField (Value.ref I) 2 Value.none
    raiseNew (← newExc (Value.type "StopIteration") []))
 (fun fin s'=>∃ v,fin=Fin.done (Flow.ret v)/\wpAny (model prog w) A (pure (some v)) Q E s')
 (fun e s' =>
  wpAny (model prog w) A
   (do
    if ← isInstance e (Value.type "StopIteration") then pure none else throw e)
   Q E s')
 s):wpAny (model prog w) A (pyNext (.ref I)) Q E s:=by
 obtain⟨o,ho,hc,hd⟩:=id hst.it;obtain⟨oc,odict,odata,oslots⟩:=o;simp only at hc hd;subst hc hd;unfold pyNext;refine adE (wpAny_attempt (wpAny_callSpecial?_slot (name:=Str.ofString "__next__") hst.it.typeIs slot_si_next
  (afv slot_si_next hst.it.typeIs pd ?_ (pY _))))
 unfold Builtin.«set_iterator.__next__»;refine adE (adJ ?_);refine adE (wpAny_fieldsOf ho rfl ?_);dsimp only;refine adE (wpAny_setEntries_of hst.set.get rfl hst.set.fit ?_);simp only [af1,aeI,agi];exact h
theorem kK {Q:Value->Shared->Prop}{p:Nat}{e:Int×Value}(x:SbAt w s.heap a es ep t)(hp:es[p]? = some e)(h:Q e.2 s):wpAny (model prog w) A (setNextDrawn a p ep) Q E s:=by
 unfold setNextDrawn;refine adE (afn x.get rfl x.fit ?_);simp only [af1,aeI,agi,hp];exact adJ h
theorem mL {Q:Option Value->Shared->Prop}(hst:SStY prog w a I T es ep t ps i s.heap)(hps:ps.Perm (List.range es.size))(hI:a≠I)(hT:T≠I)(hi:i < es.size)
 (hQ:∀ v h' tk,(dh w a es ep t ps)[i]?.map (·.2)=some v->SStY prog w a I T es ep t ps (i+1) h'->(∀ b o,b≠I->s.heap.get? b=some o->h'.get? b=some o)->Q (some v) { s with heap:=h',toks:=tk }) :
 wpAny (model prog w) A (pyNext (.ref I)) Q E s:=by
 refine nQ hst ?_;have ol:(dh w a es ep t ps).length=es.size:=by rw [(iL (w:=w) (a:=a) (ep:=ep) (t:=t) hps).length_eq,aec]
 obtain⟨e,he⟩:∃ e,(dh w a es ep t ps)[i]? = some e:=⟨_,adD (by lia)⟩;have hit:=hst.it;rw [aek,aek];cases hb:w.params.followText "set-order" with
 | true =>
  have ef:∀ j,bf w es t T j=.int 0 0:=fun j=>by unfold bf;rw [if_pos hb]
  rw [ef i] at hit ⊢;dsimp only;rw [Int.toNat_zero];refine adE (jj hst.set hb ?_);have e2:(pickOrder (w.params.setOrder a ep) es)[i]? = some e:=by
   unfold dh at he;rw [if_pos hb,afj] at he;exact he
  rw [e2];dsimp only [Option.map];refine adE (sq (x:=.int 0 0) hit fun h1 it1 k1=>?_);refine adE (vz it1 fun h2 it2 k2=>?_);have k12:=(k1.trans k2);exact adJ ⟨_,rfl,adJ (hQ e.2 h2 s.toks (by rw [he];rfl) (hst.next hI hT (i+1) (by rw [ef];exact it2) (ml k12)) (ml k12))⟩
 | false =>
  by_cases hs:(!t.plain && decide (es.size > 1))=true
  ·have ef:∀ j,bf w es t T j=.ref T:=fun j=>by unfold bf;rw [if_neg (by rw [hb];exact adM),if_pos hs]
   rw [ef i] at hit ⊢;dsimp only;obtain⟨oT,hoT,hcT,nT,hdT⟩:=hst.tup hb hs;have hlt:i < ps.length:=by rw [hps.length_eq,aeB];exact hi
   refine adE (wpAny_seqItems hoT hdT ?_);dsimp only;have e1:(ps.map fun (p:Nat)=>Value.int p 0).toArray[i]? = some (.int ps[i] 0):=by simp [hlt]
   rw [e1];dsimp only;rw [aek];have pl:∀ p∈ps,p < es.size:=fun p hp=>ae1.mp (hps.mem_iff.mp hp);have e2:es[ps[i]]? = some e:=by
    unfold dh at he;rw [if_neg (by rw [hb];exact adM),if_pos hs,kf es ps pl i,adD hlt] at he;exact he
   refine adE (kK hst.set e2 ?_);refine adE (vz hit fun h2 it2 k2=>?_);exact adJ ⟨_,rfl,adJ (hQ e.2 h2 s.toks (by rw [he];rfl) (hst.next hI hT (i+1) (by rw [ef];exact it2) (ml k2)) (ml k2))⟩
  ·have ef:∀ j,bf w es t T j=.int ((fG t j:Nat):Int) 0:=fun j=>by unfold bf;rw [if_neg (by rw [hb];exact adM),if_neg hs]
   rw [ef] at hit ⊢;dsimp only;rw [aek];refine adE (kE hst.set hb hs ?_);have e2:e=es[i]:=by
    unfold dh at he;rw [if_neg (by rw [hb];exact adM),if_neg hs,afj,ae2 hi] at he;injection he with he
    exact he.symm
   rw [pj hst.set hs hi];dsimp only;refine adE (sq (x:=.int ((fG t (i+1):Nat):Int) 0) hit fun h1 it1 k1=>?_);refine adE (vz it1 fun h2 it2 k2=>?_);have k12:=(k1.trans k2);exact adJ ⟨_,rfl,adJ (hQ es[i].2 h2 s.toks (by rw [he,e2];rfl) (hst.next hI hT (i+1) (by rw [ef];exact it2) (ml k12)) (ml k12))⟩
theorem nh {Q:Option Value->Shared->Prop}(hh:A.handled=none)(hst:SStY prog w a I T es ep t ps es.size s.heap)(hps:ps.Perm (List.range es.size))
 (hQ:∀ h' tk,(∀ b o,b≠I->s.heap.get? b=some o->h'.get? b=some o)->Q none { s with heap:=h',toks:=tk }) :
 wpAny (model prog w) A (pyNext (.ref I)) Q E s:=by
 refine nQ hst ?_;have hit:=hst.it;have fin:∀ {h1:Heap},Heap.SameBut I s.heap h1->wpAny (model prog w) A.in1 (do raiseNew (← newExc (.type "StopIteration") [])) (fun fin s'=>∃ v,fin=Fin.done (Flow.ret v)/\wpAny (model prog w) A (pure (some v)) Q E s')
  (fun e s'=>wpAny (model prog w) A (do if ← isInstance e (Value.type "StopIteration") then pure none else throw e) Q E s') { s with heap:=h1 }:=fun {h1} k1 =>
  yQ (s₁:={ s with heap:=h1 }) hh fun h' k=>hQ h' s.toks fun b o hb e=>k b o (ml k1 b o hb e)
 rw [aek,aek];cases hb:w.params.followText "set-order" with
 | true =>
  have ef:∀ j,bf w es t T j=.int 0 0:=fun j=>by unfold bf;rw [if_pos hb]
  rw [ef] at hit ⊢;dsimp only;rw [Int.toNat_zero];refine adE (jj hst.set hb ?_);have e2:(pickOrder (w.params.setOrder a ep) es)[es.size]? = none:=by
   have:=(iH (w.params.setOrder a ep) es).length_eq;rw [aec,aec] at this;exact ag5 (by lia)
  rw [e2];dsimp only [Option.map];exact adE (rJ hit fun h1 k1=>fin k1)
 | false =>
  by_cases hs:(!t.plain && decide (es.size > 1))=true
  ·have ef:∀ j,bf w es t T j=.ref T:=fun j=>by unfold bf;rw [if_neg (by rw [hb];exact adM),if_pos hs]
   rw [ef] at hit ⊢;dsimp only;obtain⟨oT,hoT,hcT,nT,hdT⟩:=hst.tup hb hs;refine adE (wpAny_seqItems hoT hdT ?_);dsimp only;have e1:(ps.map fun (p:Nat)=>Value.int p 0).toArray[es.size]? = none:=by
    have:=hps.length_eq;rw [aeB] at this;simp [this]
   rw [e1];dsimp only;refine adE (sq (x:=.int 0 0) hit fun h1 it1 k1=>?_);exact adE (rJ it1 fun h2 k2=>fin (k1.trans k2))
  ·have ef:∀ j,bf w es t T j=.int ((fG t j:Nat):Int) 0:=fun j=>by unfold bf;rw [if_neg (by rw [hb];exact adM),if_neg hs]
   rw [ef] at hit ⊢;dsimp only;rw [aek];refine adE (kE hst.set hb hs ?_);rw [qk hst.set hs];dsimp only;exact adE (rJ hit fun h1 k1=>fin k1)
theorem Walks.setY (hh:A.handled=none)(hI:a≠I)(hT:T≠I)(hps:ps.Perm (List.range es.size)) :
 Walks prog w A I [I,a,T] [I] es.size (fun i v=>(dh w a es ep t ps)[i]?.map (·.2)=some v) (fun i h=>SStY prog w a I T es ep t ps i h) where
 sub:=fun b hb=>by simp at hb;simp [hb]
 frame:=fun i h h' st hk=>⟨st.set.at' fun o e=>hk a (by simp) o e,st.it.at' fun o e=>hk I (by simp) o e,fun h1 h2=>let ⟨o,e,c⟩:=st.tup h1 h2;⟨o,hk T (by simp) o e,c⟩⟩
 item:=fun i s Q E hi st hQ=>mL st hps hI hT hi fun v h' tk e st' k=>hQ v h' tk e st' fun b o hb q=>k b o (fun z=>hb (by simp [z])) q
 done:=fun s Q E st hQ=>nh hh st hps fun h' tk k=>hQ h' tk fun b o hb q=>k b o (fun z=>hb (by simp [z])) q
 self:=fun i s Q E st hQ=>aar st.it hQ
theorem rV {Q:Value->Shared->Prop}(x:SbAt w s.heap a es ep t)
 (h:∀ (I T:Addr) (ps:List Nat) (h':Heap) (d:Drawn),ps.Perm (List.range es.size)->a≠I->T≠I->s.heap.objs.size<=I->(T=a\/s.heap.objs.size<=T)->I < h'.objs.size->T < h'.objs.size->SStY prog w a I T es ep t ps 0 h'->(∀ b o,s.heap.get? b=some o->h'.get? b=some o)->Q (.ref I) { s with heap:=h',drawn:=d }) :
 wpAny (model prog w) A (pyIter (.ref a)) Q E s:=by
 have hT:s.TypeIs (.ref a) "set" := ⟨_,x.get,rfl⟩;have hlt:a < s.heap.objs.size:=adQ x.get;refine agK hT F.slot_set_iter (afv F.slot_set_iter hT mV ?_ (F.args_set_iter_1 _));unfold Builtin.«frozenset.__iter__» Builtin.Frozenset.slot0 slotArgs;simp only [List.isEmpty_nil,Bool.not_true,aeI,↓reduceIte,bind_assoc,ahd,af1];unfold Builtin.Frozenset.addrOf Builtin.Frozenset.sizeOf;refine adE (adJ ?_)
 try dsimp only
 refine adE (adJ ?_);refine adE (adE (wpAny_setEntries_of x.get rfl x.fit (adJ ?_)));refine adE (p6 x ?_);have fin:∀ (T:Addr) (ps:List Nat) (h1:Heap) (d:Drawn),ps.Perm (List.range es.size)->(T=a\/s.heap.objs.size<=T)->T < h1.objs.size->(∀ b o,s.heap.get? b=some o->h1.get? b=some o)->s.heap.objs.size<=h1.objs.size →
  (w.params.followText "set-order" = false->(!t.plain && decide (es.size > 1))=true->IsTup h1 T (ps.map fun (p:Nat)=>Value.int p 0).toArray) →
  wpAny (model prog w) A.in1 (do
   let r ← newFields "set_iterator" [bf w es t T 0,rawInt 0,Value.ref a,rawInt (es.size:Nat),rawInt (ep:Nat)]
   ret r) (fun fin s'=>∃ v,fin=Fin.done (Flow.ret v)/\∃ T' r,s'.TypeIs v T'/\typeLookup (Value.type T') (Str.ofString "__next__")=pure (some r)/\Q v s') E { s with heap:=h1,drawn:=d }:=fun T ps h1 d hps hTa hTl k hz hp=>by
  refine adE (aeM (adJ ⟨_,rfl,"set_iterator",_,⟨_,adX _ rfl,rfl⟩,slot_si_next.lookup,?_⟩));have k2:∀ b o,h1.get? b=some o->(h1.push { cls:=.type "set_iterator",data:=.fields #[bf w es t T 0,rawInt 0,Value.ref a,rawInt (es.size:Nat),rawInt (ep:Nat)] }).get? b=some o:=fun b o e=>adH _ e;refine h h1.objs.size T ps (h1.push { cls:=.type "set_iterator",data:=.fields #[bf w es t T 0,rawInt 0,Value.ref a,rawInt (es.size:Nat),rawInt (ep:Nat)] }) d hps (ad2 (adU hlt hz)) (ad2 hTl) hz hTa (by rw [aex];exact afu _) (by rw [aex];exact aeN hTl) ⟨x.at' fun o e=>k2 _ _ (k _ _ e),⟨_,adX _ rfl,rfl,rfl⟩,fun h1 h2=>?_⟩ fun b o e=>k2 _ _ (k _ _ e);obtain⟨o,e,c⟩:=hp h1 h2;exact⟨o,k2 _ _ e,c⟩
 by_cases hd:w.params.followText "set-order" = false/\(!t.plain && decide (es.size > 1))=true
 ·have e1:(!w.params.followText "set-order" && (!t.plain && decide (es.size > 1)))=true:=by rw [hd.1,hd.2];rfl
  rw [e1];simp only [agO];refine adE (gP _ _ _ _ (by simp) fun ys d p=>?_);simp only [newTuple];have hys:ys.length<=sizeLine:=by rw [p.length_eq,aeB];exact af0 x.bd
  refine adE (aeM ?_ (by show (List.map (fun (i:Nat)=>rawInt i) ys).toArray.size<=sizeLine;simpa using hys));refine adE (wpAny_setEpoch_of (adH _ x.get) rfl x.fit ?_);have ef:bf w es t s.heap.objs.size 0=.ref s.heap.objs.size:=by unfold bf;rw [if_neg (by rw [hd.1];exact adM),if_pos hd.2]
  have q:=fin s.heap.objs.size ys (s.heap.push { cls:=.type "tuple",data:=.seq (ys.map fun (p:Nat)=>Value.int p 0).toArray }) d p (.inr (adL _)) (by rw [aex];exact afu _) (fun b o e=>adH _ e) (by rw [aex];exact ae7 _) (fun _ _=>⟨_,adX _ rfl,rfl,_,rfl⟩);rw [ef] at q;exact q
 ·have e1:(!w.params.followText "set-order" && (!t.plain && decide (es.size > 1)))=false:=by
   rw [afE];intro z;rw [aei,agI] at z;exact hd z
  rw [e1];simp only [aeI,agi];refine adE (adJ ?_);refine adE (wpAny_setEpoch_of x.get rfl x.fit ?_);have ef:bf w es t a 0=rawInt 0:=by
   unfold bf;split
   ·rfl
   ·split
    ·rename_i q1 q2;exact absurd ⟨by simpa using q1,q2⟩ hd
    ·rfl
  have q:=fin a (List.range es.size) s.heap s.drawn .rfl (.inl rfl) hlt (fun _ _ e=>e) (adL _) (fun h1 h2=>absurd ⟨h1,h2⟩ hd);rw [ef] at q;exact q
end
section
variable {prog:Program}{w:World}{A:Around}{E:Value->Shared->Prop}{s:Shared}{a I T:Addr}{es:Array (Int×Value)}{ep:Nat}{t:SetTable}{ps:List Nat}{i:Nat}
theorem yN {Q:Bool->Shared->Prop}(hT:s.TypeIs (.ref a) "set")(h:Q false s):wpAny (model prog w) A (Builtin.List.listLengthHint (.ref a)) Q E s:=by
 unfold Builtin.List.listLengthHint;refine adE (wpAny_specialOf hT PySem.F.slot_set_len.lookup ?_);generalize hid:("set.__len__" : String)=id0
 wp_delta
 rw [show splitId id0=some ("set","__len__") from by subst hid;decide +kernel];subst hid;refine adE (wpAny_isInstance (T := "set") (b:=true) hT (by rw [isSubtype_type];kernel_rfl) ?_);refine ahj (fun hab=>absurd hab (by decide)) (fun _=>?_);refine ahj (fun _=>?_) (fun hab=>absurd (by decide +kernel) hab);refine adE (wpAny_typeOf hT ?_);exact adJ h
theorem sk {R:Result->Shared->Prop}(hh:A.handled=none)(x:SbAt w s.heap a es ep t)(S:Addr)(hSa:S≠a)(res:Value)(c₀:Nat)(hS:s.heap.get? S=some { cls:=.type "list",data:=.seq #[] c₀ })
 (hR:∀ h' d tk acc' c' ps,ps.Perm (List.range es.size)->(∀ b o,b≠S->s.heap.get? b=some o->h'.get? b=some o)->h'.get? S=some { cls:=.type "list",dict:=none,data:=.seq acc' c',slots:=#[] }->ItemsOf (fun i v=>(dh w a es ep t ps)[i]?.map (·.2)=some v) acc' es.size->R (.ok (.ret res)) { s with heap:=h',drawn:=d,toks:=tk }) :
 wpAny (model prog w) A.in1 (Builtin.List.listExtendWith (.ref S) (.ref a) res)
  (fun fin s'=>match fin with | .done f=>R (.ok f) s' | .again c'=>c'.quiet=true/\codeAny (model prog w) A c' R s') (fun e s'=>R (.error e) s') s:=by
 have hn:es.size<=sizeLine:=af0 x.bd;have hSlt:S < s.heap.objs.size:=adQ hS;unfold Builtin.List.listExtendWith;refine adE (wpAny_typeOf (T := "set") ⟨_,x.get,rfl⟩ ?_);have h1:Builtin.List.listSameRef (.ref S) (.ref a)=false:=by simp [Builtin.List.listSameRef,hSa]
 have h2:(Value.type "set" == Value.type "list")=false:=by decide
 have h3:(Value.type "set" == Value.type "tuple")=false:=by decide
 simp only [h1,h2,h3,Bool.or_false,aeI,agi];refine adE (rV x fun I T ps h1 d hps haI hTI hIs hTs hIl hTl st k1=>?_);have hSI:S≠I:=ad2 (adU hSlt hIs);have hST:S≠T:=by
  rcases hTs with z | z
  ·rw [z];exact hSa
  ·exact ad2 (adU hSlt z)
 have hSf:S ∉ [I,a,T]:=by simp only [adO,aet,agy,not_or];exact⟨hSI,hSa,hST⟩
 have W:Walks prog w A.in1 I [I,a,T] [I] es.size (fun i v=>(dh w a es ep t ps)[i]?.map (·.2)=some v) (fun i h=>SStY prog w a I T es ep t ps i h):=Walks.setY hh haI hTI hps;have key:∀ (h:Heap) (c₁ tk:Nat),SStY prog w a I T es ep t ps 0 h->(∀ b o,b≠S->s.heap.get? b=some o->h.get? b=some o) →
  h.get? S=some { cls:=.type "list",data:=.seq #[] c₁ }->codeAny (model prog w) A (.builtin "list.extend.loop" ⟨[.ref S,.ref I,res],[]⟩) R { s with heap:=h,drawn:=d,toks:=tk }:=by
  intro h c₁ tk hst hk hS₁;refine codeAny_extend_loopS W.toS hn S hSf res es.size 0 _ #[] c₁ rfl (ad7 _) hst hS₁ (ItemsOf.nil _) fun s' acc' c' hm hS' hacc=>?_;rw [Moved.eq_with hm];refine hR s'.heap _ s'.toks acc' c' ps hps (fun b o hb e=>hm.heap b o (fun hmem=>?_) (hk b o hb e)) hS' hacc;rcases adO.mp hmem with e' | hmem
  ·exact hb e'
  ·rw [adT.mp hmem] at e;exact absurd (adU (adQ e) hIs) (aez _)
 have hS₁:=k1 _ _ hS;refine adE (aeQ (yN ⟨_,k1 _ _ x.get,rfl⟩ ?_));refine ahj (fun _=>?_) (fun _=>adJ ⟨plainId_quiet agB _,key _ c₀ _ st (fun b o _ e=>k1 _ _ e) hS₁⟩);refine adE (afO ?_);refine adE ?_;show wpAny _ _ (updateSeq S (·.push .none) >>= fun _=>updateSeq S (·.pop)) _ _ _;refine adE (wpAny_updateSeq hS₁ rfl ?_);have hS₂:=ae4 (Obj.mapSeq (·.push Value.none)) hS₁ rfl;refine wpAny_updateSeq (hz:=by seq_fits) hS₂ rfl ?_;have hS₃:=ae4 (Obj.mapSeq (·.pop)) hS₂ rfl;refine adJ ⟨plainId_quiet agB _,key _ _ _ ?_ (fun b o hb e=>?_) hS₃⟩
 ·refine W.frame 0 _ _ st fun b hb o e=>?_;have hbS:b≠S:=fun h=>hSf (h▸hb);exact (aeX _ _ (aeL hbS)).trans ((aeX _ _ (aeL hbS)).trans e)
 ·exact (aeX _ _ (aeL hb)).trans ((aeX _ _ (aeL hb)).trans (k1 _ _ e))
theorem pK {R:List Value->Shared->Prop}(hh:A.handled=none)(x:SbAt w s.heap a es ep t)
 (h:∀ (h':Heap) (d:Drawn) (tk:Nat) (acc:List Value),(∀ b o,s.heap.get? b=some o->h'.get? b=some o)->s.heap.objs.size<=h'.objs.size->acc.Perm (es.toList.map (·.2))->R acc { s with heap:=h',drawn:=d,toks:=tk }) :
 wpAny (model prog w) A (collect (.ref a)) R E s:=by
 have hlt:a < s.heap.objs.size:=adQ x.get;have fin:∀ (acc:Array Value) (ps:List Nat),ps.Perm (List.range es.size)->ItemsOf (fun i v=>(dh w a es ep t ps)[i]?.map (·.2)=some v) acc es.size->acc.toList.Perm (es.toList.map (·.2)):=fun acc ps hps ha=>by
  have e:acc.toList=(dh w a es ep t ps).map (·.2):=by
   apply List.ext_getElem?;intro i;rw [adK];cases q:acc.toList[i]? with
   | some v=>exact (ha.2 i v (by rw [← afj];exact q)).symm
   | none =>
    have:=List.getElem?_eq_none_iff.mp q;rw [aec,ha.1] at this;have ol:(dh w a es ep t ps).length=es.size:=by rw [(iL (w:=w) (a:=a) (ep:=ep) (t:=t) hps).length_eq,aec]
    rw [af7 (by lia)]
    rfl
  rw [e];exact (iL hps).map _
 unfold collect;refine adE (wpAny_runValue (codeAny_builtin entry_proto_collect' ?_));rw [Around.under_plainId PySem.F.plain_proto_collect _];show wpAny _ A.in1 (newList [] >>= fun l=>again (.builtin "list.__iadd__" ⟨[l,.ref a],[]⟩)) _ _ s;refine adE (aeM ?_);refine adJ ⟨plainId_quiet agU _,codeAny_builtin entry_list_iadd' ?_⟩;rw [Around.under_plainId agU _];have hS₁:(s.heap.push { cls:=.type "list",data:=.seq ([]:List Value).toArray }).get? s.heap.objs.size=some { cls:=.type "list",data:=.seq #[] }:=adX _ rfl;show wpAny _ A.in1 (Builtin.List.listExtendWith (.ref s.heap.objs.size) (.ref a) (.ref s.heap.objs.size)) _ _ _;have key:=sk (prog:=prog) (A:=A) (s:={ s with heap:=s.heap.push { cls:=.type "list",data:=.seq ([]:List Value).toArray } })
  (R:=fun (q:Result) (s':Shared)=>∃ (h':Heap) (d:Drawn) (tk:Nat) (acc':Array Value) (c':Nat),q=.ok (.ret (.ref s.heap.objs.size))/\s'={ s with heap:=h',drawn:=d,toks:=tk } ∧
   (∀ b o,s.heap.get? b=some o->h'.get? b=some o)/\h'.get? s.heap.objs.size=some { cls:=.type "list",dict:=none,data:=.seq acc' c',slots:=#[] }/\acc'.toList.Perm (es.toList.map (·.2)))
  hh (x.at' fun o e=>adH _ e) s.heap.objs.size (af5 hlt) (.ref s.heap.objs.size) 0 hS₁
  (fun h' d tk acc' c' ps hps hk hS' hacc=>⟨h',d,tk,acc',c',rfl,rfl,fun b o e=>hk b o (ad2 (adQ e)) (adH _ e),hS',fin _ _ hps hacc⟩)
 refine aed key (fun fin s' x=>?_) fun e s' x=>?_
 ·cases fin with
  | done f =>
   obtain⟨h',d,tk,acc',c',e,rfl,hk,hS',hacc⟩:=x;cases e;show wpAny _ A (load s.heap.objs.size >>= _) _ _ _;refine adE (wpAny_load hS' ?_);exact adJ (h h' d tk acc'.toList hk (afb (adQ hS')) hacc)
  | again c₁ =>
   refine⟨x.1,afC x.2 fun q s₂ y=>?_⟩;obtain⟨h',d,tk,acc',c',rfl,rfl,hk,hS',hacc⟩:=y;show wpAny _ A (load s.heap.objs.size >>= _) _ _ _;refine adE (wpAny_load hS' ?_);exact adJ (h h' d tk acc'.toList hk (afb (adQ hS')) hacc)
 ·obtain⟨_,_,_,_,_,e',_⟩:=x;cases e'
end
section
variable {prog:Program}{w:World}{A:Around}{E:Value->Shared->Prop}{s:Shared}{a I T:Addr}{es:Array (Int×Value)}{ep:Nat}{t:SetTable}{ps:List Nat}{i:Nat}
theorem aaP {l:List (Int×Value)}(h:ElemsOf (PySem.strKind prog w) l):StrsAre (l.map (·.2)) (l.map fun e=>strOf e.2):=by
 have:=strsAre_map (l.map (·.2)) fun v hv=>by
  obtain⟨e,he,rfl⟩:=ad5.mp hv;obtain⟨tk,e2⟩:=xS h he;exact⟨strOf e.2,tk,by rw [e2];rfl⟩
 rw [ael] at this;exact this
theorem u0 {Q:Value->Shared->Prop}{ss:List Str}(hh:A.handled=none)(x:TxSet prog w s.heap a ss)(h64:ss.length < 64)
 (h:∀ (h':Heap) (d:Drawn) (tk:Nat) (l:Addr) (vs:List Value) (ss':List Str) (e:Nat),(∀ b o,s.heap.get? b=some o->h'.get? b=some o)->s.heap.objs.size<=l->h'.get? l=some (seqObj "list" vs.toArray e)->StrsAre vs ss'->ss'.Perm ss->sortedS ss'=true->Q (.ref l) { s with heap:=h',drawn:=d,toks:=tk }) :
 wpAny (model prog w) A (call (.builtin "sorted") [.ref a]) Q E s:=by
 obtain⟨es,ep,t,T,e,nd⟩:=x;subst e;refine Calls.call_function_entry kind_sorted plain_sorted entry_sorted (args_sorted1 _) ?_;unfold Builtin.«sorted»;refine adE (m:=checkCount "sorted" 1 1 _) (adJ ?_);refine adE (pK (prog:=prog) (A:=A.in1) hh T.sb fun h1 d tk acc k1 hsz hp=>?_);have hst:=aaP T.el;have hS:StrsAre acc (acc.map strOf):=strsAre_map acc fun v hv=>hst.all v (hp.mem_iff.mp hv);have hpm:(acc.map strOf).Perm (xE es):=by
  have:=hp.map strOf;rw [ael] at this;exact this
 have hl:acc.length < 64:=by
  have:=hpm.length_eq;rw [adG] at this;lia
 refine adE (wpAny_newList ?_ (afb (adU hl (by decide))));show wpAny _ _ _ _ _ { s with heap:=h1.push (seqObj "list" acc.toArray 0),drawn:=d,toks:=tk };have hoL:(h1.push (seqObj "list" acc.toArray 0)).get? h1.objs.size=some (seqObj "list" acc.toArray 0):=adX _ rfl;refine adE (aeQ (afv slot_list_sort ⟨_,hoL,rfl⟩ entry_list_sort (list_sort_treeK strKind_oneLt hoL hS.keysOf (fun v₁ v₂ pG e=>keyKind_strs (by rw [← e];exact hS)) hl fun st' a1 a2=>⟨_,rfl,?_⟩) (args_list_sort _)));obtain⟨ss',b1,b2,b3⟩:=sorted_out_str hS a1 a2;obtain⟨e,he⟩:=sortedHeap_at (vs:=acc) (out:=(arrOf st').map (·.2)) hoL;refine adJ ⟨_,rfl,h _ d tk h1.objs.size ((arrOf st').map (·.2)).toList ss' e (fun b o q=>?_) hsz (by rw [Array.toArray_toList];exact he) b1 (b2.trans hpm) b3⟩;have q1:=k1 _ _ q;rw [sortedHeap_old (ad2 (adQ q1)) (by rw [size_push'];exact aeN (adQ q1))];exact adH _ q1
end
end L2
namespace L2
open PySem PySem.Spec PyProof.Rows
section
variable {prog:Program}{w:World}{A:Around}{R:Result->Shared->Prop}{I:Addr}{fp wr:List Addr}{G:Array GenState->Array GenState->Prop}{n:Nat}{P:Nat->Value->Prop}{St:Nat->Shared->Prop}
theorem TxSet.nd {h:Heap}{a:Addr}{ss:List Str}(x:TxSet prog w h a ss):ss.Nodup:=let ⟨_,_,_,_,_,n⟩:=x;n
end
section
variable {prog:Program}{w:World}{A:Around}{E:Value->Shared->Prop}{s:Shared}
theorem yp (prog:Program)(w:World)(h:Heap):TxSet prog w (h.push { cls:=.type "set",dict:=none,data:=.set #[] 0 (.fresh 0 0 (!w.params.followText "set-order")) }) h.objs.size [] :=
 ⟨#[],0,_,⟨adX _ rfl,fun e he=>by simp at he,by decide,rfl,rfl,.inr rfl⟩,rfl,ahD⟩
end
theorem Inv.drawn' {X:Cx}{pins:List (Addr×Obj)}{σ:St}{H:Hp}{s:Shared}(I:Inv X pins σ H s)(d:Drawn):Inv X pins σ H { s with drawn:=d }:=⟨I.ok,I.os,I.bare,I.base,I.loc,I.cell,I.free,I.freeC,I.pin,I.hok,I.len⟩
def kJ (P:Program)(w:World)(a:Addr)(ss:List Str):HO:=.ext fun h=>TxSet P w h a ss
theorem zH {P:Program}{w:World}{H:Hp}{h:Heap}{a:Addr}{ss:List Str}(x:TxSet P w h a ss):ObjOk P w H h a (kJ P w a ss) :=
 ⟨x,(let ⟨_,_,_,T,_⟩:=x;⟨_,T.get⟩),fun _ _ y k=>y.at' k⟩
theorem zG {P:Program}{w:World}{H:Hp}{h:Heap}{a:Addr}{ss:List Str}(ok:HOk P w H h)(e:H a=some (kJ P w a ss)):TxSet P w h a ss:=(ok a _ e).1
section
variable {X:Cx}
theorem mJ (hc:X.calm=true):gX X (.builtin "sorted") (fun xs H Q=>∃ (a:Addr) (ss:List Str),xs=[.ref a]/\H a=some (kJ X.prog X.w a ss)/\ss.length < 64/\∀ (l:Addr) (ss':List Str),H l=none->ss'.Perm ss->sortedS ss'=true->Q (.ref l) (upd H l (.lst (ss'.map V.str)))):=by
 intro pins s σ H xs us Q I r h;obtain⟨a,ss,rfl,e,hl,q⟩:=h;obtain⟨u,rfl,rx⟩:=ja r;cases rx;refine u0 (I.ok.hd hc) (zG I.hok e) hl fun h' d tk l vs ss' ep k hz hg hS hp hs=>?_;refine⟨.ref l,_,((I.laid (t':=tk) (o:=.lst (ss'.map V.str)) k hz ⟨?_,vs,ep,jQ hS,hg⟩).drawn' d),rfl,q l ss' (I.hok.fresh hz) hp hs⟩;rw [adG,hp.length_eq];exact afb (adU hl (by decide))
end
section
variable {prog:Program}{w:World}{A:Around}{R:Result->Shared->Prop}{s:Shared}
theorem uU {kx vx target iter:Expr}{ifs:List Expr}{scope:Scope}{pos:Pos}{it:Value}{D:Addr}{env:Env}(I:Nat->Shared->Prop)
 (turn:∀ n s,I n s->wpAny (model prog w) A (pyNext it) (fun r s₁=>match r with
  | none=>R (.ok .next) s₁
  | some v=>wpAny (model prog w) A (letOwnedTupleGo target it v) (fun _ s₁'=>wpAny (model prog w) A (assign target env v) (fun _ s₂ =>
   wpAny (model prog w) A (forIn ifs true fun c r=>if r=true then do let ok ← isTrue c env (eval c env);pure (ForInStep.yield ok) else pure (ForInStep.yield r)) (fun ok s₃ =>
    if ok=true then wpAny (model prog w) A (eval kx env) (fun kv s₄=>wpAny (model prog w) A (eval vx env) (fun vv s₅ =>
     wpAny (model prog w) A (dictSet D kv vv) (fun _ s₆=>∃ m,m < n/\I m s₆) (fun _ _=>False) s₅) (fun _ _=>False) s₄) (fun _ _=>False) s₃
    else ∃ m,m < n/\I m s₃) (fun _ _=>False) s₂) (fun _ _=>False) s₁') (fun _ _=>False) s₁) (fun _ _=>False) s)
 (n:Nat)(h:I n s) :
 codeAny (model prog w) A (.compLoop (.DictComp kx vx [⟨target,iter,ifs,0⟩] scope pos) 0 it (.ref D) env) R s:=by
 have no:∀ {E:Value->Shared->Prop} (x:Value) (s:Shared),False->E x s:=fun _ _ z=>z.elim;refine ahf rfl I (fun n s hI=>?_) n h;show wpAny _ A ((compTurn (.DictComp kx vx [⟨target,iter,ifs,0⟩] scope pos) 0 it (.ref D) env).onRaise (fun x=>do noteFrame x env;theTreesLotGoes x)) _ _ s;refine ahI ?_;rw [compTurn_dict];refine adE (aeC (adE (aed (turn n s hI) (fun r s₁ h₁=>?_) no)));cases r with
 | none=>exact adJ h₁
 | some v =>
  refine adE (aed h₁ (fun _ s₁' h₁'=>adE (aed h₁' (fun _ s₂ h₂=>adE (aed h₂ (fun ok s₃ h₃=>?_) no)) no)) no);cases ok with
  | false=>exact adJ ⟨rfl,h₃⟩
  | true =>
   exact adE (adE (aed h₃ (fun kv s₄ h₄=>adE (aeQ (aed h₄ (fun vv s₅ h₅=>adE (aeC (aeQ (aed h₅ (fun _ s₆ h₆=>adJ ⟨rfl,h₆⟩) no)))) no))) no))
end
def wM (nl:Nat)(ix:List Nat)(wi:TI)(g:TG)(tf:TT)(tk tv:TE):TE:=fun σ H Q=>wi σ H fun J H1=>∀ D,H1 D=none->∃ W:Nat->Nat->List (Key×V)->Hp->Prop,(∃ m,W 0 m [] (upd H1 D (.dK []))) ∧
 ∀ i m ys H2,W i m ys H2->H2 D=some (.dK ys)/\((J.stop i H2/\Q (.ref D) H2)\/(J.go i H2/\∀ x H3,J.yld i H2 x H3->g x (cz nl ix σ) H3 fun σ4 H4=>(σ4.length=(cz nl ix σ).length/\σ4.drop nl=ix.map fun j=>(σ[j]?).join)/\tf σ4 H4 fun b H5 =>
  if b=true then tk σ4 H5 fun z H6=>tv σ4 H6 fun y H7=>∃ k:Key,z=kV k/\H7 D=some (.dK ys)/\ys.length < sizeLine/\∃ m',m' < m/\W (i+1) m' (fJ ys k y) (upd H7 D (.dK (fJ ys k y))) else ∃ m',m' < m/\W (i+1) m' ys H5))
section
variable {X:Cx}
end
end L2
namespace L2
open PySem PySem.Spec PyProof.Rows PySem.W
section
variable {X:Cx}{pins:List (Addr×Obj)}{σ:St}{H:Hp}{s:Shared}{a:Addr}{o:Obj}{kvs:List (Key×V)}
theorem Inv.freeze (I:Inv X pins σ H s)(e:H a=some (.dK kvs))(ho:s.heap.get? a=some o):Inv X pins σ (upd H a (.frz o (.dK kvs))) s:=by
 have q:=I.hok a _ e;refine I.write (x:=a) (e:=a) (o:=.frz o (.dK kvs)) (h':=s.heap) (t':=s.toks) (by rw [e];exact True.intro) (.inl rfl) (fun b u _ z=>z) ⟨o,ho⟩ ⟨ho,?_⟩;exact q.stay (fun _ _ _ z=>z) (fun b z=>by rw [aj (vT z e (fun z=>nomatch z))];exact z) fun b xs z=>by rw [aj (vT z e (fun z=>nomatch z))];exact z
theorem Inv.notFrz (I:Inv X pins σ H s)(e:H a=some (.dK kvs)):∀ o u,X.H₀ a≠some (.frz o u):=fun o u z=>by
 have:=I.base.frzs a o u z;rw [e] at this;cases this
theorem Inv.thaw (I:Inv X pins σ H s)(e:H a=some (.frz o (.dK kvs)))(nf:∀ o u,X.H₀ a≠some (.frz o u)):Inv X pins σ (upd H a (.dK kvs)) s:=by
 have nt:∀ xs,X.H₀ a≠some (.tup xs):=fun xs z=>by have:=I.base.tups a xs z;rw [e] at this;cases this
 have nb:∀ ps,X.H₀ a≠some (.tbl ps):=fun ps z=>by obtain⟨_,q⟩:=I.base.tbls a ps z;rw [e] at q;cases q
 have ne:∀ {b},H b=none->b≠a:=fun h z=>by subst z;rw [e] at h;cases h
 refine⟨I.ok,I.os,I.bare,⟨I.base.keep,I.base.slot,fun b ob q n hx=>?_,I.base.there,fun b xs z=>?_,fun b ob u z=>?_,fun b ps z=>?_⟩,I.loc,I.cell,?_,fun x c z=>?_,fun p hp=>?_,fun b u z=>?_,I.len⟩
 ·have:=I.base.free b ob q n hx;rw [aj (ne this)];exact this
 ·rw [aj (show b≠a from fun w=>by subst w;exact nt xs z)];exact I.base.tups b xs z
 ·rw [aj (show b≠a from fun w=>by subst w;exact nf ob u z)];exact I.base.frzs b ob u z
 ·rw [aj (show b≠a from fun w=>by subst w;exact nb ps z)];exact I.base.tbls b ps z
 ·rw [aj (ne I.free)];exact I.free
 ·rw [aj (ne (I.freeC x c z))];exact I.freeC x c z
 ·obtain⟨p1,p2,p3⟩:=I.pin p hp;exact⟨p1,by rw [aj (ne p2)];exact p2,p3⟩
 ·have st:∀ {c w},ObjOk X.prog X.w H s.heap c w->ObjOk X.prog X.w (upd H a (.dK kvs)) s.heap c w:=fun {c w} q =>
   q.stay (fun _ _ _ z=>z) (fun b z=>by rw [aj (vT z e (fun z=>nomatch z))];exact z) fun b xs z=>by rw [aj (vT z e (fun z=>nomatch z))];exact z
  by_cases hb:b=a
  ·subst hb;rw [af] at z;cases z;exact st (I.hok _ _ e).2
  ·rw [aj hb] at z;exact st (I.hok b u z)
end
def ItK (a:Addr)(o:Obj)(kvs:List (Key×V)):It :=
 ⟨fun i H=>i < kvs.length/\H a=some (.frz o (.dK kvs)),fun i H x H'=>H'=H/\∃ k v,kvs[i]? = some (k,v)/\x=kV k,fun i H=>i=kvs.length/\H a=some (.frz o (.dK kvs))⟩
theorem oW {P:Program}{w:World}{k:Key}{u:Value}(h:(aT P w).is k u=true):RelV (kV k) u:=by
 rcases bQ h with ⟨i,t,rfl,rfl⟩ | ⟨x,t,rfl,rfl⟩
 ·exact⟨t,rfl⟩
 ·exact⟨t,rfl⟩
theorem vt {P:Program}{w:World}{K:PySem.W.Frag}{tg:Expr}(a it:Addr)(o:Obj)(kvs:List (Key×V))(ep:Nat)(hep:∃ es,o.data=.dict es ep):zg P w K tg (ItK a o kvs) [it] it (fun i h=>h.IsKeyIter it a i kvs.length ep) where
 mem:=by simp
 obj:=fun i h st b hb=>by
  have e:b=it:=by simpa using hb
  subst e;obtain⟨o,e,c,d⟩:=st;exact⟨o,e,fun v z=>by rw [d] at z;cases z⟩
 keep:=fun i h h' st k=>st.at fun o e=>k it (by simp) o e
 item:=by
  intro X hP hw hK hc i pins s σ H E I hf st hg;subst hP hw hK;obtain⟨hi,hH⟩:=hg;obtain⟨ho,_,_,vs,rel,dd⟩:=I.hok a _ hH;obtain⟨ep',da⟩:=dd.dictAt;have ee:ep'=ep:=by
   obtain⟨es,h1⟩:=hep;obtain⟨o',es',h2,_,h3,_⟩:=id da;rw [ho] at h2;cases h2;rw [h1] at h3;injection h3 with _ z
   exact z.symm
  subst ee;have hl:=rel.length;obtain⟨⟨k,v⟩,hx⟩:∃ p,vs[i]? = some p:=⟨vs[i],by simp [← hl,hi]⟩;obtain⟨f0,f1,f2,f3,f4,f5⟩:=hf it (by simp);refine wpAny_pyNext_dict_item (knd:=aT X.prog X.w) (by rw [← hl];exact st) da hx fun key h' hkey hit' hs'=>?_;rw [← hl] at hit';have I1:Inv X pins σ H { s with heap:=h' }:=I.turned (t':=s.toks) (fun b o hb e=>(hs'.2 b hb).trans e) f0 f1 f3 f4 f5;have hk:∃ v',kvs[i]? = some (k,v'):=by
   have e1:(kvs.map (·.1))[i]? = some k:=by rw [rel.keys,adK,hx];rfl
   rw [adK] at e1;cases q:kvs[i]? with
   | none=>rw [q] at e1;cases e1
   | some p=>rw [q] at e1;cases e1;exact⟨p.2,rfl⟩
  obtain⟨v',hv'⟩:=hk;obtain⟨oi,e,c,d⟩:=id hit';exact⟨key,rfl,yc (s:={ s with heap:=h' }) e c d (by decide) ⟨kV k,H,I1,oW hkey,⟨rfl,k,v',hv',rfl⟩,hit',fun b hb=>(hf b hb).1⟩⟩
 done:=by
  intro X hP hw hK hc i pins s σ H E I hf st hg;subst hP hw hK;obtain⟨hi,hH⟩:=hg;obtain⟨ho,_,_,vs,rel,dd⟩:=I.hok a _ hH;obtain⟨ep',da⟩:=dd.dictAt;have ee:ep'=ep:=by
   obtain⟨es,h1⟩:=hep;obtain⟨o',es',h2,_,h3,_⟩:=id da;rw [ho] at h2;cases h2;rw [h1] at h3;injection h3 with _ z
   exact z.symm
  subst ee;have hl:=rel.length;obtain⟨f0,f1,f2,f3,f4,f5⟩:=hf it (by simp);exact wpAny_pyNext_dict_end (knd:=aT X.prog X.w) (I.ok.hd hc) (by rw [← hl];exact st) da (by rw [hi,hl];simp) fun h' eb=>⟨rfl,I.turned (t':=s.toks) (fun b o hb e=>eb b o hb e) f0 f1 f3 f4 f5⟩
 self:=fun _ _ _ _ _ st h=>wpAny_pyIter_keyiter st h
def acM (H₀:Hp)(td:TE):TI:=fun σ H R=>td σ H fun x H1=>∃ a kvs,x=.ref a/\H1 a=some (.dK kvs)/\∀ o,(∀ o' u,H₀ a≠some (.frz o' u))->R (ItK a o kvs) (upd H1 a (.frz o (.dK kvs)))
section
variable {X:Cx}{tg:Expr}
theorem wG {l:Expr}{tl:TE}{H₀:Hp}(hH:X.H₀=H₀)(hl:PE X l tl):PI X tg l (acM H₀ tl):=by
 subst hH;intro pins s σ H R I h;refine thn (hl pins s σ H _ I h) fun v s1 ⟨y,H1,I1,r1,q1⟩=>?_;obtain⟨a,kvs,rfl,e,q⟩:=q1;cases r1;obtain⟨z,hd,vs,rel,dd⟩:=uE I1.hok e;obtain⟨ep,da⟩:=dd.dictAt;refine wpAny_pyIter_dict (knd:=aT X.prog X.w) hd da ?_;obtain⟨o,es,ho,_,hes,_⟩:=id da;have I2:=(I1.freeze e ho).kept (t':=s1.toks) (h':=s1.heap.push { cls:=.type "dict_keyiterator",data:=.fields #[.ref a,.int 0 0,.int vs.length 0,.int ep 0] }) fun b o e=>adH _ e;have hn:(upd H1 a (.frz o (.dK kvs))) s1.heap.objs.size=none:=by
  have:=I1.fresh;rw [aj (fun z=>by rw [z,e] at this;cases this)];exact this
 refine⟨s1.heap.objs.size,[s1.heap.objs.size],_,ItK a o kvs,upd H1 a (.frz o (.dK kvs)),rfl,I2,vt a _ o kvs ep ⟨es,hes⟩,⟨_,adX _ rfl,rfl,by rw [rel.length];rfl⟩,fun b hb=>?_,q o (I1.notFrz e)⟩;have e:b=s1.heap.objs.size:=by simpa using hb
 subst e;exact I1.fpOk (adL _) hn
def acy (H₀:Hp)(t:TS):TS:=fun D σ H=>∃ a o kvs,H a=some (.frz o (.dK kvs))/\(∀ o' u,H₀ a≠some (.frz o' u))/\t D σ (upd H a (.dK kvs))
theorem uf {sts:List Stmt}{t:TS}{H₀:Hp}(hH:X.H₀=H₀)(h:PSs X sts t):PSs X sts (acy H₀ t):=by
 subst hH;intro pins s σ H D I hw;obtain⟨a,o,kvs,e,nf,q⟩:=hw;exact h pins s σ _ D (I.thaw e nf) q
end
section
variable {X:Cx}
end
end L2
namespace LL
open PySem PySem.SeqAt PySem.W PyProof.Rows
open AutoSeq1 (wpAny_loadPart')
open MeetsSeq MeetsSeq2 MeetsSeq3
section
variable {prog:Program}{w:World}{A:Around}{E:Value->Shared->Prop}{s:Shared}
end
end LL
namespace L2
open PySem PySem.Spec PyProof.Rows
def jq (nl:Nat)(ix:List Nat)(g:TG)(tf:TT)(tk tv:TE)(σ:St)(D:Addr)(ys:List (Key×V))(H:Hp)(x:V)(nxt:List (Key×V)->Hp->Prop):Prop :=
 g x (cz nl ix σ) H fun σ4 H4=>(σ4.length=(cz nl ix σ).length/\σ4.drop nl=ix.map fun j=>(σ[j]?).join)/\tf σ4 H4 fun b H5 =>
  if b=true then tk σ4 H5 fun z H6=>tv σ4 H6 fun y H7=>∃ k:Key,z=kV k/\H7 D=some (.dK ys)/\ys.length < sizeLine/\nxt (fJ ys k y) (upd H7 D (.dK (fJ ys k y))) else nxt ys H5
def xb (nl:Nat)(ix:List Nat)(g:TG)(tf:TT)(tk tv:TE)(σ:St)(J:It)(H1:Hp)(D:Addr)(Q:VK):Prop :=
 ∃ W:Nat->Nat->List (Key×V)->Hp->Prop,(∃ m,W 0 m [] (upd H1 D (.dK []))) ∧
 ∀ i m ys H2,W i m ys H2->H2 D=some (.dK ys)/\((J.stop i H2/\Q (.ref D) H2)\/(J.go i H2/\∀ x H3,J.yld i H2 x H3->jq nl ix g tf tk tv σ D ys H3 x fun ys' H'=>∃ m',m' < m/\W (i+1) m' ys' H'))
theorem yn (nl:Nat)(ix:List Nat)(wi:TI)(g:TG)(tf:TT)(tk tv:TE)(σ:St)(H:Hp)(Q:VK)(h:wi σ H fun J H1=>∀ D,H1 D=none->xb nl ix g tf tk tv σ J H1 D Q):wM nl ix wi g tf tk tv σ H Q:=h
section
variable {nl:Nat}{ix:List Nat}{g:TG}{tf:TT}{tk tv:TE}{σ:St}{H1:Hp}{D:Addr}{Q:VK}(Pv:Nat->List (Key×V)->Hp->Prop)
theorem aa2 {J:It}{n:Nat}(h0:Pv 0 [] (upd H1 D (.dK [])))(hD:∀ i ys H,Pv i ys H->H D=some (.dK ys))(go:∀ i ys H,i < n->Pv i ys H->J.go i H)(stop:∀ ys H,Pv n ys H->J.stop n H)
 (hs:∀ i ys H x H',i < n->Pv i ys H->J.yld i H x H'->jq nl ix g tf tk tv σ D ys H' x fun ys' H'=>Nx n i (Pv (i+1) ys' H'))
 (hd:∀ ys H,Pv n ys H->Q (.ref D) H):xb nl ix g tf tk tv σ J H1 D Q:=by
 refine⟨fun i m ys H=>m=n - i/\i<=n/\Pv i ys H,⟨n,by simp,ad7 _,h0⟩,?_⟩;rintro i m ys H ⟨rfl,hi,p⟩;refine⟨hD i ys H p,?_⟩;by_cases hlt:i < n
 ·exact .inr ⟨go i ys H hlt p,fun x H' y=>hs i ys H x H' hlt p y⟩
 ·have e:i=n:=by lia
  subst e;exact .inl ⟨stop ys H p,hd ys H p⟩
end
theorem u3 {nl:Nat}{ix:List Nat}{tk tv:TE}{σ:St}{D:Addr}{ys:List (Key×V)}{H:Hp}{x:V}{nxt:List (Key×V)->Hp->Prop}{i:Nat}(h1:((cz nl ix σ).set i (some x)).drop nl=ix.map fun j=>(σ[j]?).join)
 (h:tk ((cz nl ix σ).set i (some x)) H fun z H6=>tv ((cz nl ix σ).set i (some x)) H6 fun y H7=>∃ k:Key,z=kV k/\H7 D=some (.dK ys)/\ys.length < sizeLine/\nxt (fJ ys k y) (upd H7 D (.dK (fJ ys k y)))):jq nl ix (cw i) tZ tk tv σ D ys H x nxt:=by
 unfold jq cw tZ;dsimp only;rw [if_pos rfl];exact⟨⟨by simp,h1⟩,h⟩
theorem mK {nl:Nat}{ix:List Nat}{te:TE}{tf:TT}{σ:St}{D:Addr}{ys:List V}{H:Hp}{x:V}{nxt:List V->Hp->Prop}{i:Nat}(h1:((cz nl ix σ).set i (some x)).drop nl=ix.map fun j=>(σ[j]?).join)
 (h:tf ((cz nl ix σ).set i (some x)) H fun b H5=>if b=true then te ((cz nl ix σ).set i (some x)) H5 fun y H6=>H6 D=some (.lst ys)/\ys.length < sizeLine/\nxt (ys++[y]) (upd H6 D (.lst (ys++[y]))) else nxt ys H5):cE nl ix (cw i) tf te σ D ys H x nxt:=by
 unfold cE cw;dsimp only;exact⟨⟨by simp,h1⟩,h⟩
theorem za {kvs:List (Key×V)}{k:Key}{v:V}(h:fk kvs k=some v):(k,v)∈kvs:=by
 unfold fk at h;cases e:kvs.find? fun kv=>decide (kv.1=k) with
 | none=>rw [e] at h;cases h
 | some p =>
  rw [e] at h;have h':p.2=v:=by simpa using h
  have hp:=List.find?_some e;have hk:p.1=k:=by simpa using hp
  have:=List.mem_of_find?_eq_some e;obtain⟨p1,p2⟩:=p;simp only at h' hk;subst h' hk;exact this
theorem we {kvs:List (Key×V)}{k:Key}(h:fk kvs k=none):k ∉ kvs.map (·.1):=by
 intro hm;obtain⟨p,hp,e⟩:=ad5.mp hm;unfold fk at h;rw [Option.map_eq_none_iff] at h;have:=List.find?_eq_none.mp h p hp;simp [e] at this
theorem yK (kvs:List (Key×V))(k:Key)(v:V):((fJ kvs k v).map (·.1)=kvs.map (·.1)/\k∈kvs.map (·.1))\/((fJ kvs k v).map (·.1)=kvs.map (·.1)++[k]/\k ∉ kvs.map (·.1)):=by
 cases e:fk kvs k with
 | none =>
  rw [sY v e];exact .inr ⟨by simp,we e⟩
 | some y =>
  have hm:=za e;have hk:k∈kvs.map (·.1):=ad5.mpr ⟨_,hm,rfl⟩;refine .inl ⟨?_,hk⟩;unfold fJ;have ha:(kvs.any fun kv=>decide (kv.1=k))=true:=by rw [gw,e];rfl
  rw [if_pos ha,ael];apply afe;intro p _;show (if p.1=k then (p.1,v) else p).1=p.1;split<;>rfl
def adx (t:TS):TS:=fun D σ H=>∃ N:St->Hp->Prop,(∀ σ' H',N σ' H'->D.nx σ' H')/\t { D with nx:=N } σ H
theorem bc {X:Cx}{st:Stmt}{t:TS}(h:PS X st t):PS X st (adx t):=by
 intro pins s σ H D I hw;obtain⟨N,hN,q⟩:=hw;refine thn (h pins s σ H _ I q) fun f s1 q1=>?_;cases f with
 | next=>obtain⟨σ',H',I',n⟩:=q1;exact⟨σ',H',I',hN _ _ n⟩
 | brk=>exact q1
 | cont=>exact q1
 | ret u=>exact q1
theorem qT (a b:Str):(a++b).cps.toList=a.cps.toList++b.cps.toList:=by
 show (a.cps++b.cps).toList=_;simp
section
variable {X:Cx}{outer scope:Scope}{N N':List Str}{nl:Nat}{ix:List Nat}{tg iter:Expr}{ifs:List Expr}{pos:Pos}{wi:TI}{g:TG}{tf:TT}
theorem kI {elt:Expr}{te:TE}(h1:X.env.scope=outer)(h2:X.N=N)(hc:X.calm=true)(hi:PI X tg iter wi)
 (hg:∀ C fp s₀ H₀,PG (X.comp scope N' C fp s₀ H₀) tg g)(hf:∀ C fp s₀ H₀,PIf (X.comp scope N' C fp s₀ H₀) ifs tf)(he:∀ C fp s₀ H₀,PE (X.comp scope N' C fp s₀ H₀) elt te)
 (hck:jf outer scope N N' nl ix=true:=by decide +kernel)(hs:∀ x,foldedSetIterable iter X.env x=pure x:=by intro _;rfl):PE X (.ListComp elt [⟨tg,iter,ifs,0⟩] scope pos) (ll nl ix wi g tf te) :=
 let ⟨S,Cp⟩:=iO h1 h2 hck
 kO hc S Cp hi hg hf he hs
end
section
variable {X:Cx}{pins:List (Addr×Obj)}{σ:St}{H:Hp}{s:Shared}{h':Heap}
theorem Inv.turnedL {t':Nat}{fp:List Addr}(I:Inv X pins σ H s)(k:∀ b o,b ∉ fp->s.heap.get? b=some o->h'.get? b=some o)(hf:∀ b∈fp,jE X pins H b):Inv X pins σ H { s with heap:=h',toks:=t' }:=by
 have nit:∀ b u,H b=some u->b ∉ fp:=fun b u e z=>by have:=(hf b z).1;rw [e] at this;cases this
 refine I.step (g':=s.gens) (d':=s.drawn) (ch:=fp) (fun b hb=>?_) (fun b o _ _ hc e _=>k b o hc e) (fun b o _ _ hc e _=>⟨o.slots,k b o hc e⟩) (fun _ _ _ _ n=>n)
  (fun b o hc e=>⟨o,k b o hc e⟩) (fun _ _ e=>e) (fun _ _ _ e=>e) (fun b ps e=>⟨#[],by rw [e];simp⟩) (fun m hm=>?_) (fun b u e=>?_) I.bare
 ·obtain⟨f0,f1,f2,f3,f4,f5⟩:=hf b hb;exact⟨f3,f1,f4,f5⟩
 ·obtain⟨o,es,ep,ho,r⟩:=hm;exact⟨o,es,ep,k _ o (fun z=>(hf _ z).2.1 rfl) ho,r⟩
 ·refine (I.hok b u e).stay (fun c v hc q=>k c v ?_ q) (fun _ q=>q) fun _ _ q=>q;rcases hc with z | z
  ·rw [z];exact nit b u e
  ·exact nit c _ z
theorem Inv.turnedNew {t':Nat}{fp:List Addr}{a:Addr}{o:HO}(I:Inv X pins σ H s)(k:∀ b o,b ∉ fp->s.heap.get? b=some o->h'.get? b=some o)(hf:∀ b∈fp,jE X pins H b)(hp:s.heap.objs.size<=a)(new:ObjOk X.prog X.w (upd H a o) h' a o) :
 Inv X pins σ (upd H a o) { s with heap:=h',toks:=t' }:=by
 have ha:H a=none:=I.hok.fresh hp;have nit:∀ b u,H b=some u->b ∉ fp:=fun b u e z=>by have:=(hf b z).1;rw [e] at this;cases this
 have up:∀ {b u},H b=some u->upd H a o b=some u:=fun {b u} e=>by rw [aj (aq e ha)];exact e
 refine I.step (g':=s.gens) (d':=s.drawn) (ch:=fp) (fun b hb=>?_) (fun b o _ _ hc e _=>k b o hc e) (fun b o _ _ hc e _=>⟨o.slots,k b o hc e⟩) (fun b ob _ e n=>?_)
  (fun b o hc e=>⟨o,k b o hc e⟩) (fun _ _ e=>up e) (fun _ _ _ e=>up e) (fun b ps e=>⟨#[],by rw [up e];simp⟩) (fun m hm=>?_) (fun b u e=>?_) I.bare
 ·obtain⟨f0,f1,f2,f3,f4,f5⟩:=hf b hb;exact⟨f3,f1,f4,f5⟩
 ·rw [aj (ad2 (adU (adQ e) hp))];exact n
 ·obtain⟨o,es,ep,ho,r⟩:=hm;exact⟨o,es,ep,k _ o (fun z=>(hf _ z).2.1 rfl) ho,r⟩
 ·by_cases hb:b=a
  ·subst hb;rw [af] at e;cases e;exact new
  ·rw [aj hb] at e;refine (I.hok b u e).stay (fun c v hc q=>k c v ?_ q) (fun _ q=>up q) fun _ _ q=>up q;rcases hc with z | z
   ·rw [z];exact nit b u e
   ·exact nit c _ z
end
def ItE (K:PySem.W.Frag)(a:Addr):It :=
 ⟨fun i H=>∃ xs x,SqL K H a xs/\xs[i]? = some x,fun i H x H'=>∃ T v,x=.ref T/\H T=none/\H'=upd H T (.tup [.int (i:Int),v])/\∀ xs,SqL K H a xs->xs[i]? = some v,fun i H=>∃ xs,SqL K H a xs/\xs.length<=i⟩
theorem wx {P:Program}{w:World}{K:PySem.W.Frag}{es:List Expr}{kk:Nat}{tp:Pos}(a e it:Addr)(hei:e≠it):zg P w K (.Tuple es kk tp) (ItE K a) [e,it] e (fun i h=>(∃ old,IsEnum h e it (i:Int) old)/\h.IsListIter it a i) where
 mem:=by simp
 obj:=fun i h st b hb=>by
  obtain⟨⟨old,he⟩,hi⟩:=st;rcases adO.mp hb with z | hb
  ·rw [z];exact⟨_,he,fun v z=>by cases z⟩
  ·rw [adT.mp hb];obtain⟨o,e,c,d⟩:=hi;exact⟨o,e,fun v z=>by rw [d] at z;cases z⟩
 keep:=fun i h h' st k=>⟨let ⟨old,he⟩:=st.1;⟨old,k e (by simp) _ he⟩,st.2.at fun o e=>k it (by simp) o e⟩
 item:=by
  intro X hP hw hK hc i pins s σ H E I hf st hg;subst hP hw hK;obtain⟨xs,x,hq,hx⟩:=hg;obtain⟨its,rv,p,hz⟩:=I.list hq;obtain⟨u,hu,ru⟩:=rv.get hx;obtain⟨⟨old,he⟩,hit⟩:=st;refine wpAny_pyNext_enum_item he hit p.isList (x:=u) (by simpa using hu) hei fun h' ho hit' hT hsz k=>?_;have hh:∀ b o,b ∉ [e,it]->s.heap.get? b=some o->h'.get? b=some o:=fun b o hb q=>k b o (fun z=>hb (by simp [z])) (fun z=>hb (by simp [z])) q;refine⟨_,rfl,wpAny_letOwnedTupleGo_enum ho fun h2 he2 hs2=>?_⟩;have eT:s.heap.objs.size≠e:=af5 (adQ he);have hT2:h2.get? s.heap.objs.size=some { cls:=.type "tuple",data:=.seq #[.int i s.toks,u] }:=(hs2.2 _ eT).trans hT;have hh2:∀ b o,b ∉ [e,it]->s.heap.get? b=some o->h2.get? b=some o:=fun b o hb q=>(hs2.2 b (fun z=>hb (by simp [z]))).trans (hh b o hb q);have I2:=I.turnedNew (t':=s.toks+1) (h':=h2) (o:=.tup [.int (i:Int),x]) hh2 hf (adL _) ⟨by show 2<=sizeLine;decide,[.int i s.toks,u],.cons ⟨_,rfl⟩ (.cons ru .nil),_,hT2,rfl,_,rfl⟩;have fr:H s.heap.objs.size=none:=I.fresh;refine⟨.ref s.heap.objs.size,_,I2,rfl,⟨_,x,rfl,fr,rfl,fun ys hy=>by rw [I.list_inj hy hq];exact hx⟩,⟨⟨_,by simpa using he2⟩,hit'.at fun o q=>(hs2.2 it (aeL hei)).trans q⟩,fun b hb=>?_⟩;have hlt:b < s.heap.objs.size:=by
   rcases adO.mp hb with z | hb
   ·rw [z];exact adQ he
   ·rw [adT.mp hb];obtain⟨o,q,_⟩:=hit;exact adQ q
  rw [aj (ad2 hlt)];exact (hf b hb).1
 done:=by
  intro X hP hw hK hc i pins s σ H E I hf st hg;subst hP hw hK;obtain⟨xs,hq,hx⟩:=hg;obtain⟨its,rv,p,hz⟩:=I.list hq;obtain⟨⟨old,he⟩,hit⟩:=st;have hl:=rv.length;exact wpAny_pyNext_enum_end (I.ok.hd hc) he hit p.isList (by simp;lia) fun h' eb=>⟨rfl,I.turnedL (t':=s.toks) (fun b o hb q=>eb b o (fun z=>hb (by simp [z])) q) hf⟩
 self:=fun _ _ _ _ _ st h=>let ⟨⟨_,he⟩,_⟩:=st;wpAny_pyIter_enum he h
def abQ (K:PySem.W.Frag)(ta:TA):TI:=fun σ H R=>ta σ H fun vs H1=>∃ a,vs=[.ref a]/\(∃ xs,SqL K H1 a xs)/\R (ItE K a) H1
section
variable {X:Cx}
theorem mT:bootBuiltins "enumerate" = some (.type "enumerate"):=by decide +kernel
theorem rL {a:Expr}{ta:TA}{p pos:Pos}{es:List Expr}{kk:Nat}{tp:Pos}(hg:Gl X "enumerate")(hm:X.mg "enumerate" = none)(ha:PA X [a] ta)(hs:starEach [a] X.env=[(false,eval a X.env)]:=by rfl):PI X (.Tuple es kk tp) (.Call (.Name "enumerate" p) [a] [] pos) (abQ X.K ta):=by
 intro pins s σ H R I h;refine Call_ (kj I hg hm mT (aeE (thn (ha pos pins s σ H _ I h) fun us s1 ⟨vs,H1,I1,r1,q1⟩=>?_) hs rfl));obtain⟨a,e,⟨xs,hq⟩,q⟩:=q1;subst e;obtain⟨u,rfl,ru⟩:=ja r1;cases ru;obtain⟨its,rv,p,hz⟩:=I1.list hq;refine call_enumerate_list p.isList fun h' he hi hsz k=>?_;have I2:Inv X pins σ H1 { s1 with heap:=h' }:=I1.kept (t':=s1.toks) k;refine wpAny_pyIter_enum he ⟨s1.heap.objs.size+1,[s1.heap.objs.size+1,s1.heap.objs.size],_,ItE X.K a,H1,rfl,I2,wx a _ _ (Nat.succ_ne_self _),⟨⟨_,he⟩,hi⟩,fun b hb=>?_,q⟩;rcases adO.mp hb with z | hb
 ·rw [z];exact I1.fpOk (ae7 _) (I1.hok.fresh (ae7 _))
 ·rw [adT.mp hb];exact I1.fpOk (adL _) I1.fresh
end
theorem yz {K:PySem.W.Frag}{a:Addr}{xs:List V}{g:TG}{tb:TS}{D:Ends}{σ:St}{H:Hp}(Pv:Nat->St->Hp->Prop)(h0:Pv 0 σ H)(hl:∀ i σ H,i<=xs.length->Pv i σ H->SqL K H a xs)
 (hs:∀ i x σ H T,xs[i]? = some x->Pv i σ H->H T=none->g (.ref T) σ (upd H T (.tup [.int (i:Int),x])) fun σ2 H2=>tb { D with nx:=Pv (i+1),ct:=Pv (i+1),bk:=D.nx } σ2 H2)(hd:∀ σ H,Pv xs.length σ H->D.nx σ H) :
 ∃ W:Nat->Nat->St->Hp->Prop,(∃ m,W 0 m σ H)/\∀ i m σ H,W i m σ H →
  ((ItE K a).stop i H/\D.nx σ H)\/((ItE K a).go i H/\∃ N:St->Hp->Prop,(∀ σ' H',N σ' H'->∃ m',m' < m/\W (i+1) m' σ' H')/\∀ x H',(ItE K a).yld i H x H'->g x σ H' fun σ2 H2=>tb { D with nx:=N,ct:=N,bk:=D.nx } σ2 H2):=by
 refine⟨fun i m σ H=>m=xs.length - i/\i<=xs.length/\Pv i σ H,⟨xs.length,by simp,ad7 _,h0⟩,?_⟩;rintro i m σ H ⟨rfl,hi,p⟩;have q:=hl i σ H hi p;by_cases hlt:i < xs.length
 ·refine .inr ⟨⟨xs,xs[i],q,by simp [hlt]⟩,Pv (i+1),fun σ' H' p'=>⟨xs.length - (i+1),by lia,rfl,hlt,p'⟩,fun x H' y=>?_⟩;obtain⟨T,v,ex,hT,eH,hv⟩:=y;subst ex eH;exact hs i v σ H T (hv xs q) p hT
 ·have e:i=xs.length:=by lia
  subst e;exact .inl ⟨⟨xs,q,adL _⟩,hd σ H p⟩
theorem qW {nl:Nat}{ix:List Nat}{g:TG}{tf:TT}{te:TE}{σ:St}{H1:Hp}{D:Addr}{Q:VK}(Pv:Nat->List V->Hp->Prop){K:PySem.W.Frag}{a:Addr}{xs:List V}(h0:Pv 0 [] (upd H1 D (.lst [])))(hD:∀ i ys H,Pv i ys H->H D=some (.lst ys))(hl:∀ i ys H,Pv i ys H->SqL K H a xs)
 (hs:∀ i ys H x T,xs[i]? = some x->Pv i ys H->H T=none->cE nl ix g tf te σ D ys (upd H T (.tup [.int (i:Int),x])) (.ref T) fun ys' H'=>Nx xs.length i (Pv (i+1) ys' H'))(hd:∀ ys H,Pv xs.length ys H->Q (.ref D) H):gQ nl ix g tf te σ (ItE K a) H1 D Q:=by
 refine nM (n:=xs.length) Pv h0 hD (fun i ys H hi p=>⟨xs,xs[i],hl i ys H p,by simp [hi]⟩) (fun ys H p=>⟨xs,hl _ ys H p,adL _⟩) (fun i ys H x H' hi p y=>?_) hd;obtain⟨T,v,ex,hT,eH,hv⟩:=y;subst ex eH;exact hs i ys H v T (hv xs (hl i ys H p)) p hT
end L2
namespace L2
open PySem PySem.Spec PyProof.Rows PySem.W
theorem KV.at' {kvs:List (Key×V)}{vs:List (Key×Value)}(r:KV kvs vs):∀ {i:Nat} {k:Key} {u:Value},vs[i]? = some (k,u)->∃ v,kvs[i]? = some (k,v)/\RelV v u:=by
 induction r with
 | nil=>intro i k u e;simp at e
 | cons h t ih =>
  intro i k u e;cases i with
  | zero =>
   cases e;obtain⟨h1,h2⟩:=h;exact⟨_,aeu some (Prod.ext h1 rfl),h2⟩
  | succ i=>exact ih (by simpa using e)
theorem m9:entryFor table "dict_itemiterator.__iter__" = some Builtin.«dict_keyiterator.__iter__» :=
 entryFor_alias (id' := "dict_keyiterator.__iter__") (by kernel_rfl) (by first | rfl | decide +kernel) (by decide +kernel) (by kernel_rfl)
theorem o6 {prog:Program}{w:World}{A:Around}{E:Value->Shared->Prop}{s:Shared}{it d:Addr}{i n ep:Nat}{ok ov:Value}{Q:Value->Shared->Prop}(hit:IsItemIter s.heap it d i n ep ok ov)(h:Q (.ref it) s):wpAny (model prog w) A (pyIter (.ref it)) Q E s:=by
 have hT:s.TypeIs (.ref it) "dict_itemiterator" := ⟨_,hit,rfl⟩;refine agK hT afN (afv afN hT m9 ?_ (PySem.F.args_dict_itemiterator_iter_1 _));show wpAny _ _ (ret (.ref it)) _ _ s;exact adJ ⟨_,rfl,"dict_itemiterator",_,hT,PySem.F.slot_dict_itemiterator_next.lookup,h⟩
def ItI (a:Addr)(o:Obj)(kvs:List (Key×V)):It :=
 ⟨fun i H=>i < kvs.length/\H a=some (.frz o (.dK kvs)),fun i H x H'=>∃ T k v,x=.ref T/\H T=none/\H'=upd H T (.tup [kV k,v])/\kvs[i]? = some (k,v),fun i H=>i=kvs.length/\H a=some (.frz o (.dK kvs))⟩
theorem uW {P:Program}{w:World}{K:PySem.W.Frag}{es:List Expr}{kk:Nat}{tp:Pos}(a it:Addr)(o:Obj)(kvs:List (Key×V))(ep:Nat)(hep:∃ es,o.data=.dict es ep):zg P w K (.Tuple es kk tp) (ItI a o kvs) [it] it (fun i h=>∃ ok ov,IsItemIter h it a i kvs.length ep ok ov) where
 mem:=by simp
 obj:=fun i h st b hb=>by
  have e:b=it:=by simpa using hb
  subst e;obtain⟨ok,ov,e⟩:=st;exact⟨_,e,fun v z=>by cases z⟩
 keep:=fun i h h' st k=>let ⟨ok,ov,e⟩:=st;⟨ok,ov,k it (by simp) _ e⟩
 item:=by
  intro X hP hw hK hc i pins s σ H E I hf st hg;subst hP hw hK;obtain⟨hi,hH⟩:=hg;obtain⟨ho,_,_,vs,rel,dd⟩:=I.hok a _ hH;obtain⟨ep',da⟩:=dd.dictAt;have ee:ep'=ep:=by
   obtain⟨es,h1⟩:=hep;obtain⟨o',es',h2,_,h3,_⟩:=id da;rw [ho] at h2;cases h2;rw [h1] at h3;injection h3 with _ z
   exact z.symm
  subst ee;have hl:=rel.length;obtain⟨⟨k,u⟩,hx⟩:∃ p,vs[i]? = some p:=⟨vs[i],by simp [← hl,hi]⟩;obtain⟨v,hv,rv⟩:=rel.at' hx;obtain⟨ok,ov,hit⟩:=st;rw [hl] at hit;refine wpAny_pyNext_items_item (knd:=aT X.prog X.w) hit da hx fun key h' hkey hout hT hsz kp=>?_;refine⟨_,rfl,wpAny_letOwnedTupleGo_items hout fun h2 hit2 hs2=>?_⟩;have lt:it < s.heap.objs.size:=adQ hit;have hT2:h2.get? s.heap.objs.size=some { cls:=.type "tuple",data:=.seq #[key,u] }:=(hs2.2 _ (af5 lt)).trans hT;have hh2:∀ b o,b ∉ [it]->s.heap.get? b=some o->h2.get? b=some o:=fun b o hb q=>(hs2.2 b (fun z=>hb (by simp [z]))).trans (kp b o (fun z=>hb (by simp [z])) q);have I2:=I.turnedNew (t':=s.toks) (h':=h2) (o:=.tup [kV k,v]) hh2 hf (adL _) ⟨by show 2<=sizeLine;decide,[key,u],.cons (oW hkey) (.cons rv .nil),_,hT2,rfl,_,rfl⟩;refine⟨.ref s.heap.objs.size,_,I2,rfl,⟨_,k,v,rfl,I.fresh,rfl,hv⟩,⟨key,u,by rw [hl];exact hit2⟩,fun b hb=>?_⟩;have e:b=it:=by simpa using hb
  subst e;rw [aj (ad2 lt)];exact (hf b hb).1
 done:=by
  intro X hP hw hK hc i pins s σ H E I hf st hg;subst hP hw hK;obtain⟨hi,hH⟩:=hg;obtain⟨ho,_,_,vs,rel,dd⟩:=I.hok a _ hH;obtain⟨ep',da⟩:=dd.dictAt;have ee:ep'=ep:=by
   obtain⟨es,h1⟩:=hep;obtain⟨o',es',h2,_,h3,_⟩:=id da;rw [ho] at h2;cases h2;rw [h1] at h3;injection h3 with _ z
   exact z.symm
  subst ee;have hl:=rel.length;obtain⟨ok,ov,hit⟩:=st;rw [hl] at hit;obtain⟨f0,f1,f2,f3,f4,f5⟩:=hf it (by simp);exact wpAny_pyNext_items_end (knd:=aT X.prog X.w) (I.ok.hd hc) hit da (by rw [hi,hl];simp) fun h' eb=>⟨rfl,I.turned (t':=s.toks) (fun b o hb e=>eb b o hb e) f0 f1 f3 f4 f5⟩
 self:=fun _ s _ _ _ st h=>let ⟨_,_,hit⟩:=st;o6 hit h
def abz (H₀:Hp)(td:TE):TI:=fun σ H R=>td σ H fun x H1=>∃ a kvs,x=.ref a/\H1 a=some (.dK kvs)/\∀ o,(∀ o' u,H₀ a≠some (.frz o' u))->R (ItI a o kvs) (upd H1 a (.frz o (.dK kvs)))
section
variable {X:Cx}
theorem uo {l:Expr}{tl:TE}{H₀:Hp}{apos cpos tp:Pos}{es:List Expr}{kk:Nat}(hH:X.H₀=H₀)(hl:PE X l tl)(hbase:attributeBase l "items" X.env (eval l X.env)=eval l X.env:=by rfl)(hline:(apos.endLine == cpos.line)=true:=by rfl):PI X (.Tuple es kk tp) (.Call (.Attribute l "items" apos) [] [] cpos) (abz H₀ tl):=by
 subst hH;intro pins s σ H R I h;refine wpAny_Call_method0_late hbase hline (thn (hl pins s σ H _ I h) fun v s1 ⟨y,H1,I1,r1,q1⟩=>?_);obtain⟨a,kvs,rfl,e,q⟩:=q1;cases r1;obtain⟨z,hd,vs,rel,dd⟩:=uE I1.hok e;obtain⟨ep,da⟩:=dd.dictAt;obtain⟨o,es',ho,hc,hes,_⟩:=id da;obtain⟨h1,h2⟩:=yd (T := "dict") I1 (show RelV (.ref a) (.ref a) from rfl) (.inr (.inr (.inl ⟨rfl,.inl ⟨kvs,e⟩⟩)));refine⟨"dict","dict.items",PySem.F.plainAttrs_dict,agV,PySem.F.type_dict_items,h1,h2,afW rfl (PySem.evalArgs_none ?_)⟩;refine call_meetsIn agV h1 PySem.F.entry_dict_items (PySem.F.args_dict_items_1 _) (meets_dict_items (aT X.prog X.w) a hd) ⟨⟨vs,dd⟩,?_⟩;have da':(s1.heap.push { cls:=.type "dict_items",data:=.fields #[.ref a] }).DictAt (aT X.prog X.w) a vs ep:=da.at' fun o e=>adH _ e;refine wpAny_pyIter_items (s:={ s1 with heap:=s1.heap.push { cls:=.type "dict_items",data:=.fields #[.ref a] } }) (knd:=aT X.prog X.w) ⟨_,adX _ rfl,rfl,rfl⟩ da' ?_;have sz:(s1.heap.push { cls:=.type "dict_items",data:=.fields #[.ref a] }).objs.size=s1.heap.objs.size+1:=aex ..;have I2:=(I1.freeze e ho).kept (t':=s1.toks) (h':=(s1.heap.push { cls:=.type "dict_items",data:=.fields #[.ref a] }).push { cls:=.type "dict_itemiterator",data:=.fields #[.none,.bool false,.ref a,.int 0 0,.int vs.length 0,.int ep 0,.none,.none] }) fun b o e=>adH _ (adH _ e);have ge:s1.heap.objs.size<=(s1.heap.push { cls:=.type "dict_items",data:=.fields #[.ref a] }).objs.size:=by rw [sz];exact ae7 _
 have hn:(upd H1 a (.frz o (.dK kvs))) (s1.heap.push { cls:=.type "dict_items",data:=.fields #[.ref a] }).objs.size=none:=by
  have:=I1.hok.fresh ge;rw [aj (fun z=>by rw [z,e] at this;cases this)];exact this
 refine⟨_,[(s1.heap.push { cls:=.type "dict_items",data:=.fields #[.ref a] }).objs.size],_,ItI a o kvs,upd H1 a (.frz o (.dK kvs)),rfl,I2,uW a _ o kvs ep ⟨es',hes⟩,⟨.none,.none,by rw [rel.length];exact adX _ rfl⟩,fun b hb=>?_,q o (I1.notFrz e)⟩;have eb:b=(s1.heap.push { cls:=.type "dict_items",data:=.fields #[.ref a] }).objs.size:=by simpa using hb
 subst eb;exact I1.fpOk ge hn
def zz (H₀:Hp)(t:TE):TE:=fun σ H Q=>t σ H fun v H1=>∃ a o kvs,H1 a=some (.frz o (.dK kvs))/\(∀ o' u,H₀ a≠some (.frz o' u))/\Q v (upd H1 a (.dK kvs))
theorem aa5 {e:Expr}{t:TE}{H₀:Hp}(hH:X.H₀=H₀)(h:PE X e t):PE X e (zz H₀ t):=by
 subst hH;intro pins s σ H Q I hw;refine thn (h pins s σ H _ I hw) fun v s1 ⟨y,H1,I1,r1,a,o,kvs,e,nf,q⟩=>?_;exact⟨y,_,I1.thaw e nf,r1,q⟩
end
end L2
namespace LL
open PySem PySem.SeqAt PySem.W PyProof.Rows
open AutoSeq1 (wpAny_loadPart')
open MeetsSeq MeetsSeq2 MeetsSeq3
section
variable {prog:Program}{w:World}{A:Around}{E:Value->Shared->Prop}{s:Shared}
end
end LL
namespace L2
open PySem PySem.Spec PyProof.Rows
section
variable {X:Cx}
end
end L2
namespace TS
open PySem PyProof.Rows
def kk (κ:KeyKind)(p:Keyed):κ.α:=(κ.keyOf p.1).getD κ.dflt
section
variable {prog:Program}{w:World}{A:Around}{E:Value->Shared->Prop}{s:Shared}{κ:KeyKind}
end
def le (κ:KeyKind)(x y:Keyed):Prop:=κ.kle (kk κ x) (kk κ y)
def lt (κ:KeyKind)(x y:Keyed):Prop:=κ.klt (kk κ x) (kk κ y)
section
variable {κ:KeyKind}
end
section
variable {prog:Program}{w:World}{A:Around}{E:Value->Shared->Prop}{s:Shared}{κ:KeyKind}
end
section
variable {κ:KeyKind}{LL:List Keyed}{a b out:Array Keyed}{ia ib:Nat}
end
section
variable {prog:Program}{w:World}{A:Around}{E:Value->Shared->Prop}{s:Shared}{κ:KeyKind}
end
section
variable {κ:KeyKind}
end
section
variable {κ:KeyKind}{LL:List Keyed}{a b out:Array Keyed}{na nb:Nat}
end
section
variable {prog:Program}{w:World}{A:Around}{E:Value->Shared->Prop}{s:Shared}{κ:KeyKind}
end
section
variable {prog:Program}{w:World}{A:Around}{E:Value->Shared->Prop}{s:Shared}{κ:KeyKind}
end
structure Rl (lo:Nat)(st0 st:SortSt):Prop where
 kind:kindOf st=oneType'
 failed:failedOf st=none
 pend:pendingOf st=pendingOf st0
 perm:(arrOf st).Perm (arrOf st0)
 pre:∀ i,i < lo->(arrOf st)[i]? = (arrOf st0)[i]?
section
variable {κ:KeyKind}
end
section
variable {prog:Program}{w:World}{A:Around}{E:Value->Shared->Prop}{s:Shared}{κ:KeyKind}
end
section
variable {prog:Program}{w:World}{A:Around}{E:Value->Shared->Prop}{s:Shared}{κ:KeyKind}
end
section
variable {prog:Program}{w:World}{A:Around}{E:Value->Shared->Prop}{s:Shared}{κ:KeyKind}
end
section
variable {prog:Program}{w:World}{A:Around}{E:Value->Shared->Prop}{s:Shared}
end
end TS
namespace LL
open PySem PySem.SeqAt PySem.W PyProof.Rows
section
variable {prog:Program}{w:World}{A:Around}{E:Value->Shared->Prop}{s:Shared}
end
end LL
namespace L2
open PySem PySem.Spec PyProof.Rows
def numsOf (H:Hp):V->List Int
 | .ref a=>match H a with
  | some (.lst xs)=>xs.map fun x=>match x with | .int z=>z | _=>0
  | _=>[]
 | _=>[]
theorem numsOf_at {H:Hp}{a:Addr}{ns:List Int}(e:H a=some (.lst (ns.map V.int))):numsOf H (.ref a)=ns:=by
 unfold numsOf;dsimp only;rw [e];show (ns.map V.int).map _=ns;rw [ael];exact af2 _
section
variable {X:Cx}
end
end L2
namespace LL
open PySem PySem.SeqAt PySem.W PyProof.Rows
section
variable {prog:Program}{w:World}{A:Around}{I:Addr}{fp wr:List Addr}{n:Nat}{P:Nat->Value->Prop}{St:Nat->Heap->Prop}
end
section
variable {prog:Program}{w:World}{A:Around}{E:Value->Shared->Prop}{s:Shared}{x:Value}{Q:Value->Shared->Prop}
end
section
variable {prog:Program}{w:World}{A:Around}{E:Value->Shared->Prop}{s:Shared}
end
end LL
namespace L2
open PySem PySem.Spec PyProof.Rows PySem.W
section
variable {X:Cx}
end
end L2
namespace L2
open PySem PySem.Spec PyProof.Rows
section
variable {X:Cx}
end
end L2
namespace L2
open PySem PySem.Spec PyProof.Rows PySem.W
def ac2 (A:Around)(neg:Bool):R2:=fun x y H Q=>∃ (ds:List PyData) (d:PyData),Sees H y (.list ds)/\Sees H x d/\PyData.canLayAll0 ds=true/\d.canLay0=true/\A.units+1+min (PyData.depthAll ds) d.depth < cLine/\Q (.bl (if neg then !(ds.any fun z=>z.eqv d) else ds.any fun z=>z.eqv d)) H
section
variable {X:Cx}
theorem abC:OpR X (compareOp .In) (ac2 X.A false):=by
 intro pins s σ H x y v u Q I rx ry h;obtain⟨ds,d,sa,sb,la,lb,hu,q⟩:=h;obtain⟨_,ra⟩:=sa.reads I.hok ry;obtain⟨_,rb⟩:=sb.reads I.hok rx;exact SeqAt.in_list_reads ra rb la lb hu ⟨.bl _,H,I,rfl,q⟩
theorem vL {nl:Nat}{ix:List Nat}{g:TG}{tf:TT}{te:TE}{σ:St}{H1:Hp}{D:Addr}{Q:VK}(Pv:Nat->List V->Hp->Prop){a:Addr}{o:Obj}{kvs:List (Key×V)}(h0:Pv 0 [] (upd H1 D (.lst [])))(hD:∀ i ys H,Pv i ys H->H D=some (.lst ys))(hl:∀ i ys H,Pv i ys H->H a=some (.frz o (.dK kvs)))
 (hs:∀ i ys H k v,kvs[i]? = some (k,v)->Pv i ys H->cE nl ix g tf te σ D ys H (kV k) fun ys' H'=>Nx kvs.length i (Pv (i+1) ys' H'))(hd:∀ ys H,Pv kvs.length ys H->Q (.ref D) H):gQ nl ix g tf te σ (ItK a o kvs) H1 D Q:=by
 refine nM (n:=kvs.length) Pv h0 hD (fun i ys H hi p=>⟨hi,hl i ys H p⟩) (fun ys H p=>⟨rfl,hl _ ys H p⟩) (fun i ys H x H' hi p y=>?_) hd;obtain⟨e,k,v,y,ex⟩:=y;subst e ex;exact hs i ys _ k v y p
theorem xW {h:Heap}:∀ {xs:List PyData} {vs:List Value} {as:List Addr},PyData.canLayAll0 xs=true->ReadsAll h vs xs as->vs.length=xs.length/\∀ (i:Nat) (hi:i < vs.length) (hj:i < xs.length),SeqAt.readOf h vs[i]=xs[i]:=fun {xs vs as} hc r=>by
 have e:=SeqAt.readsAll_map xs vs as hc r;have l:vs.length=xs.length:=by rw [← e,adG]
 refine⟨l,fun i hi hj=>?_⟩;have:=aeu (·[i]?) e;simp only [adK,adD hi,adD hj,Option.map] at this;injection this
def aah (A:Around):V->List V->Hp->VK->Prop:=fun x vs H Q=>∃ (v:V) (ds:List PyData) (d:PyData) (j:Nat) (hj:j < ds.length),vs=[v]/\Sees H x (.list ds)/\Sees H v d/\PyData.canLayAll0 ds=true/\d.canLay0=true/\A.units+1+min (PyData.depthAll ds) d.depth < cLine/\ds.length<=1000000/\ds[j].eqv d=true/\(∀ m (hm:m < ds.length),m < j->ds[m].eqv d=false)/\Q (.int (j:Int)) H
theorem wR:MtM X "list.index" (aah X.A):=by
 intro pins s σ H x vs v us Q I rx rv h;obtain⟨y,ds,d,j,hj,rfl,sa,sb,la,lb,hu,l6,ej,em,q⟩:=h;obtain⟨u,rfl,ru⟩:=rv.one;obtain⟨_,ra⟩:=sa.reads I.hok rx;obtain⟨_,rb⟩:=sb.reads I.hok ru;cases ra with
 | list h1 h2 h3 h4 =>
  rename_i l o vs n as;obtain⟨cls,dd,data,sl⟩:=o;simp only at h2 h3;subst h2 h3;have hr:=xW la h4;have hl:vs.size=ds.length:=by rw [← hr.1,aec]
  have lim:(1000000:Int) < 2 ^ 63 - 1:=by decide
  refine call_meets agW ⟨_,h1,rfl⟩ PySem.F.entry_list_index (PySem.F.args_list_index_2 _ _) (SeqAt.list_indexAt l vs n dd sl u (fun z=>PyData.eqv (SeqAt.readOf s.heap z) d) j (by lia) (by lia) ?_ ?_) ⟨h1,SeqAt.items_eqAt h4 rb la lb hu,?_⟩
  ·have:=hr.2 j (by lia) hj;rw [Array.getElem_toList] at this;rw [this];exact ej
  ·intro m hm hmj;have:=hr.2 m (by rw [aec];lia) (by lia);rw [Array.getElem_toList] at this;rw [this];exact em m (by lia) hmj
  ·exact⟨.int _,H,I.tok _,⟨s.toks,rfl⟩,q⟩
end
end L2
namespace L2
open PySem PySem.Spec PyProof.Rows
section
variable {prog:Program}{w:World}{A:Around}{E:Value->Shared->Prop}{s:Shared}
end
section
variable {X:Cx}
variable {o e:Expr}{es:List Expr}{to:TE}{t:TA}{name:Str}{apos cpos:Pos}{T id:String}{r:V->List V->Hp->VK->Prop}{ty:V->Hp->Prop}
def aax (P:Program)(w:World):V->List V->Hp->VK->Prop:=fun x vs H Q=>∃ a ss z,x=.ref a/\vs=[.str z]/\H a=some (kJ P w a ss)/\ss.length+1 < scanBound/\∀ ss',((z∈ss/\ss'=ss)\/(z ∉ ss/\ss'.Perm (ss++[z])))->ss'.Nodup->Q .non (upd H a (kJ P w a ss'))
theorem vc:MtM X "set.add" (aax X.prog X.w):=by
 intro pins s σ H x vs v us Q I rx rv h;obtain⟨a,ss,z,rfl,rfl,e,hr,q⟩:=h;cases rx;obtain⟨u,rfl,t,rfl⟩:=rv.one;have tx:=zG I.hok e;refine afv F.slot_set_add tx.setOf.typeIs F.entry_set_add ?_ (F.args_set_add_2 _ _);unfold Builtin.«set.add» Builtin.Frozenset.oneOther;simp only [List.isEmpty_nil,bind_assoc];unfold Builtin.Frozenset.addrOf setAdd;refine adE (adJ ?_)
 try dsimp only
 refine adE (adJ ?_)
 try dsimp only
 refine adE ?_;refine aeQ ?_;refine adE ((PySem.strKind X.prog X.w).pyHash (k:=z) ((uj rfl).mpr rfl) ?_);refine mR (s:={ s with toks:=s.toks+1 }) tx hr fun h' ss' hsb tx' alt=>?_;show wpAny _ _ (ret Value.none) _ _ _;refine adJ ⟨_,rfl,.non,_,lS (t':=s.toks+1) (I.tok (s.toks+1)) (by rw [e];exact True.intro) hsb ?_ (zH tx'),rfl,q ss' alt tx'.nd⟩;obtain⟨_,_,_,T,_⟩:=tx';exact⟨_,T.get⟩
theorem yt:ac3 X (fun x y H Q=>∃ p xs i v,x=.ref p/\y=.int (i:Nat)/\SqL X.K H p xs/\xs[i]? = some v/\Q v H):=by
 intro pins s σ H x y v u Q I rx ry h;obtain⟨p,xs,i,z,rfl,rfl,hq,he,q⟩:=h;cases rx;obtain⟨t,rfl⟩:=ry;obtain⟨its,r,pl,hz⟩:=I.list hq;obtain⟨w,ew,rw'⟩:=r.get he;have hi:i < xs.length:=(adF.mp he).1;have hn:=kD;exact wpAny_getItem_list pl.isList (by lia) (by lia) (by simpa using ew) ⟨z,H,I,rw',q⟩
end
section
variable {X:Cx}{K:PySem.W.Frag}{P:Program}{w:World}
theorem jM (hK:X.K=K):OpR X (compareOp .In) (rIn K false):=by subst hK;exact wZ
end
section
variable {X:Cx}
theorem yM {i:Nat}{x:Str}{pos' spos:Pos}{elt tg iter:Expr}{ifs:List Expr}{scope:Scope}{pos:Pos}{N':List Str}{nl:Nat}{ix:List Nat}{wi:TI}{g:TG}{tf:TT}{te:TE}(hN:X.N.Nodup)(hi':X.N[i]? = some x)(hx:Loc X.env.scope x)
 (hc:X.calm=true)(S:CompScope X scope)(Cp:yw X scope N' nl ix)(hi:PI X tg iter wi)
 (hg:∀ C fp s₀ H₀,PG (X.comp scope N' C fp s₀ H₀) tg g)(hf:∀ C fp s₀ H₀,PIf (X.comp scope N' C fp s₀ H₀) ifs tf)(he:∀ C fp s₀ H₀,PE (X.comp scope N' C fp s₀ H₀) elt te)
 (hsw:swapsWith (.ListComp elt [⟨tg,iter,ifs,0⟩] scope pos) (some (.Name x pos')) spos.line X.env=pure true)
 (hs:∀ x,foldedSetIterable iter X.env x=pure x)(hfn:X.fn x=true\/X.env.scope.names.lookup x=some .local):PS X (.Assign [.Name x pos'] (.ListComp elt [⟨tg,iter,ifs,0⟩] scope pos) spos) (yg (ll nl ix wi g tf te) (cw i)):=by
 intro pins s σ H D I h;rw [exec_Assign_Name_used _ _ _ _ hsw];refine adE (aeC (adE ?_));show wpAny _ X.A (do let _ ← comprehension (.ListComp elt [⟨tg,iter,ifs,0⟩] scope pos) scope X.env _ (newList []) false (eval iter X.env) (some (assign (.Name x pos') X.env))) _ _ s;refine adE (aed (ae5 (use:=some (assign (.Name x pos') X.env)) (cl:=i9 X.env scope.names []) (Q:=fun _ s'=>∃ σ' H',Inv X pins σ' H' s'/\D.nx σ' H') rfl hs (gh (S.cells I.ok)) S.kind S.loc ?_) (fun _ s' hq=>adJ (adJ hq)) fun _ _ e=>e);refine thn (hi pins s σ H _ I h) fun v s1 h1=>thn h1 fun itv s2 h2=>?_;obtain⟨it,fp,tn,J,H2,rfl,I2,T,st2,f2,h2⟩:=h2;obtain⟨W,⟨m0,w0⟩,turn⟩:=h2 s2.heap.objs.size I2.fresh;refine aeM (afK S.nocell (by intro y hy;simp at hy) (fun h₁ hns₁ hsb₁=>?_) S.kind);dsimp only at hns₁ hsb₁ ⊢;have fpo:∀ b∈fp,b < s2.heap.objs.size:=fun b hb=>by
  obtain⟨o,e,_⟩:=T.obj 0 _ st2 b hb;exact adQ e
 have I3:Inv X pins σ (upd H2 s2.heap.objs.size (.lst [])) { s2 with heap:=s2.heap.push { cls:=.type "list",data:=.seq ([]:List Value).toArray },toks:=s2.toks }:=I2.lnew .nil (ad7 _);have hD:(upd H2 s2.heap.objs.size (.lst [])) s2.heap.objs.size=some (.lst []):=af;have f3:∀ b∈fp,jE X pins (upd H2 s2.heap.objs.size (.lst [])) b:=fun b hb=>by
  refine⟨?_,(f2 b hb).2⟩;rw [aj (ad2 (fpo b hb))];exact (f2 b hb).1
 generalize hS3:s2.heap.push { cls:=.type "list",dict:=none,data:=.seq ([]:List Value).toArray }=g3 at hns₁ hsb₁ I3 ⊢;have sz3:g3.objs.size=s2.heap.objs.size+1:=by rw [← hS3,aex]
 have fpo3:∀ b∈fp,b < ({ s2 with heap:=g3,toks:=s2.toks }:Shared).heap.objs.size:=fun b hb=>by
  show b < g3.objs.size;rw [sz3];exact aeN (fpo b hb)
 have old:∀ b o,g3.get? b=some o->h₁.get? b=some o:=fun b o e=>hsb₁.extBut b o (ad2 (adQ e)) (adH _ e);have I4:=kW (tk:=s2.toks+([]:List (Str×Value)).length) S Cp I3 f3 fpo3 hns₁ old;generalize hX:X.comp scope N' g3.objs.size fp { s2 with heap:=g3,toks:=s2.toks } (upd H2 s2.heap.objs.size (.lst []))=X' at *;have hPr:X'.prog=X.prog:=by rw [← hX];rfl
 have hWr:X'.w=X.w:=by rw [← hX];rfl
 have hKr:X'.K=X.K:=by rw [← hX];rfl
 have hAr:X'.A=X.A:=by rw [← hX];rfl
 have hCa:X'.calm=true:=by rw [← hX];exact hc
 have hXe:X'.xe=fun _ _=>False:=by rw [← hX];rfl
 have hEx:X'.ex=fp:=by rw [← hX];rfl
 have hPn:X'.pn=[]:=by rw [← hX];rfl
 have hLo:X'.env.locals=g3.objs.size:=by rw [← hX];rfl
 have hEn:X'.env=compEnvC scope (i9 X.env scope.names []) g3.objs.size X.env:=by rw [← hX];rfl
 have hg':=hg g3.objs.size fp { s2 with heap:=g3,toks:=s2.toks } (upd H2 s2.heap.objs.size (.lst []));have hf':=hf g3.objs.size fp { s2 with heap:=g3,toks:=s2.toks } (upd H2 s2.heap.objs.size (.lst []));have he':=he g3.objs.size fp { s2 with heap:=g3,toks:=s2.toks } (upd H2 s2.heap.objs.size (.lst []));rw [hX] at hg' hf' he';have I4':Inv X' [] (cz nl ix σ) (upd H2 s2.heap.objs.size (.lst [])) { s2 with heap:=h₁,toks:=s2.toks+([]:List (Str×Value)).length }:=I4;have back:∀ {H':Hp} {σ':St} {pins':List (Addr×Obj)} {s':Shared} {h':Heap},Inv X' pins' σ' H' s'->Heap.SameBut g3.objs.size s'.heap h'->Inv X pins σ H' { s' with heap:=h' }:=fun I' sb=>by
  subst hX;exact jD I3 f3 I' sb
 have stat:∀ {H':Hp},(∀ b∈fp,H' b=none)->∀ b∈fp,jE X' [] H' b:=fun hn b hb=>by
  refine⟨hn b hb,?_,?_,.inl (by rw [hEx];exact hb),?_,fun p hp=>by rw [hPn] at hp;cases hp⟩
  ·rw [hLo];exact ad2 (fpo3 b hb)
  ·exact I4'.ok.exfs b (by rw [hEx];exact hb)
  ·exact (I4'.ok.exf b (by rw [hEx];exact hb)).2
 have loop:codeAny (model X.prog X.w) X.A (.compLoop (.ListComp elt [⟨tg,iter,ifs,0⟩] scope pos) 0 (.ref it) (.ref s2.heap.objs.size) X'.env)
  (compPost (model X.prog X.w) X.A X.xe (some (assign (.Name x pos') X.env)) (fun _ s'=>∃ σ' H',Inv X pins σ' H' s'/\D.nx σ' H') (.ref s2.heap.objs.size) g3.objs.size) { s2 with heap:=h₁,toks:=s2.toks+([]:List (Str×Value)).length }:=by
  rw [← hPr,← hWr,← hAr];refine jF (fun n s'=>∃ i ys H',Inv X' [] (cz nl ix σ) H' s'/\tn i s'.heap/\(∀ b∈fp,H' b=none)/\W i n ys H') ?_ m0
   ⟨0,[],_,I4',T.keep _ _ _ st2 (fun b hb o e=>old b o (by rw [← hS3];exact adH _ e)),fun b hb=>(f3 b hb).1,w0⟩
  rintro n s5 ⟨i,ys,H5,I5,st5,fr5,w5⟩;obtain⟨hD5,alt⟩:=turn i n ys H5 w5;rcases alt with ⟨stop,qn⟩ | ⟨go,step⟩
  ·rw [hPr,hWr];refine thn (T.done X' hPr hWr hKr hCa i [] s5 _ H5 _ I5 (stat fr5) st5 stop) fun r s6 ⟨hr,I6⟩=>?_;subst hr;obtain⟨m,hn,_⟩:=I6.loc;rw [hLo] at hn;have I7:Inv X pins σ H5 s6:=back I6 (agJ _ _);have nC:H5 g3.objs.size=none:=by
    have:=I6.free;rw [hLo] at this;exact this
   have fC:jE X pins H5 g3.objs.size:=I3.fpOk (adL _) nC;show wpAny _ _ (assign (.Name x pos') X.env (.ref s2.heap.objs.size)) _ _ _;refine agD (jB I7 hN hi' hx (v:=.ref s2.heap.objs.size) rfl (fun s8 I8 ⟨a8,sb8,ha8⟩=>?_) hfn);have nCa:g3.objs.size≠a8:=by
    rcases ha8 with z | z
    ·rw [z];exact fC.2.1
    ·exact fun q=>fC.2.2.2.2.1 x a8 z q.symm
   refine⟨m,hn.sameBut sb8 nCa,fun h' sb=>⟨_,H5,?_,qn⟩⟩;exact I8.turnedL (t':=s8.toks) (fp:=[g3.objs.size]) (fun b o hb e=>(sb.2 b (fun z=>hb (by rw [z];exact adT.mpr rfl))).trans e) (fun b hb=>by rw [adT.mp hb];exact fC)
  ·have it5:=T.item X' hPr hWr hKr hCa i [] s5 _ H5 (fun _ _=>False) I5 (stat fr5) st5 go;rw [← hPr,← hWr] at it5;refine thn it5 fun r s6 ⟨u,hr,h6⟩=>?_;subst hr;refine thn h6 fun _ s7 ⟨x,H7,I7,r7,y7,st7,fr7⟩=>?_;have I7':=I7.pinned (stat fr7) (T.obj _ _ st7);have g7:=hg' _ s7 _ H7 x u _ I7' r7 (step x H7 y7);rw [hXe] at g7;refine thn g7 fun _ s8 ⟨σ8,H8,I8,⟨hl8,hd8⟩,q8⟩=>?_;have f8:=hf' _ s8 σ8 H8 _ I8 q8;rw [hXe] at f8;refine thn f8 fun ok s9 ⟨H9,I9,q9⟩=>?_;have again:∀ {H10:Hp} {s10:Shared} {ys':List V},Inv X' ([]++fz fp s7.heap) σ8 H10 s10->(∃ m',m' < n/\W (i+1) m' ys' H10)->∃ m,m < n/\∃ i ys H',Inv X' [] (cz nl ix σ) H' s10/\tn i s10.heap/\(∀ b∈fp,H' b=none)/\W i m ys H':=fun {H10 s10 ys'} I10 ⟨m',hm,w'⟩=>by
    refine⟨m',hm,i+1,ys',H10,gL I10.unpinned hl8 hd8,T.keep _ _ _ st7 fun b hb o e=>(I10.pin (b,o) (adP _ (adP _ (aR hb e)))).1,fun b hb=>?_,w'⟩;obtain⟨o,e,d⟩:=T.obj _ _ st7 b hb;exact (I10.pin (b,o) (adP _ (adP _ (aR hb e)))).2.1
   cases ok with
   | false =>
    rw [if_neg adM] at q9 ⊢;exact again I9 q9
   | true =>
    rw [if_pos rfl] at q9 ⊢;have e9:=he' _ s9 σ8 H9 _ I9 q9;rw [hXe] at e9;refine thn e9 fun xv s10 ⟨y,H10,I10,r10,hD10,hz,mw⟩=>?_;have a10:=dm (X:=X') _ s10 σ8 H10 (.ref s2.heap.objs.size) [y] _ [xv] (fun _ H'=>H'=upd H10 s2.heap.objs.size (.lst (ys++[y]))) I10 rfl (.cons r10 .nil) ⟨_,ys,y,rfl,rfl,hD10,hz,rfl⟩;rw [hXe] at a10;refine thn a10 fun _ s11 ⟨_,H11,I11,_,e11⟩=>?_;subst e11;exact again I11 mw
 rw [hEn] at loop;exact afX loop (T.self _ 0 _ _ _ (T.keep _ _ _ st2 (fun b hb o e=>old b o (by rw [← hS3];exact adH _ e))) loop)
theorem rP {i:Nat}{x:Str}{pos' spos:Pos}{elt tg iter:Expr}{ifs:List Expr}{outer scope:Scope}{pos:Pos}{N N':List Str}{nl:Nat}{ix:List Nat}{wi:TI}{g:TG}{tf:TT}{te:TE}(hN:X.N.Nodup)(hi':X.N[i]? = some x)(hx:Loc X.env.scope x)
 (h1:X.env.scope=outer)(h2:X.N=N)(hc:X.calm=true)(hi:PI X tg iter wi)
 (hg:∀ C fp s₀ H₀,PG (X.comp scope N' C fp s₀ H₀) tg g)(hf:∀ C fp s₀ H₀,PIf (X.comp scope N' C fp s₀ H₀) ifs tf)(he:∀ C fp s₀ H₀,PE (X.comp scope N' C fp s₀ H₀) elt te)
 (hsw:swapsWith (.ListComp elt [⟨tg,iter,ifs,0⟩] scope pos) (some (.Name x pos')) spos.line X.env=pure true:=by rfl)
 (hck:jf outer scope N N' nl ix=true:=by decide +kernel)(hs:∀ x,foldedSetIterable iter X.env x=pure x:=by intro _;rfl)(hfn:X.fn x=true\/X.env.scope.names.lookup x=some .local:=by first | exact .inl rfl | exact .inr rfl | assumption) :
 PS X (.Assign [.Name x pos'] (.ListComp elt [⟨tg,iter,ifs,0⟩] scope pos) spos) (yg (ll nl ix wi g tf te) (cw i)) :=
 let ⟨S,Cp⟩:=iO h1 h2 hck
 yM hN hi' hx hc S Cp hi hg hf he hsw hs hfn
end
section
variable {X:Cx}{K:PySem.W.Frag}{P:Program}{w:World}
end
theorem tL (k:Str):∀ {ss:List Str},k∈ss->∃ j,ss[j]? = some k/\(∀ m,m < j->ss[m]?≠some k)/\ss.erase k=ss.eraseIdx j
 | a::r,h=>by
  by_cases e:a=k
  ·subst e;exact⟨0,rfl,fun m hm=>absurd hm (afU _),by simp⟩
  ·have hk:k∈r:=(adO.mp h).resolve_left fun z=>e z.symm;obtain⟨j,h1,h2,h3⟩:=tL k hk;refine⟨j+1,by simpa using h1,fun m hm=>?_,?_⟩
   ·cases m with
    | zero=>simpa using e
    | succ m=>simpa using h2 m (by lia)
   ·rw [List.erase_cons_tail (by simpa using e),h3]
    rfl
theorem iZ {k:Str}:∀ {vs:List Value} {ss:List Str},StrsAre vs ss->∀ j (hj:j < vs.length),isStrOf k vs[j]=true↔ss[j]? = some k
 | _,_,.nil,j,hj=>absurd hj (afU _)
 | _,_,.cons x t r,0,hj=>by simp [isStrOf]
 | _,_,.cons x t r,j+1,hj=>by
  have:=iZ (k:=k) r j (by simpa using hj);simpa using this
theorem qJ {α β:Type}(f:α->β):∀ (l:List α) (j:Nat),(l.eraseIdx j).map f=(l.map f).eraseIdx j
 | [],_=>rfl
 | _::_,0=>rfl
 | a::l,j+1=>by
  show f a::(l.eraseIdx j).map f=f a::(l.map f).eraseIdx j;rw [qJ f l j]
section
variable {X:Cx}
def aan:V->List V->Hp->VK->Prop:=fun x vs H Q=>∃ (l:Addr) (ss:List Str) (k:Str),x=.ref l/\vs=[.str k]/\H l=some (.lst (ss.map V.str))/\k∈ss/\Q .non (upd H l (.lst ((ss.erase k).map V.str)))
theorem xy:MtM X "list.remove" aan:=by
 intro pins s σ H x vs v us Q I rx rv h;obtain⟨l,ss,k,rfl,rfl,hH,hk,q⟩:=h;cases rx;obtain⟨u,rfl,t,rfl⟩:=rv.one;obtain⟨z,its,n,r,hl,e⟩:=I.lstM hH;have hi:StrsAre its ss:=il r;obtain⟨j,h1,h2,h3⟩:=tL k hk;have hjs:j < ss.length:=(adF.mp h1).1;have hlen:its.length=ss.length:=by rw [← hl,adG]
 have hj:j < its.length:=by lia
 refine call_meets F.slot_list_remove ⟨_,e,rfl⟩ F.entry_list_remove (F.args_list_remove_2 _ _)
  (MeetsSeq.list_remove l its.toArray n (.str k t) (isStrOf k) (fun y hy=>eq_isStrOf k t hi y (by simpa using hy)) j (by simpa using hj) (by simpa using (iZ hi j hj).mpr h1) (fun m hm hlt=>?_) (by rw [ad3];lia)) ⟨e,?_⟩
 ·have hm':m < its.length:=by simpa using hm
  have:=h2 m hlt;rw [← Bool.not_eq_true];intro c;exact this ((iZ hi m hm').mp (by simpa using c))
 rw [h3,qJ] at q;refine⟨.non,_,I.lset (its':=its.eraseIdx j) hH e ?_ (r.eraseIdx j) ?_,rfl,q⟩
 ·show its.toArray.eraseIdxIfInBounds j=(its.eraseIdx j).toArray;rw [afZ]
 ·have:=pO (ss.map V.str) j;lia
end
section
variable {prog:Program}{w:World}{A:Around}{E:Value->Shared->Prop}
end
section
variable {X:Cx}
end
section
variable {P:Program}{w:World}{K:PySem.W.Frag}{mg:Str->Option Value}{base:Heap}
end
section
variable {X:Cx}
def adv (K:PySem.W.Frag)(te tk:TE):TE:=fun σ H Q=>te σ H fun x H1=>tk σ H1 fun y H2=>y=.int (-1)/\∃ a xs,x=.ref a/\SqL K H2 a xs/\∀ p,H2 p=none->Q (.ref p) (upd H2 p (.lst xs.reverse))
theorem Vals.rev:∀ {xs:List V} {us:List Value},Vals xs us->Vals xs.reverse us.reverse
 | _,_,.nil=>.nil
 | _,_,.cons a b=>by
  rw [List.reverse_cons,List.reverse_cons];exact (Vals.rev b).append (.cons a .nil)
end
section
variable {prog:Program}{w:World}{A:Around}{E:Value->Shared->Prop}{s:Shared}
def pr:Nat->List Value->List (Key×Value)
 | _,[]=>[]
 | k,v::r=>(.inl (k:Int),v)::pr (k+1) r
end
section
variable {prog:Program}{w:World}{A:Around}{R:Result->Shared->Prop}
end
section
variable {prog:Program}{w:World}{A:Around}{E:Value->Shared->Prop}{s:Shared}
end
section
variable {X:Cx}
end
section
variable {prog:Program}{w:World}{A:Around}{E:Value->Shared->Prop}{s:Shared}
end
section
variable {prog:Program}{w:World}{A:Around}{R:Result->Shared->Prop}
end
section
variable {prog:Program}{w:World}{A:Around}{E:Value->Shared->Prop}{s:Shared}
end
def uJ (ta:TA):TE:=fun σ H Q=>ta σ H fun xs H1=>∃ n:Nat,xs=[.int (n:Int)]/\n<=1000000/\∀ l,H1 l=none->Q (.ref l) (upd H1 l (.lst ((List.range n).map fun i=>V.int (i:Nat))))
section
variable {X:Cx}
theorem uT:bootBuiltins "list" = some (.type "list"):=by decide +kernel
theorem nu:∀ {its:List Value} {m:Nat},(∀ (j:Nat) v,its[j]? = some v->∃ t,v=.int (((m+j:Nat):Int)) t)->Vals ((List.range' m its.length).map fun i=>V.int (i:Nat)) its
 | [],_,_=>.nil
 | u::us,m,h=>by
  rw [aef,List.range'_succ,adS];refine .cons ?_ (nu (m:=m+1) fun j v e=>?_)
  ·obtain⟨t,rfl⟩:=h 0 u rfl;exact⟨t,rfl⟩
  ·obtain⟨t,rfl⟩:=h (j+1) v (by simpa using e);exact⟨t,by rw [show m+1+j=m+(j+1) by lia]⟩
theorem pH {a:Expr}{ta:TA}{p p2 pos pos2:Pos}(hg:Gl X "list")(hm:X.mg "list" = none)(hg2:Gl X "range")(hm2:X.mg "range" = none)(hc:X.calm=true)(ha:PA X [a] ta)(hs2:starEach [a] X.env=[(false,eval a X.env)]:=by rfl)
 (hs:starEach [.Call (.Name "range" p2) [a] [] pos2] X.env=[(false,eval (.Call (.Name "range" p2) [a] [] pos2) X.env)]:=by rfl):PE X (.Call (.Name "list" p) [.Call (.Name "range" p2) [a] [] pos2] [] pos) (uJ ta):=by
 intro pins s σ H Q I h;refine Call_ (kj I hg hm uT (aeE ?_ hs rfl));rw [hs];show wpAny _ _ (spliced [(false,eval _ X.env)]) _ _ s;refine Calls.spliced_cons ?_;refine Call_ (kj I hg2 hm2 boot_range (aeE (thn (ha pos2 pins s σ H _ I h) fun us s1 ⟨vs,H1,I1,r1,q1⟩=>?_) hs2 rfl));obtain⟨n,e,hn,q⟩:=q1;subst e;obtain⟨u,rfl,t,rfl⟩:=ja r1;refine call_range_1 ?_;refine Calls.spliced_nil ?_;have I2:Inv X pins σ H1 { s1 with heap:=s1.heap.push { cls:=.type "range",data:=.fields #[.int 0 s1.toks,.int n t,.int 1 (s1.toks+1)] },toks:=s1.toks+1+1 }:=I1.kept fun b o e=>adH _ e;refine call_list_range (n:=n) (I1.ok.hd hc) (IsRange.new ..) (small_one (by lia) (by lia) (by lia) (by lia)) (by rw [rangeSize_one];split<;>lia) (by lia) fun h' tk acc c k hg it=>?_;refine⟨.ref _,_,I2.laid (t':=tk) (o:=.lst ((List.range n).map fun i=>V.int (i:Nat))) k (adL _) ?_,rfl,q _ (I2.hok.fresh (adL _))⟩;obtain⟨i1,i2⟩:=it;refine⟨by rw [adG,aeB];exact adZ hn (by decide),acc.toList,c,?_,by simpa using hg⟩;have z:=nu (its:=acc.toList) (m:=0) fun j v e=>by
  obtain⟨t',rfl⟩:=i2 j v (by simpa using e);exact⟨t',by simp⟩
 rw [aec,i1,← List.range_eq_range'] at z;exact z
end
theorem zp {K:PySem.W.Frag}{nl:Nat}{ix:List Nat}{te:TE}{σ:St}{H1:Hp}{D a:Addr}{Q:VK}{xs:List V}{F:V->V}(ha:H1 a=some (.lst xs))(nD:H1 D=none)(hl:xs.length<=1000000)
 (hc:∀ x,((cz nl ix σ).set 0 (some x)).drop nl=ix.map fun j=>(σ[j]?).join)
 (ht:∀ (H:Hp) (x:V) (R:VK),x∈xs->Same H1 H->R (F x) H->te ((cz nl ix σ).set 0 (some x)) H R)
 (hd:∀ H,Same H1 H->H D=some (.lst (xs.map F))->Q (.ref D) H):gQ nl ix (cw 0) tZ te σ (Itl K a) H1 D Q:=by
 have lim:1000000 < sizeLine:=by decide
 refine di (xs:=xs) (fun i ys H=>ys=(xs.take i).map F/\H D=some (.lst ys)/\Same H1 H) ⟨rfl,af,fun b u e=>by rw [aj (aq e nD)];exact e⟩ (fun i ys H ⟨_,h,_⟩=>h) (fun i ys H ⟨_,_,s⟩=>aAA (s a _ ha)) ?_ ?_
 ·rintro i ys H x hx ⟨rfl,hD,s⟩;have hi:i < xs.length:=(adF.mp hx).1;refine fh (hc x) (ht H x _ (adR hx) s ⟨hD,by rw [adG,aeb];lia,nx hi ⟨?_,af,fun b u e=>?_⟩⟩)
  ·rw [aee,hx,adW]
   rfl
  ·rw [aj (aq e nD)];exact s b u e
 ·rintro ys H ⟨rfl,hD,s⟩;rw [aem] at hD;exact hd H s hD
theorem wQ {K:PySem.W.Frag}{nl:Nat}{ix:List Nat}{te:TE}{σ:St}{H1:Hp}{D a:Addr}{Q:VK}{xs:List V}{F:V->V}(ha:H1 a=some (.lst xs))(nD:H1 D=none)(hl:xs.length<=1000000)
 (hc:∀ x,((cz nl ix σ).set 0 (some x)).drop nl=ix.map fun j=>(σ[j]?).join)
 (ht:∀ (H:Hp) (x:V) (R:VK),x∈xs->Same H1 H->(∀ H',Same H H'->R (F x) H')->te ((cz nl ix σ).set 0 (some x)) H R)
 (hd:∀ H,Same H1 H->H D=some (.lst (xs.map F))->Q (.ref D) H):gQ nl ix (cw 0) tZ te σ (Itl K a) H1 D Q:=by
 have lim:1000000 < sizeLine:=by decide
 refine di (xs:=xs) (fun i ys H=>ys=(xs.take i).map F/\H D=some (.lst ys)/\Same H1 H) ⟨rfl,af,fun b u e=>by rw [aj (aq e nD)];exact e⟩ (fun i ys H ⟨_,h,_⟩=>h) (fun i ys H ⟨_,_,s⟩=>aAA (s a _ ha)) ?_ ?_
 ·rintro i ys H x hx ⟨rfl,hD,s⟩;have hi:i < xs.length:=(adF.mp hx).1;refine fh (hc x) (ht H x _ (adR hx) s fun H' s'=>⟨s' _ _ hD,by rw [adG,aeb];lia,nx hi ⟨?_,af,fun b u e=>?_⟩⟩)
  ·rw [aee,hx,adW]
   rfl
  ·rw [aj (aq e nD)];exact s' _ _ (s b u e)
 ·rintro ys H ⟨rfl,hD,s⟩;rw [aem] at hD;exact hd H s hD
theorem jw {K:PySem.W.Frag}{nl:Nat}{ix:List Nat}{tf:TT}{te:TE}{σ:St}{H1:Hp}{D a:Addr}{Q:VK}{xs:List V}{F:V->V}{pb:V->Bool}(ha:H1 a=some (.lst xs))(nD:H1 D=none)(hl:xs.length<=1000000)
 (hc:∀ x,((cz nl ix σ).set 0 (some x)).drop nl=ix.map fun j=>(σ[j]?).join)
 (ht:∀ (H:Hp) (x:V) (R:Bool->Hp->Prop),x∈xs->Same H1 H->(∀ H',Same H H'->R (pb x) H')->tf ((cz nl ix σ).set 0 (some x)) H R)
 (he:∀ (H:Hp) (x:V) (R:VK),x∈xs->pb x=true->Same H1 H->(∀ H',Same H H'->R (F x) H')->te ((cz nl ix σ).set 0 (some x)) H R)
 (hd:∀ H,Same H1 H->H D=some (.lst ((xs.filter pb).map F))->Q (.ref D) H):gQ nl ix (cw 0) tf te σ (Itl K a) H1 D Q:=by
 have lim:1000000 < sizeLine:=by decide
 refine di (xs:=xs) (fun i ys H=>ys=((xs.take i).filter pb).map F/\H D=some (.lst ys)/\Same H1 H) ⟨rfl,af,fun b u e=>by rw [aj (aq e nD)];exact e⟩ (fun i ys H ⟨_,h,_⟩=>h) (fun i ys H ⟨_,_,s⟩=>aAA (s a _ ha)) ?_ ?_
 ·rintro i ys H x hx ⟨rfl,hD,s⟩;have hi:i < xs.length:=(adF.mp hx).1;have hm:=adR hx;refine mK (hc x) (ht H x _ hm s fun H' s'=>?_);have et:xs.take (i+1)=xs.take i++[x]:=by rw [aee,hx];rfl
  cases hb:pb x with
  | true =>
   refine gI (he H' x _ hm hb (s.trans s') fun H2 s2=>⟨s2 _ _ (s' _ _ hD),?_,nx hi ⟨?_,af,fun b u e=>?_⟩⟩)
   ·rw [adG];exact aeg (adZ (aeF _ _) (by rw [aeb];lia)) lim
   ·rw [et,aen,adW,aea,if_pos hb]
    rfl
   ·rw [aj (aq e nD)];exact s2 _ _ (s' _ _ (s b u e))
  | false =>
   refine eP (nx hi ⟨?_,s' _ _ hD,s.trans s'⟩);rw [et,aen,aea,if_neg (by rw [hb];exact adM),ago,aew]
 ·rintro ys H ⟨rfl,hD,s⟩;rw [aem] at hD;exact hd H s hD
theorem vV {X:Cx}{K:PySem.W.Frag}{a:Expr}{ta:TE}(hK:X.K=K)(ha:PE X a ta)(he:∀ whole,isTrue a X.env whole=(do let v ← whole;standAt a.pos;holding [v] (truthy v))) :
 PT X a (fun σ H Q=>ta σ H fun x H'=>∃ k,acO K x H' k/\Q k H'):=by
 subst hK;exact tS ha he
theorem uO {nl:Nat}{ix:List Nat}{tf:TT}{te:TE}{σ:St}{H1:Hp}{D a:Addr}{o:Obj}{kvs:List (Key×V)}{Q:VK}{F:Key->V}{pb:Key->Bool}(ha:H1 a=some (.frz o (.dK kvs)))(nD:H1 D=none)(hl:kvs.length<=1000000)
 (hc:∀ x,((cz nl ix σ).set 0 (some x)).drop nl=ix.map fun j=>(σ[j]?).join)
 (ht:∀ (H:Hp) (k:Key) (R:Bool->Hp->Prop),k∈kvs.map (·.1)->Same H1 H->(∀ H',Same H H'->R (pb k) H')->tf ((cz nl ix σ).set 0 (some (kV k))) H R)
 (he:∀ (H:Hp) (k:Key) (R:VK),k∈kvs.map (·.1)->pb k=true->Same H1 H->(∀ H',Same H H'->R (F k) H')->te ((cz nl ix σ).set 0 (some (kV k))) H R)
 (hd:∀ H,Same H1 H->H D=some (.lst (((kvs.map (·.1)).filter pb).map F))->Q (.ref D) H):gQ nl ix (cw 0) tf te σ (ItK a o kvs) H1 D Q:=by
 have lim:1000000 < sizeLine:=by decide
 refine vL (fun i ys H=>ys=(((kvs.map (·.1)).take i).filter pb).map F/\H D=some (.lst ys)/\Same H1 H) ⟨rfl,af,fun b u e=>by rw [aj (aq e nD)];exact e⟩ (fun i ys H ⟨_,h,_⟩=>h) (fun i ys H ⟨_,_,s⟩=>s a _ ha) ?_ ?_
 ·rintro i ys H k v hx ⟨rfl,hD,s⟩;have hi:i < kvs.length:=(adF.mp hx).1;have hk:(kvs.map (·.1))[i]? = some k:=by rw [adK,hx];rfl
  have hm:=adR hk;refine mK (hc _) (ht H k _ hm s fun H' s'=>?_);have et:(kvs.map (·.1)).take (i+1)=(kvs.map (·.1)).take i++[k]:=by rw [aee,hk];rfl
  cases hb:pb k with
  | true =>
   refine gI (he H' k _ hm hb (s.trans s') fun H2 s2=>⟨s2 _ _ (s' _ _ hD),?_,nx hi ⟨?_,af,fun b u e=>?_⟩⟩)
   ·rw [adG];exact aeg (adZ (aeF _ _) (by rw [aeb,adG];lia)) lim
   ·rw [et,aen,adW,aea,if_pos hb]
    rfl
   ·rw [aj (aq e nD)];exact s2 _ _ (s' _ _ (s b u e))
  | false =>
   refine eP (nx hi ⟨?_,s' _ _ hD,s.trans s'⟩);rw [et,aen,aea,if_neg (by rw [hb];exact adM),ago,aew]
 ·rintro ys H ⟨rfl,hD,s⟩;rw [ag6 (by rw [adG];exact adL _)] at hD;exact hd H s hD
theorem rW {nl:Nat}{ix:List Nat}{tk tv:TE}{σ:St}{H1:Hp}{D a:Addr}{o:Obj}{kvs:List (Key×V)}{Q:VK}{F:Key->V}(ha:H1 a=some (.frz o (.dK kvs)))(nd:(kvs.map (·.1)).Nodup)(nD:H1 D=none)(hl:kvs.length<=1000000)
 (hc:∀ x,((cz nl ix σ).set 0 (some x)).drop nl=ix.map fun j=>(σ[j]?).join)
 (hk:∀ (H:Hp) (k:Key) (R:VK),R (kV k) H->tk ((cz nl ix σ).set 0 (some (kV k))) H R)
 (hv:∀ (H:Hp) (k:Key) (R:VK),k∈kvs.map (·.1)->Same H1 H->(∀ H',Same H H'->R (F k) H')->tv ((cz nl ix σ).set 0 (some (kV k))) H R)
 (hd:∀ H,Same H1 H->H D=some (.dK (kvs.map fun p=>(p.1,F p.1)))->Q (.ref D) H):xb nl ix (cw 0) tZ tk tv σ (ItK a o kvs) H1 D Q:=by
 have lim:1000000 < sizeLine:=by decide
 refine aa2 (n:=kvs.length) (fun i ys H=>ys=(kvs.take i).map (fun p=>(p.1,F p.1))/\H D=some (.dK ys)/\Same H1 H) ⟨rfl,af,fun b u e=>by rw [aj (aq e nD)];exact e⟩ (fun i ys H ⟨_,h,_⟩=>h) (fun i ys H hi ⟨_,_,s⟩=>⟨hi,s a _ ha⟩) (fun ys H ⟨_,_,s⟩=>⟨rfl,s a _ ha⟩) ?_ ?_
 ·rintro i ys H x H' hi ⟨rfl,hD,s⟩ ⟨e,k,v,hx,ex⟩;subst e ex;have hkm:(kvs.map (·.1))[i]? = some k:=by rw [adK,hx];rfl
  refine u3 (hc _) (hk _ k _ (hv _ k _ (adR hkm) s fun H2 s2=>⟨k,rfl,s2 _ _ hD,by rw [adG,aeb];lia,nx hi ⟨?_,af,fun b u e=>?_⟩⟩))
  ·have no:fk ((kvs.take i).map fun p=>(p.1,F p.1)) k=none:=by
    rw [← Option.not_isSome_iff_eq_none,← gw];intro z;obtain⟨q,hq,e⟩:=afw.mp z;obtain⟨r,hr,rfl⟩:=ad5.mp hq;have ek:r.1=k:=by simpa using e
    obtain⟨j,hj⟩:=aeH hr;rw [afB] at hj;split at hj
    ·rename_i lt;have hjm:(kvs.map (·.1))[j]? = some k:=by rw [adK,hj];show some r.1=_;rw [ek]
     have:=(List.getElem?_inj (adF.mp hjm).1 nd).mp (hjm.trans hkm.symm);lia
    ·cases hj
   rw [sY _ no,aee,hx,adW]
   rfl
  ·rw [aj (aq e nD)];exact s2 _ _ (s b u e)
 ·rintro ys H ⟨rfl,hD,s⟩;rw [aem] at hD;exact hd H s hD
section
variable {nl:Nat}{ix:List Nat}{tf:TT}{tk tv:TE}{σ:St}{H1:Hp}{D a:Addr}{Q:VK}{F:Key->V}{pb:Key->Bool}{ks:List Key}
end
structure RelL {α:Type}(F:α->List V)(H0 H:Hp)(D:Addr)(ys:List V)(ks:List α):Prop where
 len:ys.length=ks.length
 at_:∀ (j:Nat) y k,ys[j]? = some y->ks[j]? = some k->∃ b:Addr,y=.ref b/\H b=some (.lst (F k))/\b≠D/\H0 b=none
theorem RelL.nil {α:Type}{F:α->List V}{H0 H:Hp}{D:Addr}:RelL F H0 H D [] ([]:List α):=⟨rfl,fun j y k e=>nomatch e⟩
theorem RelL.same {α:Type}{F:α->List V}{H0 H H':Hp}{D:Addr}{ys:List V}{ks:List α}(r:RelL F H0 H D ys ks)(s:∀ b u,b≠D->H b=some u->H' b=some u):RelL F H0 H' D ys ks :=
 ⟨r.len,fun j y k a b=>let ⟨c,e,h,n⟩:=r.at_ j y k a b;⟨c,e,s _ _ n.1 h,n⟩⟩
theorem RelL.snoc {α:Type}{F:α->List V}{H0 H:Hp}{D b:Addr}{ys:List V}{ks:List α}{k:α}(r:RelL F H0 H D ys ks)(h:H b=some (.lst (F k)))(n:b≠D/\H0 b=none):RelL F H0 H D (ys++[.ref b]) (ks++[k]):=by
 refine⟨by rw [adI,adI,r.len];rfl,fun j y x a c=>?_⟩;have ln:=r.len;by_cases hj:j < ys.length
 ·rw [ad0 hj] at a;rw [ad0 (by lia)] at c;exact r.at_ j y x a c
 ·have l1:=(adF.mp a).1;rw [adI,ad8] at l1;rw [ad1 (by lia),show j - ys.length=0 by lia] at a;rw [ad1 (by lia),show j - ks.length=0 by lia] at c;cases a;cases c;exact⟨b,rfl,h,n⟩
section
variable {nl:Nat}{ix:List Nat}{tf:TT}{te:TE}{σ:St}{H1:Hp}{D a:Addr}{Q:VK}
theorem va {α:Type}{K:PySem.W.Frag}{xs:List V}{ks:List α}{pb:α->Bool}{F:α->List V}(ha:H1 a=some (.lst xs))(nD:H1 D=none)(hl:xs.length<=1000000)(lk:xs.length=ks.length)
 (hc:∀ x,((cz nl ix σ).set 0 (some x)).drop nl=ix.map fun j=>(σ[j]?).join)
 (ht:∀ (H:Hp) (j:Nat) (x:V) (k:α) (R:Bool->Hp->Prop),xs[j]? = some x->ks[j]? = some k->Same H1 H->(∀ H',Same H H'->R (pb k) H')->tf ((cz nl ix σ).set 0 (some x)) H R)
 (he:∀ (H:Hp) (j:Nat) (x:V) (k:α) (R:VK),xs[j]? = some x->ks[j]? = some k->pb k=true->Same H1 H->(∀ (b:Addr) H',Same H H'->H b=none->H' b=some (.lst (F k))->R (.ref b) H')->te ((cz nl ix σ).set 0 (some x)) H R)
 (hd:∀ ys H,Same H1 H->H D=some (.lst ys)->RelL F H1 H D ys (ks.filter pb)->Q (.ref D) H):gQ nl ix (cw 0) tf te σ (Itl K a) H1 D Q:=by
 have lim:1000000 < sizeLine:=by decide
 refine di (xs:=xs) (fun i ys H=>RelL F H1 H D ys ((ks.take i).filter pb)/\H D=some (.lst ys)/\Same H1 H) ⟨.nil,af,fun b u e=>by rw [aj (aq e nD)];exact e⟩ (fun i ys H ⟨_,h,_⟩=>h) (fun i ys H ⟨_,_,s⟩=>aAA (s a _ ha)) ?_ ?_
 ·rintro i ys H x hx ⟨rl,hD,s⟩;have hi:i < xs.length:=(adF.mp hx).1;obtain⟨k,hk⟩:∃ k,ks[i]? = some k:=⟨_,adD (by lia)⟩;have et:ks.take (i+1)=ks.take i++[k]:=by rw [aee,hk];rfl
  have yl:ys.length<=1000000:=by
   rw [rl.len];exact adZ (aeF _ _) (by rw [aeb];lia)
  refine mK (hc x) (ht H i x k _ hx hk s fun H' s'=>?_);cases hb:pb k with
  | true =>
   refine gI (he H' i x k _ hx hk hb (s.trans s') fun b H2 s2 nb eb=>⟨s2 _ _ (s' _ _ hD),aeg yl lim,nx hi ⟨?_,af,fun b u e=>?_⟩⟩)
   ·rw [et,aen,aea,if_pos hb];have nbD:b≠D:=fun z=>by subst z;rw [s' _ _ hD] at nb;cases nb
    exact RelL.snoc (k:=k) (rl.same fun c u n e=>by rw [aj n];exact s2 _ _ (s' _ _ e)) (by rw [aj nbD];exact eb) ⟨nbD,(s.trans s').free nb⟩
   ·rw [aj (aq e nD)];exact s2 _ _ (s' _ _ (s b u e))
  | false =>
   refine eP (nx hi ⟨?_,s' _ _ hD,s.trans s'⟩);rw [et,aen,aea,if_neg (by rw [hb];exact adM),ago,aew];exact rl.same fun c u _ e=>s' _ _ e
 ·rintro ys H ⟨rl,hD,s⟩;rw [lk,aem] at rl;exact hd ys H s hD rl
end
section
variable {X:Cx}
end
def ab5 (K:PySem.W.Frag)(a:Addr)(n:Nat):It :=
 ⟨fun i H=>∃ xs x,SqL K H a xs/\i < n/\xs[n - 1 - i]? = some x,fun i H x H'=>H'=H/\∀ xs,SqL K H a xs->xs[n - 1 - i]? = some x,fun i H=>i=n⟩
theorem yr {P:Program}{w:World}{K:PySem.W.Frag}{tg:Expr}(a it:Addr)(n:Nat):zg P w K tg (ab5 K a n) [it] it (fun i h=>h.IsRevIter it a ((n:Int) - 1 - i)) where
 mem:=by simp
 obj:=fun i h st b hb=>by
  have e:b=it:=by simpa using hb
  subst e;obtain⟨o,e,c,d⟩:=st;exact⟨o,e,fun v z=>by rw [d] at z;cases z⟩
 keep:=fun i h h' st k=>st.at fun o e=>k it (by simp) o e
 item:=by
  intro X hP hw hK hc i pins s σ H E I hf st hg;subst hP hw hK;obtain⟨xs,x,hq,hi,hx⟩:=hg;obtain⟨its,rv,p,hz⟩:=I.list hq;obtain⟨u,hu,ru⟩:=rv.get hx;obtain⟨f0,f1,f2,f3,f4,f5⟩:=hf it (by simp);rw [show ((n:Int) - 1 - i)=((n - 1 - i:Nat):Int) by lia] at st;refine wpAny_pyNext_rev_item st p.isList (x:=u) (by simpa using hu) fun h' st' sb=>?_;have I1:Inv X pins σ H { s with heap:=h' }:=I.turned (t':=s.toks) (fun b o hb e=>(sb.2 b hb).trans e) f0 f1 f3 f4 f5;rw [show (((n - 1 - i:Nat):Int) - 1)=((n:Int) - 1 - ((i+1:Nat):Int)) by lia] at st';obtain⟨o,e,c,d⟩:=id st';exact⟨u,rfl,yc (s:={ s with heap:=h' }) e c d (by decide) ⟨x,H,I1,ru,⟨rfl,fun ys hy=>by rw [I.list_inj hy hq];exact hx⟩,st',fun b hb=>(hf b hb).1⟩⟩
 done:=by
  intro X hP hw hK hc i pins s σ H E I hf st hg;subst hP hw hK;have hg':i=n:=hg;subst hg';obtain⟨f0,f1,f2,f3,f4,f5⟩:=hf it (by simp);rw [show ((i:Int) - 1 - i)=-1 by lia] at st;exact wpAny_pyNext_rev_end (I.ok.hd hc) st fun h' eb=>⟨rfl,I.turned (t':=s.toks) (fun b o hb e=>eb b o hb e) f0 f1 f3 f4 f5⟩
 self:=fun _ _ _ _ _ st h=>wpAny_pyIter_revIter st h
def adq (K:PySem.W.Frag)(ta:TA):TI:=fun σ H R=>ta σ H fun vs H1=>∃ a xs,vs=[.ref a]/\SqL K H1 a xs/\R (ab5 K a xs.length) H1
theorem abb {X:Cx}{tg e1:Expr}{ta:TA}{p pos:Pos}(hg:Gl X "reversed")(hm:X.mg "reversed" = none)(ha:PA X [e1] ta)(hs:starEach [e1] X.env=(false,eval e1 X.env)::starEach [] X.env:=by rfl)(hpl:(backTo pos (starEach [] X.env)).any (·.1)=false:=by rfl):PI X tg (.Call (.Name "reversed" p) [e1] [] pos) (adq X.K ta):=by
 intro pins s σ H R I h;refine Call_ (kj I hg hm Boot.reversed (aeE (thn (ha pos pins s σ H _ I h) fun us s1 ⟨vs,H1,I1,r1,q1⟩=>?_) hs hpl));obtain⟨a,xs,e,hq,q⟩:=q1;subst e;obtain⟨u,rfl,ru⟩:=ja r1;cases ru;obtain⟨its,rv,p1,_⟩:=I1.list hq;refine call_reversed_list p1.isList ?_;refine wpAny_pyIter_revIter (it:=s1.heap.objs.size) ⟨_,adX _ rfl,rfl,rfl⟩ ?_;refine⟨s1.heap.objs.size,[s1.heap.objs.size],_,_,H1,rfl,I1.kept (t':=s1.toks) fun b o e=>adH _ e,yr a _ xs.length,⟨_,adX _ rfl,rfl,?_⟩,fun b hb=>?_,q⟩
 ·have:=rv.length;show Data.fields _=Data.fields _;congr 2;simp [this]
 ·have e:b=s1.heap.objs.size:=by simpa using hb
  subst e;exact I1.fpOk (adL _) (I1.hok.fresh (adL _))
theorem aaM {K:PySem.W.Frag}{a:Addr}{xs:List V}{g:TG}{tb:TS}{D:Ends}{σ:St}{H:Hp}(Pv:Nat->St->Hp->Prop)(h0:Pv 0 σ H)(hl:∀ i σ H,i<=xs.length->Pv i σ H->SqL K H a xs)
 (hs:∀ i x σ H,xs[xs.length - 1 - i]? = some x->i < xs.length->Pv i σ H->g x σ H fun σ2 H2=>tb { D with nx:=Pv (i+1),ct:=Pv (i+1),bk:=D.nx } σ2 H2)(hd:∀ σ H,Pv xs.length σ H->D.nx σ H) :
 ∃ W:Nat->Nat->St->Hp->Prop,(∃ m,W 0 m σ H)/\∀ i m σ H,W i m σ H →
  ((ab5 K a xs.length).stop i H/\D.nx σ H)\/((ab5 K a xs.length).go i H/\∃ N:St->Hp->Prop,(∀ σ' H',N σ' H'->∃ m',m' < m/\W (i+1) m' σ' H')/\∀ x H',(ab5 K a xs.length).yld i H x H'->g x σ H' fun σ2 H2=>tb { D with nx:=N,ct:=N,bk:=D.nx } σ2 H2):=by
 refine⟨fun i m σ H=>m=xs.length - i/\i<=xs.length/\Pv i σ H,⟨xs.length,by simp,ad7 _,h0⟩,?_⟩;rintro i m σ H ⟨rfl,hi,p⟩;have q:=hl i σ H hi p;by_cases hlt:i < xs.length
 ·refine .inr ⟨⟨xs,_,q,hlt,adD (by lia)⟩,Pv (i+1),fun σ' H' p'=>⟨xs.length - (i+1),by lia,rfl,hlt,p'⟩,fun x H' y=>?_⟩;obtain⟨e,y⟩:=y;subst e;exact hs i x σ _ (y xs q) hlt p
 ·have e:i=xs.length:=by lia
  subst e;exact .inl ⟨rfl,hd σ H p⟩
end L2
namespace L2
open PySem PySem.Spec PySem.Calls PyProof.Rows PySem.W
section
variable {prog:Program}{w:World}{A:Around}{E:Value->Shared->Prop}{s:Shared}{a:Addr}
end
section
variable {X:Cx}
end
end L2
namespace L2
open PySem PySem.Spec PyProof.Rows PySem.W
section
variable {X:Cx}
theorem qp {a:Addr}{o:Obj}{kvs:List (Key×V)}{g:TG}{tb:TS}{D:Ends}{σ:St}{H:Hp}(Pv:Nat->St->Hp->Prop)(h0:Pv 0 σ H)(hl:∀ i σ H,i<=kvs.length->Pv i σ H->H a=some (.frz o (.dK kvs)))
 (hs:∀ i k v σ H T,kvs[i]? = some (k,v)->Pv i σ H->H T=none->g (.ref T) σ (upd H T (.tup [kV k,v])) fun σ2 H2=>tb { D with nx:=Pv (i+1),ct:=Pv (i+1),bk:=D.nx } σ2 H2)(hd:∀ σ H,Pv kvs.length σ H->D.nx σ H) :
 ∃ W:Nat->Nat->St->Hp->Prop,(∃ m,W 0 m σ H)/\∀ i m σ H,W i m σ H →
  ((ItI a o kvs).stop i H/\D.nx σ H)\/((ItI a o kvs).go i H/\∃ N:St->Hp->Prop,(∀ σ' H',N σ' H'->∃ m',m' < m/\W (i+1) m' σ' H')/\∀ x H',(ItI a o kvs).yld i H x H'->g x σ H' fun σ2 H2=>tb { D with nx:=N,ct:=N,bk:=D.nx } σ2 H2):=by
 refine⟨fun i m σ H=>m=kvs.length - i/\i<=kvs.length/\Pv i σ H,⟨kvs.length,by simp,ad7 _,h0⟩,?_⟩;rintro i m σ H ⟨rfl,hi,p⟩;have q1:=hl i σ H hi p;by_cases hlt:i < kvs.length
 ·refine .inr ⟨⟨hlt,q1⟩,Pv (i+1),fun σ' H' p'=>⟨kvs.length - (i+1),by lia,rfl,hlt,p'⟩,fun x H' y=>?_⟩;obtain⟨T,k,v,ex,hT,eH,hu⟩:=y;subst ex eH;exact hs i k v σ H T hu p hT
 ·have e:i=kvs.length:=by lia
  subst e;exact .inl ⟨⟨rfl,q1⟩,hd σ H p⟩
theorem mj (hc:X.calm=true):gX X (.builtin "sum") (fun xs H Q=>∃ (p:Addr) (ns:List Int),xs=[.ref p]/\SqL X.K H p (ns.map V.int)/\Q (.int ns.sum) H):=by
 intro pins s σ H xs us Q I r h;obtain⟨p,ns,rfl,hq,q⟩:=h;obtain⟨u,rfl,rx⟩:=ja r;cases rx;obtain⟨its,rv,pl,hz⟩:=I.list hq;have hh:X.A.in1.handled=none:=I.ok.hd hc;have hlt:p < s.heap.objs.size:=by obtain⟨o,e,_⟩:=pl.isList;exact adQ e
 have hlen:=rv.length;rw [adG] at hlen;refine call_sum_walkG (agE pl.isList ?_);refine⟨s.heap.objs.size,_,_,_,_,_,fun i=>ns.getD i 0,rfl,Walks.list hh s.heap.objs.size p (ad2 hlt) its.toArray,⟨⟨_,adX _ rfl,rfl,rfl⟩,pl.isList.push _⟩,fun b hb=>?_,fun i v hv=>?_,fun h' tk t' hk=>?_⟩
 ·show b < (s.heap.push _).objs.size;rw [aex];rcases adO.mp hb with rfl | hb
  ·exact afu _
  ·rw [adT.mp hb];exact aeN hlt
 ·have hv':its[i]? = some v:=by simpa using hv
  have hi:i < its.length:=(adF.mp hv').1;have hb:ns[i]? = some (ns.getD i 0):=by
   rw [aeW];rw [adD (by lia)]
   rfl
  obtain⟨u,hu,ru⟩:=rv.get (i:=i) (x:=.int (ns.getD i 0)) (by rw [adK,hb];rfl);rw [hv'] at hu;cases hu;exact ru
 ·have e:preSum (fun i=>ns.getD i 0) its.toArray.size=ns.sum:=by
   have all:∀ (k:Nat) (l:List Int),k<=l.length->preSum (fun i=>l.getD i 0) k=(l.take k).sum:=fun k=>by
    induction k with
    | zero=>intro l _;simp [preSum]
    | succ k ih =>
     intro l hk;rw [preSum,ih l (by lia),aee,List.sum_append,aeW,adD (by lia)];simp
   rw [ad3,← hlen,all _ ns (adL _),aem]
  rw [e];refine⟨.int _,H,?_,⟨_,rfl⟩,q⟩;refine (I.kept (t':=s.toks) (h':=s.heap.push { cls:=.type "list_iterator",data:=.fields #[.ref p,.int 0 0] }) fun b o e=>adH _ e).turned (it:=s.heap.objs.size) (t':=tk) (h':=h') (fun b o hb e=>hk b o (by simpa using hb) e) I.fresh (af5 I.lt) (.inr I.sz) (fun x c e z=>?_) fun p' hp z=>?_
  ·obtain⟨v,q⟩:=I.cell x c e;exact absurd (z▸q.lt) (aez _)
  ·exact absurd (z▸adQ (I.pin p' hp).1) (aez _)
theorem nV {P:Program}{w:World}:∀ {acc:List Value} {kvs:List (Key×Value)},acc.length=kvs.length->(∀ (j:Nat) v,acc[j]? = some v->∃ k x,kvs[j]? = some (k,x)/\(aT P w).is k v=true)->Vals (kvs.map fun p=>kV p.1) acc
 | [],[],_,_=>.nil
 | _::_,[],h,_=>by simp at h
 | [],_::_,h,_=>by simp at h
 | v::acc,(k,x)::kvs,hl,hp=>by
  obtain⟨k',x',e,hk⟩:=hp 0 v rfl;cases e;exact .cons (oW hk) (nV (P:=P) (w:=w) (by simpa using hl) fun j u e=>hp (j+1) u e)
theorem mU (hc:X.calm=true):gX X (.type "list") (fun xs H Q=>∃ (a:Addr) (kvs:List (Key×V)),xs=[.ref a]/\H a=some (.dK kvs)/\kvs.length<=sizeLine/\∀ l:Addr,H l=none->Q (.ref l) (upd H l (.lst (kvs.map fun p=>kV p.1)))):=by
 intro pins s σ H xs us Q I r h;obtain⟨a,kvs,rfl,e,hl,q⟩:=h;obtain⟨u,rfl,rx⟩:=ja r;cases rx;obtain⟨z,hd,vs,rel,dd⟩:=uE I.hok e;obtain⟨ep,da⟩:=dd.dictAt;have kk:vs.map (·.1)=kvs.map (·.1):=rel.keys.symm;have kl:vs.length=kvs.length:=by simpa using aeu List.length kk
 refine kdl_call (kdl_dict (knd:=aT X.prog X.w) (kvs:=vs) (ep:=ep) hd) (I.ok.hd hc) da (by lia) fun h' tk acc c hk hS hacc=>?_;have hl0:acc.toList.length=vs.length:=by rw [aec];exact hacc.1
 have hS':=nV hl0 fun j v e=>hacc.2 j v (by rw [← afj];exact e);have ek:(vs.map fun p=>kV p.1)=kvs.map fun p=>kV p.1:=by
  have:=aeu (List.map kV) kk
  rwa [ael,ael] at this
 rw [ek] at hS';exact⟨.ref s.heap.objs.size,_,I.laid (t':=tk) (o:=.lst (kvs.map fun p=>kV p.1)) hk (adL _) ⟨by rw [adG];exact hl,acc.toList,c,hS',hS⟩,rfl,q _ (I.hok.fresh (adL _))⟩
end
end L2
namespace L2
open PySem PySem.Spec PyProof.Rows
section
variable {X:Cx}
theorem yC {i:Nat}{x:Str}{pos' spos:Pos}{kx vx tg iter:Expr}{ifs:List Expr}{scope:Scope}{pos:Pos}{N':List Str}{nl:Nat}{ix:List Nat}{wi:TI}{g:TG}{tf:TT}{tk tv:TE}(hN:X.N.Nodup)(hi':X.N[i]? = some x)(hx:Loc X.env.scope x)
 (hc:X.calm=true)(S:CompScope X scope)(Cp:yw X scope N' nl ix)(hi:PI X tg iter wi)
 (hg:∀ C fp s₀ H₀,PG (X.comp scope N' C fp s₀ H₀) tg g)(hf:∀ C fp s₀ H₀,PIf (X.comp scope N' C fp s₀ H₀) ifs tf)(hk:∀ C fp s₀ H₀,PE (X.comp scope N' C fp s₀ H₀) kx tk)(hv:∀ C fp s₀ H₀,PE (X.comp scope N' C fp s₀ H₀) vx tv)
 (hsw:swapsWith (.DictComp kx vx [⟨tg,iter,ifs,0⟩] scope pos) (some (.Name x pos')) spos.line X.env=pure true)
 (hs:∀ x,foldedSetIterable iter X.env x=pure x)(hfn:X.fn x=true\/X.env.scope.names.lookup x=some .local):PS X (.Assign [.Name x pos'] (.DictComp kx vx [⟨tg,iter,ifs,0⟩] scope pos) spos) (yg (wM nl ix wi g tf tk tv) (cw i)):=by
 intro pins s σ H D I h;rw [exec_Assign_Name_used _ _ _ _ hsw];refine adE (aeC (adE ?_));show wpAny _ X.A (do let _ ← comprehension (.DictComp kx vx [⟨tg,iter,ifs,0⟩] scope pos) scope X.env _ _ _ (eval iter X.env) (some (assign (.Name x pos') X.env))) _ _ s;refine adE (aed (ae5 (use:=some (assign (.Name x pos') X.env)) (cl:=i9 X.env scope.names []) (Q:=fun _ s'=>∃ σ' H',Inv X pins σ' H' s'/\D.nx σ' H') rfl hs (gh (S.cells I.ok)) S.kind S.loc ?_) (fun _ s' hq=>adJ (adJ hq)) fun _ _ e=>e);refine thn (hi pins s σ H _ I h) fun v s1 h1=>thn h1 fun itv s2 h2=>?_;obtain⟨it,fp,tn,J,H2,rfl,I2,T,st2,f2,h2⟩:=h2;obtain⟨W,⟨m0,w0⟩,turn⟩:=h2 s2.heap.objs.size I2.fresh;refine aeM (afK S.nocell (by intro y hy;simp at hy) (fun h₁ hns₁ hsb₁=>?_) S.kind);dsimp only at hns₁ hsb₁ ⊢;have fpo:∀ b∈fp,b < s2.heap.objs.size:=fun b hb=>by
  obtain⟨o,e,_⟩:=T.obj 0 _ st2 b hb;exact adQ e
 have I3:Inv X pins σ (upd H2 s2.heap.objs.size (.dK [])) { s2 with heap:=s2.heap.push { cls:=.type "dict",data:=.dict #[] },toks:=s2.toks }:=I2.laid (a:=s2.heap.objs.size) (o:=.dK []) (t':=s2.toks) (fun _ _ q=>adH _ q) (adL _) (o9 s2.heap I2.big);have hD:(upd H2 s2.heap.objs.size (.dK [])) s2.heap.objs.size=some (.dK []):=af;have f3:∀ b∈fp,jE X pins (upd H2 s2.heap.objs.size (.dK [])) b:=fun b hb=>by
  refine⟨?_,(f2 b hb).2⟩;rw [aj (ad2 (fpo b hb))];exact (f2 b hb).1
 generalize hS3:s2.heap.push { cls:=.type "dict",dict:=none,data:=.dict #[] }=g3 at hns₁ hsb₁ I3 ⊢;have sz3:g3.objs.size=s2.heap.objs.size+1:=by rw [← hS3,aex]
 have fpo3:∀ b∈fp,b < ({ s2 with heap:=g3,toks:=s2.toks }:Shared).heap.objs.size:=fun b hb=>by
  show b < g3.objs.size;rw [sz3];exact aeN (fpo b hb)
 have old:∀ b o,g3.get? b=some o->h₁.get? b=some o:=fun b o e=>hsb₁.extBut b o (ad2 (adQ e)) (adH _ e);have I4:=kW (tk:=s2.toks+([]:List (Str×Value)).length) S Cp I3 f3 fpo3 hns₁ old;generalize hX:X.comp scope N' g3.objs.size fp { s2 with heap:=g3,toks:=s2.toks } (upd H2 s2.heap.objs.size (.dK []))=X' at *;have hPr:X'.prog=X.prog:=by rw [← hX];rfl
 have hWr:X'.w=X.w:=by rw [← hX];rfl
 have hKr:X'.K=X.K:=by rw [← hX];rfl
 have hAr:X'.A=X.A:=by rw [← hX];rfl
 have hCa:X'.calm=true:=by rw [← hX];exact hc
 have hXe:X'.xe=fun _ _=>False:=by rw [← hX];rfl
 have hEx:X'.ex=fp:=by rw [← hX];rfl
 have hPn:X'.pn=[]:=by rw [← hX];rfl
 have hLo:X'.env.locals=g3.objs.size:=by rw [← hX];rfl
 have hEn:X'.env=compEnvC scope (i9 X.env scope.names []) g3.objs.size X.env:=by rw [← hX];rfl
 have hg':=hg g3.objs.size fp { s2 with heap:=g3,toks:=s2.toks } (upd H2 s2.heap.objs.size (.dK []));have hf':=hf g3.objs.size fp { s2 with heap:=g3,toks:=s2.toks } (upd H2 s2.heap.objs.size (.dK []));have hk':=hk g3.objs.size fp { s2 with heap:=g3,toks:=s2.toks } (upd H2 s2.heap.objs.size (.dK []));have hv':=hv g3.objs.size fp { s2 with heap:=g3,toks:=s2.toks } (upd H2 s2.heap.objs.size (.dK []));rw [hX] at hg' hf' hk' hv';have I4':Inv X' [] (cz nl ix σ) (upd H2 s2.heap.objs.size (.dK [])) { s2 with heap:=h₁,toks:=s2.toks+([]:List (Str×Value)).length }:=I4;have back:∀ {H':Hp} {σ':St} {pins':List (Addr×Obj)} {s':Shared} {h':Heap},Inv X' pins' σ' H' s'->Heap.SameBut g3.objs.size s'.heap h'->Inv X pins σ H' { s' with heap:=h' }:=fun I' sb=>by
  subst hX;exact jD I3 f3 I' sb
 have stat:∀ {H':Hp},(∀ b∈fp,H' b=none)->∀ b∈fp,jE X' [] H' b:=fun hn b hb=>by
  refine⟨hn b hb,?_,?_,.inl (by rw [hEx];exact hb),?_,fun p hp=>by rw [hPn] at hp;cases hp⟩
  ·rw [hLo];exact ad2 (fpo3 b hb)
  ·exact I4'.ok.exfs b (by rw [hEx];exact hb)
  ·exact (I4'.ok.exf b (by rw [hEx];exact hb)).2
 have loop:codeAny (model X.prog X.w) X.A (.compLoop (.DictComp kx vx [⟨tg,iter,ifs,0⟩] scope pos) 0 (.ref it) (.ref s2.heap.objs.size) X'.env)
  (compPost (model X.prog X.w) X.A X.xe (some (assign (.Name x pos') X.env)) (fun _ s'=>∃ σ' H',Inv X pins σ' H' s'/\D.nx σ' H') (.ref s2.heap.objs.size) g3.objs.size) { s2 with heap:=h₁,toks:=s2.toks+([]:List (Str×Value)).length }:=by
  rw [← hPr,← hWr,← hAr];refine uU (fun n s'=>∃ i ys H',Inv X' [] (cz nl ix σ) H' s'/\tn i s'.heap/\(∀ b∈fp,H' b=none)/\W i n ys H') ?_ m0
   ⟨0,[],_,I4',T.keep _ _ _ st2 (fun b hb o e=>old b o (by rw [← hS3];exact adH _ e)),fun b hb=>(f3 b hb).1,w0⟩
  rintro n s5 ⟨i,ys,H5,I5,st5,fr5,w5⟩;obtain⟨hD5,alt⟩:=turn i n ys H5 w5;rcases alt with ⟨stop,qn⟩ | ⟨go,step⟩
  ·rw [hPr,hWr];refine thn (T.done X' hPr hWr hKr hCa i [] s5 _ H5 _ I5 (stat fr5) st5 stop) fun r s6 ⟨hr,I6⟩=>?_;subst hr;obtain⟨m,hn,_⟩:=I6.loc;rw [hLo] at hn;have I7:Inv X pins σ H5 s6:=back I6 (agJ _ _);have nC:H5 g3.objs.size=none:=by
    have:=I6.free;rw [hLo] at this;exact this
   have fC:jE X pins H5 g3.objs.size:=I3.fpOk (adL _) nC;show wpAny _ _ (assign (.Name x pos') X.env (.ref s2.heap.objs.size)) _ _ _;refine agD (jB I7 hN hi' hx (v:=.ref s2.heap.objs.size) rfl (fun s8 I8 ⟨a8,sb8,ha8⟩=>?_) hfn);have nCa:g3.objs.size≠a8:=by
    rcases ha8 with z | z
    ·rw [z];exact fC.2.1
    ·exact fun q=>fC.2.2.2.2.1 x a8 z q.symm
   refine⟨m,hn.sameBut sb8 nCa,fun h' sb=>⟨_,H5,?_,qn⟩⟩;exact I8.turnedL (t':=s8.toks) (fp:=[g3.objs.size]) (fun b o hb e=>(sb.2 b (fun z=>hb (by rw [z];exact adT.mpr rfl))).trans e) (fun b hb=>by rw [adT.mp hb];exact fC)
  ·have it5:=T.item X' hPr hWr hKr hCa i [] s5 _ H5 (fun _ _=>False) I5 (stat fr5) st5 go;rw [← hPr,← hWr] at it5;refine thn it5 fun r s6 ⟨u,hr,h6⟩=>?_;subst hr;refine thn h6 fun _ s7 ⟨x,H7,I7,r7,y7,st7,fr7⟩=>?_;have I7':=I7.pinned (stat fr7) (T.obj _ _ st7);have g7:=hg' _ s7 _ H7 x u _ I7' r7 (step x H7 y7);rw [hXe] at g7;refine thn g7 fun _ s8 ⟨σ8,H8,I8,⟨hl8,hd8⟩,q8⟩=>?_;have f8:=hf' _ s8 σ8 H8 _ I8 q8;rw [hXe] at f8;refine thn f8 fun ok s9 ⟨H9,I9,q9⟩=>?_;have again:∀ {H10:Hp} {s10:Shared} {ys':List (Key×V)},Inv X' ([]++fz fp s7.heap) σ8 H10 s10->(∃ m',m' < n/\W (i+1) m' ys' H10)->∃ m,m < n/\∃ i ys H',Inv X' [] (cz nl ix σ) H' s10/\tn i s10.heap/\(∀ b∈fp,H' b=none)/\W i m ys H':=fun {H10 s10 ys'} I10 ⟨m',hm,w'⟩=>by
    refine⟨m',hm,i+1,ys',H10,gL I10.unpinned hl8 hd8,T.keep _ _ _ st7 fun b hb o e=>(I10.pin (b,o) (adP _ (adP _ (aR hb e)))).1,fun b hb=>?_,w'⟩;obtain⟨o,e,d⟩:=T.obj _ _ st7 b hb;exact (I10.pin (b,o) (adP _ (adP _ (aR hb e)))).2.1
   cases ok with
   | false =>
    rw [if_neg adM] at q9 ⊢;exact again I9 q9
   | true =>
    rw [if_pos rfl] at q9 ⊢;have e9:=hk' _ s9 σ8 H9 _ I9 q9;rw [hXe] at e9;refine thn e9 fun zv s10 ⟨z,H10,I10,r10,q10⟩=>?_;have e10:=hv' _ s10 σ8 H10 _ I10 q10;rw [hXe] at e10;refine thn e10 fun xv s11 ⟨y,H11,I11,r11,k,ez,hD11,hz,mw⟩=>?_;subst ez;obtain⟨z1,hd,vs,rel,dd⟩:=uE I11.hok hD11;refine wpAny_dictSet_pairs (u5 r10) dd (hsz:=by rw [← rel.length];exact z1) fun h' dd' hs=>?_;have heo:∃ q,h'.get? s2.heap.objs.size=some q:=let ⟨q,_,_,hq,_⟩:=dd';⟨q,hq⟩;have hl:(fJ ys k y).length<=sizeLine:=by have:=fi ys k y;lia
    exact again (lS I11 (by rw [hD11];exact True.intro) hs heo (ye hl hd (rel.put k r11) dd')) mw
 rw [hEn] at loop;exact codeAny_compStart_dict loop (T.self _ 0 _ _ _ (T.keep _ _ _ st2 (fun b hb o e=>old b o (by rw [← hS3];exact adH _ e))) loop)
theorem yP {i:Nat}{x:Str}{pos' spos:Pos}{kx vx tg iter:Expr}{ifs:List Expr}{outer scope:Scope}{pos:Pos}{N N':List Str}{nl:Nat}{ix:List Nat}{wi:TI}{g:TG}{tf:TT}{tk tv:TE}(hN:X.N.Nodup)(hi':X.N[i]? = some x)(hx:Loc X.env.scope x)
 (h1:X.env.scope=outer)(h2:X.N=N)(hc:X.calm=true)(hi:PI X tg iter wi)
 (hg:∀ C fp s₀ H₀,PG (X.comp scope N' C fp s₀ H₀) tg g)(hf:∀ C fp s₀ H₀,PIf (X.comp scope N' C fp s₀ H₀) ifs tf)(hk:∀ C fp s₀ H₀,PE (X.comp scope N' C fp s₀ H₀) kx tk)(hv:∀ C fp s₀ H₀,PE (X.comp scope N' C fp s₀ H₀) vx tv)
 (hsw:swapsWith (.DictComp kx vx [⟨tg,iter,ifs,0⟩] scope pos) (some (.Name x pos')) spos.line X.env=pure true:=by rfl)
 (hck:jf outer scope N N' nl ix=true:=by decide +kernel)(hs:∀ x,foldedSetIterable iter X.env x=pure x:=by intro _;rfl)(hfn:X.fn x=true\/X.env.scope.names.lookup x=some .local:=by first | exact .inl rfl | exact .inr rfl | assumption) :
 PS X (.Assign [.Name x pos'] (.DictComp kx vx [⟨tg,iter,ifs,0⟩] scope pos) spos) (yg (wM nl ix wi g tf tk tv) (cw i)) :=
 let ⟨S,Cp⟩:=iO h1 h2 hck
 yC hN hi' hx hc S Cp hi hg hf hk hv hsw hs hfn
end
end L2
namespace LL
end LL
namespace L2
open PySem PySem.Spec PyProof.Rows
section
variable {X:Cx}
end
section
variable {X:Cx}{K:PySem.W.Frag}
end
theorem tU {X:Cx}:OpR X (binaryOp .FloorDiv) (rI (fun _ j=>0 < j/\j<=10000000000000000000000000000000000000000) fun i j=>.int (i / j)):=opI fun i j _ _ _ _ _ hc q=>by
 have h1:(0:Int) < j:=hc.1;have h2:j<=10000000000000000000000000000000000000000:=hc.2;refine floordiv_int (by lia) (by rw [agt i (by lia)];exact q) (.inl (PyProof.noPylong_of_log2 ?_));have n1:j.natAbs≠0:=by lia
 have h3:j.natAbs < 2 ^ 140:=aeg (show j.natAbs<=10000000000000000000000000000000000000000 by lia) (by decide);have:=(Nat.log2_lt n1).mpr h3;lia
end L2
namespace L2
open PySem PySem.Spec PyProof.Rows PySem.W
section
variable {X:Cx}
theorem aaR {A₁:Around}(hA:X.A=A₁):OpR X (compareOp .Eq) (zP A₁ false):=by
 subst hA;exact vU
end
end L2
namespace L2
open PySem PySem.Spec PyProof.Rows
section
variable {X:Cx}
end
section
variable {prog:Program}{w:World}{A:Around}{E:Value->Shared->Prop}{h:Heap}{g:Array GenState}{d:Drawn}{t:Nat}{os:OsState}{nm q:Str}{C N:Addr}{bs bm bmB bmN:List Value}{hdct:Bool}{sn:List Str}{sub:List Value}{ab:Bool}{col:Option Bool}{dd:Option Addr}{k0 k1 k2 k3 k5:Option Value}{B Bn newId nid initId inN:String}{mN:Str->Option Value}{pG:List Value}{fI:Addr}{oI:Obj}
end
section
variable {prog:Program}{w:World}{A:Around}{E:Value->Shared->Prop}{s:Shared}{K:PySem.W.Frag}{e C:Addr}{oe:Obj}{nm q:Str}{N:Addr}{bs bm:List Value}{sn:List Str}{sub:List Value}{ab:Bool}{col:Option Bool}{dd:Option Addr}{k0 k1 k2 k3 k5:Option Value}{newId:String}{name:Str}{v:Value}
end
section
variable {X:Cx}{C f:Addr}{bm:List Value}
end
section
variable {X:Cx}{pins:List (Addr×Obj)}{σ:St}{H:Hp}{s:Shared}
end
section
variable {P:Program}{w:World}{K:PySem.W.Frag}{mg:Str->Option Value}{base:Heap}{N:List Str}{qual:Str}{scope:Scope}{f:Addr}{cd:Value}{A:Around}{outer:List Env}{s:Shared}{H:Hp}{E1:XK}
end
section
variable {X:Cx}{d:Addr}{kvs:List (Key×V)}
end
section
variable {X:Cx}
theorem mh {pos:Pos}:PE X (.List [] pos) (aci rZ):=cg ah
def zx:Expr->Bool
 | .Starred .. => false
 | _=>true
theorem sP (e:Expr)(es:List Expr)(env:Env)(h:zx e=true):starEach (e::es) env=(false,eval e env)::starEach es env:=by
 cases e<;>first | rfl | exact absurd h adM
theorem ck {e:Expr}{es:List Expr}{te:TE}{t:TA}(ha:PE X e te)(hr:PA X es t)(h:zx e=true):PA X (e::es) (iC te t):=ae ha hr (sP e es _ h)
theorem v5 {e k:Expr}{te tk:TE}{p2 pos:Pos}(he:PE X e te)(hk:PE X k tk)(hsb:∀ v i:Value,subscripted (.Slice none none (some k) p2) false v i=operate [v,i] (getItem v i):=by intro _ _;with_unfolding_all rfl):PE X (.Subscript e (.Slice none none (some k) p2) pos) (adv X.K te tk):=by
 intro pins s σ H Q I h;refine Subscript_ (thn (he pins s σ H _ I h) fun v s1 ⟨x,H1,I1,r1,q1⟩=>?_);refine wpAny_Slice ?_;rw [evalPart_none];refine adJ ?_;refine adJ ?_;refine thn (hk pins s1 σ H1 _ I1 q1) fun vk s3 ⟨y,H3,I3,r3,q3⟩=>?_;obtain⟨rfl,a,xs,rfl,hx,q⟩:=q3;obtain⟨tk,rfl⟩:=r3;cases r1;have I4:Inv X pins σ H3 { s3 with heap:=s3.heap.push { cls:=.type "slice",data:=.fields #[.none,.none,.int (-1) tk] } }:=I3.kept (t':=s3.toks) fun b ob q=>adH _ q;obtain⟨its,r,ht,hz⟩:=I4.list hx;have hlen:=r.length;refine tail_any (ops:=[.ref a,.ref s3.heap.objs.size]) ht.isList.typeIs agG.lookup ?_ (hsb _ _);refine wpAny_getItem_list_slice ht.isList (Heap.IsSliceOf.new ..) .none .none (.int (-1) tk) (by simp) ?_ (by rw [ad3]<;>lia);rw [PySem.W.krv_pick];refine⟨.ref _,_,I4.laid (t':=s3.toks) (o:=.lst xs.reverse) (fun b ob q=>adH _ q) (adL _) ?_,rfl,q _ (I4.hok.fresh (adL _))⟩;exact⟨by rw [aff];exact hz,_,0,by simpa using r.rev,adX _ rfl⟩
end
section
variable {M:Model}{A:Around}{E:Value->Shared->Prop}{s:Shared}{base:Heap}{env:Env}{outer:List Env}{L e:Addr}{oe:Obj}{vs:Array Value}
end
section
variable {P:Program}{w:World}{K:PySem.W.Frag}{mg:Str->Option Value}{base:Heap}{N:List Str}{qual:Str}{scope:Scope}{f:Addr}{cd:Value}{A:Around}{outer:List Env}{s:Shared}{H:Hp}{E0:XK}
end
section
variable {X:Cx}{C f:Addr}{bm:List Value}
end
section
variable {P:Program}{w:World}{K:PySem.W.Frag}{mg:Str->Option Value}{base:Heap}{N:List Str}{qual:Str}{scope:Scope}{f:Addr}{cd:Value}{A:Around}{outer:List Env}{s:Shared}{H:Hp}{E1:XK}
end
end L2
namespace K7
open PySem L2 PyProof.Rows
def top (i:Nat):Stmt:=PySem.Challenge.pw_keyrooms_k28_orders_counted_and_told.main.body.getD i (.Pass ⟨0,0,0,0⟩)
abbrev pV:Stmt:=top 12
abbrev mE:Stmt:=top 13
abbrev yf:Stmt:=top 14
abbrev aaT:Stmt:=top 15
abbrev me:Stmt:=top 16
abbrev acu:Stmt:=top 17
abbrev acH:Stmt:=top 46
abbrev iP:Stmt:=top 11
abbrev cU:Stmt:=top 20
abbrev gZ:Stmt:=top 21
abbrev i3:Stmt:=top 22
abbrev gz:Stmt:=top 23
abbrev iS:Stmt:=top 25
abbrev iA:Stmt:=top 27
abbrev iy:Stmt:=top 28
abbrev cZ:Stmt:=top 29
abbrev gK:Stmt:=top 30
abbrev cv:Stmt:=top 31
abbrev cJ:Stmt:=top 32
abbrev hV:Stmt:=top 34
abbrev hJ:Stmt:=top 35
abbrev eh:Stmt:=top 36
abbrev gp:Stmt:=top 37
abbrev gy:Stmt:=top 38
abbrev fm:Stmt:=top 39
abbrev dI:Stmt:=top 40
abbrev cW:Stmt:=top 41
abbrev dE:Stmt:=top 42
abbrev fV:Stmt:=top 43
abbrev cq:Stmt:=top 44
abbrev dG:Stmt:=top 45
abbrev ua:Stmt:=top 46
structure Cal (K:PySem.W.Frag)(mg:Str->Option Value)(x:Str)(ps:List Str)(f:Addr)(fd:FuncData):Prop where
 mg:mg x=some (.ref f)
 kp:keepIn K (.ref f)=true
 b:Binds K fd ps []
theorem pcl {X:Cx}{k:Nat}{f:Addr}{fd:FuncData}{ps:List Str}{sp:Sp}{x:Str}{e:Expr}{es:List Expr}{t:TA}{p pos:Pos}(F:FnOk X.prog X.w X.K X.mg X.base CX0 k f fd ps sp)(c:Cal X.K X.mg x ps f fd)(hr:Room k X.A)(hg:Gl X x)(ha:PA X (e::es) t)(hdb:(x == ("__debug__" : Str))=false:=by decide)(he:starEach (e::es) X.env=(false,eval e X.env)::starEach es X.env:=by rfl)(hpl:(backTo pos (starEach es X.env)).any (·.1)=false:=by rfl):PE X (.Call (.Name x p) (e::es) [] pos) (abx sp [] E0 t):=d9 F hr hg c.mg c.kp c.b .nil iT ha hdb he hpl
def But (p:Addr)(H H':Hp):Prop:=∀ b u,b≠p->H b=some u->H' b=some u
theorem But.refl (p:Addr)(H:Hp):But p H H:=fun _ _ _ e=>e
theorem But.trans {p:Addr}{H H1 H2:Hp}(a:But p H H1)(b:But p H1 H2):But p H H2:=fun c u n e=>b c u n (a c u n e)
theorem But.upd {p:Addr}{H:Hp}{o:HO}:But p H (upd H p o):=fun b u n e=>by rw [aj n];exact e
theorem But.new {p q:Addr}{H H1:Hp}{o:HO}(a:But p H H1)(n:H q=none):But p H (L2.upd H1 q o):=fun b u hb e=>by rw [aj (aq e n)];exact a b u hb e
def gj (e:Expr):Scope:=match e with
 | .ListComp _ _ s _=>s
 | .DictComp _ _ _ s _=>s
 | _=>{ kind:=.function,names:=[],isGenerator:=false,isCoroutine:=false }
def o5 (s:Stmt):Expr:=match s with
 | .Return (some e) _=>e
 | _=>.Name "" ⟨0,0,0,0⟩
def dW (z:Str):Prop:=1<=z.length/\z.length<=4/\∀ c∈z.cps.toList,97<=c/\c<=122
def zN:Sp:=fun vs H Q _=>∃ z:Str,vs=[.str z]/\dW z/\∀ H',Same H H'->Q (.bl true) H'
abbrev lettersS:Str := "abcdefghijklmnopqrstuvwxyz"
theorem ve (c:Nat)(h1:97<=c)(h2:c<=122):(!(Builtin.Str.occurrences lettersS ⟨#[c]⟩ 0 lettersS.length 1).isEmpty)=true:=by
 have all:∀ k:_root_.Fin 26,(!(Builtin.Str.occurrences lettersS ⟨#[97+k.val]⟩ 0 lettersS.length 1).isEmpty)=true:=by decide +kernel
 have e:=all ⟨c - 97,by lia⟩;have e2:97+(c - 97)=c:=by lia
 simp only [e2] at e;exact e
section
variable {P:Program}{w:World}{K:PySem.W.Frag}{mg:Str->Option Value}{base:Heap}
structure Glb (mg:Str->Option Value):Prop where
 isi:mg "isinstance" = none
 str:mg "str" = none
 len:mg "len" = none
 all:mg "all" = none
 letters:∃ t,mg "LETTERS" = some (.str lettersS t)
 most:∃ t,mg "MOST_LETTERS" = some (.int 4 t)
theorem ab8:aA ["thing"] ["thing"] (ai pV):=scM rfl rfl rfl rfl (by decide +kernel)
def pA (e:Expr):Expr:=match e with
 | .Call _ (a::_) _ _=>a
 | e=>e
abbrev yU:Expr:=pA (o5 ((bZ pV).getD 1 (.Pass ⟨0,0,0,0⟩)))
theorem aby:jf (ai pV) (gj yU) ["thing"] ["sign"] 1 []=true:=by decide +kernel
theorem nd2:(["sign"]:List Str).Nodup:=by decide +kernel
theorem aau {f:Addr}{fd:FuncData}(F:Fun K "is_kind" "is_kind" pV f fd)(G:Glb mg):FnOk P w K mg base CX0 1 f fd ["thing"] zN:=by
 obtain⟨tl,hL⟩:=G.letters;obtain⟨tm,hM⟩:=G.most;refine F.ok ab8 (fun vs H Q E h=>?_) (fun cdv A outer s H vs Q E hr h=>?_)
 ·obtain⟨z,rfl,_⟩:=h
  rfl
 ·obtain⟨z,rfl,⟨z1,z2,z3⟩,k⟩:=h;obtain⟨S,Cp⟩:=iO (X:=(pM CX0 P w K mg base ["thing"] "is_kind" (ai pV) f cdv A outer s H E).nox) (outer:=ai pV) (N:=["thing"]) rfl rfl aby;refine⟨_,ag (dN (PW.pt (lX (fu (fb (aw aO rfl G.isi (by decide +kernel) (ae (pv 0) (ae (dv (v:=.ty "str") (u:=.type "str") rfl G.str (by decide +kernel) rfl) ah)))))
   (jm (fu (tO xX xX ak (aw qw rfl G.len aep (ae (pv 0) ah)) (sd (v:=.int 4) rfl hM ⟨tm,rfl⟩))))))
   (ao (aH lO)) aS)
   (ao (aH (aw (kP rfl) rfl G.all (by decide +kernel) (ae (kO (tg:=.Name "sign" _) rfl S Cp (abT (pv 0))
    (fun _ _ _ _=>au (i:=0) nd2 rfl (.inl rfl) (.inr rfl)) (fun _ _ _ _=>dA)
    (fun _ _ _ _=>gW wU (pv 0) (sd (v:=.str lettersS) rfl hL ⟨tl,rfl⟩) (by with_unfolding_all rfl))) ah)))),?_⟩
  have zs:z.length<=sizeLine:=afb (gJ (by lia));refine⟨_,rfl,_,_,_,true,rfl,.str z,de K _,true,rfl,?_⟩;refine eP ?_;refine⟨_,rfl,z,rfl,zs,1,_,rfl,rfl,true,aeu V.bl (adY (by lia)),?_⟩;refine gI ?_;refine⟨_,4,rfl,rfl,true,aeu V.bl (adY (by lia)),?_⟩;refine eP ?_;dsimp only [yh,zK,tCB,iC,rZ];refine aQ _ _ _ _ _ _ _ _ _ ?_;refine⟨_,rfl,z,rfl,?_⟩;intro D hD;refine yq (fun i ys H2=>ys=(List.replicate i true).map V.bl/\H2 D=some (.lst ys)/\Same H H2) ⟨rfl,af,fun b u e=>by rw [aj (aq e hD)];exact e⟩ (fun i ys H2 ⟨_,h,_⟩=>h) ?_ ?_
  ·rintro i ys H2 c hc ⟨rfl,hD2,sm⟩;have hi:i < z.cps.size:=(afH.mp hc).1;have hz:z.length=z.cps.size:=rfl;have hm:c∈z.cps.toList:=by
    have:=Array.mem_of_getElem? hc;simpa using this
   refine fh rfl ?_;refine⟨_,rfl,_,_,rfl,rfl,hD2,by rw [adG,aey];exact gJ (by lia),nx hi ⟨?_,af,fun b u e=>?_⟩⟩
   ·rw [ve c (z3 c hm).1 (z3 c hm).2,agf,adW]
    rfl
   ·rw [aj (aq e hD)];exact sm b u e
  ·rintro ys H2 ⟨rfl,hD2,sm⟩;refine⟨D,List.replicate z.cps.size true,rfl,aAA hD2,?_⟩;have e:(List.replicate z.cps.size true).all id=true:=by simp
   rw [e];exact k H2 sm
def oX:Sp:=fun vs H Q _=>∃ (a:Addr) (ks:List Str),vs=[.ref a]/\H a=some (.lst (ks.map V.str))/\(∀ k∈ks,dW k)/\ks.length<=1000/\∀ H',Same H H'->Q (.bl true) H'
def uq (e:Expr):Expr:=match e with
 | .BoolOp _ es _=>es.getLastD e
 | e=>e
theorem aaA:aA ["thing"] ["thing"] (ai mE):=scM rfl rfl rfl rfl (by decide +kernel)
abbrev xi:Expr:=pA (uq (o5 ((bZ mE).getD 0 (.Pass ⟨0,0,0,0⟩))))
theorem aai:jf (ai mE) (gj xi) ["thing"] ["kind"] 1 []=true:=by decide +kernel
theorem nd3:(["kind"]:List Str).Nodup:=by decide +kernel
theorem zo {f fK:Addr}{fd fdK:FuncData}(F:Fun K "are_kinds" "are_kinds" mE f fd)(FK:Fun K "is_kind" "is_kind" pV fK fdK)(cK:Cal K mg "is_kind" ["thing"] fK fdK)(G:Glb mg)(mLi:mg "list" = none):FnOk P w K mg base CX0 2 f fd ["thing"] oX:=by
 have GK:FnOk P w K mg base CX0 1 fK fdK ["thing"] zN:=aau FK G;refine F.ok aaA (fun vs H Q E h=>?_) (fun cdv A outer s H vs Q E hr h=>?_)
 ·obtain⟨a,ks,rfl,_⟩:=h
  rfl
 ·obtain⟨a,ks,rfl,ha,hk,hl,k⟩:=h;obtain⟨S,Cp⟩:=iO (X:=(pM CX0 P w K mg base ["thing"] "are_kinds" (ai mE) f cdv A outer s H E).nox) (outer:=ai mE) (N:=["thing"]) rfl rfl aai;refine⟨_,ao (aH (jk (aw aO rfl G.isi (by decide +kernel) (ae (pv 0) (ae (dv (v:=.ty "list") (u:=.type "list") rfl mLi (by decide +kernel) rfl) ah)))
   (qj (aw (kP rfl) rfl G.all (by decide +kernel) (ae (kO (tg:=.Name "kind" _) rfl S Cp (aX (pv 0))
    (fun _ _ _ _=>au (i:=0) nd3 rfl (.inl rfl) (.inr rfl)) (fun _ _ _ _=>dA)
    (fun _ _ _ _=>d9 GK hr rfl cK.mg cK.kp cK.b .nil iT (ae (pv 0) ah))) ah))))),?_⟩
  refine⟨_,rfl,_,_,_,true,rfl,.lst ha,de K _,true,rfl,?_⟩;refine gI ?_;dsimp only [yh,zK,tCB,iC,rZ];refine aQ _ _ _ _ _ _ _ _ _ ?_;refine⟨_,rfl,a,rfl,⟨_,aAA ha⟩,?_⟩;intro D hD;refine di (xs:=ks.map V.str) (fun i ys H2=>ys=(List.replicate i true).map V.bl/\i<=1000/\H2 D=some (.lst ys)/\Same H H2) ⟨rfl,by decide,af,fun b u e=>by rw [aj (aq e hD)];exact e⟩ (fun i ys H2 ⟨_,_,h,_⟩=>h) (fun i ys H2 ⟨_,_,_,sm⟩=>aAA (sm a _ ha)) ?_ ?_
  ·rintro i ys H2 x hx ⟨rfl,hi0,hD2,sm⟩;have hi:i < (ks.map V.str).length:=(adF.mp hx).1;have hi':=hi;rw [adG] at hi';rw [adK,adD hi'] at hx;cases hx;refine fh rfl ?_;refine⟨_,rfl,ks[i],rfl,hk _ (aeo hi'),fun H3 sm3=>?_⟩;refine⟨sm3 D _ hD2,by rw [adG,aey];exact gJ (by lia),nx hi ⟨?_,by lia,af,fun b u e=>?_⟩⟩
   ·rw [agf,adW]
    rfl
   ·rw [aj (aq e hD)];exact sm3 b u (sm b u e)
  ·rintro ys H2 ⟨rfl,_,hD2,sm⟩;refine⟨D,List.replicate (ks.map V.str).length true,rfl,aAA hD2,?_⟩;have e:(List.replicate (ks.map V.str).length true).all id=true:=by simp
   rw [e];exact k H2 sm
def xk:Sp:=fun vs H Q _=>∃ (a:Addr) (ks:List Str),vs=[.ref a]/\H a=some (.lst (ks.map V.str))/\(∀ k∈ks,dW k)/\1<=ks.length/\ks.length<=4/\ks.Pairwise leS/\∀ H',Same H H'->Q (.bl true) H'
theorem iw {ks:List Str}(h:∀ k∈ks,dW k):PyData.canLayAll0 (ks.map PyData.str)=true:=by
 induction ks with
 | nil=>rfl
 | cons z r ih =>
  have hz:=h z adV;have hs:PyData.strOk z=true:=by
   unfold PyData.strOk;rw [← Array.all_toList,aes];intro c hc;exact adY (by have:=hz.2.2 c hc;lia)
  rw [adS];simp only [PyData.canLayAll0,PyData.canLay0,hs,afF];exact ih fun k hk=>h k (adN _ hk)
theorem kX:∀ ks:List Str,PyData.eqvAll (ks.map PyData.str) (ks.map PyData.str)=true
 | []=>rfl
 | z::r=>by
  rw [adS];simp only [PyData.eqvAll,PyData.eqv,afi,afF];exact kX r
theorem ig:∀ ks:List Str,PyData.depthAll (ks.map PyData.str)=0
 | []=>rfl
 | z::r=>by
  rw [adS];simp only [PyData.depthAll,PyData.depth,ig r]
  rfl
theorem aaq:aA ["thing"] ["thing"] (ai yf):=scM rfl rfl rfl rfl (by decide +kernel)
theorem zi {f fK:Addr}{fd fdK:FuncData}(F:Fun K "are_locks" "are_locks" yf f fd)(GK:FnOk P w K mg base CX0 2 fK fdK ["thing"] oX)(cK:Cal K mg "are_kinds" ["thing"] fK fdK)(mLe:mg "len" = none)(mSo:mg "sorted" = none)(hM:∃ t,mg "MOST_LOCKS" = some (.int 4 t)) :
 FnOk P w K mg base CX0 3 f fd ["thing"] xk:=by
 obtain⟨tm,hM⟩:=hM;refine F.ok aaq (fun vs H Q E h=>?_) (fun cdv A outer s H vs Q E hr h=>?_)
 ·obtain⟨a,ks,rfl,_⟩:=h
  rfl
 ·obtain⟨a,ks,rfl,ha,hk,h1,h4,hs,k⟩:=h;have hu:=dO hr;refine⟨_,ao (aH (jk (d9 GK hr rfl cK.mg cK.kp cK.b .nil iT (ae (pv 0) ah))
   (jk (yx xX xX ak (aw aB rfl mLe aep (ae (pv 0) ah)) (sd (v:=.int 4) rfl hM ⟨tm,rfl⟩))
   (qj (gW vU (pv 0) (aw mD rfl mSo boot_sorted (ae (pv 0) ah)) (bo _)))))),?_⟩
  refine⟨_,rfl,a,ks,rfl,ha,hk,by lia,fun H1 s1=>⟨true,rfl,?_⟩⟩;refine gI ?_;have ha1:=s1 a _ ha;refine⟨_,rfl,a,_,rfl,.inl (aAA ha1),1,_,rfl,rfl,true,aeu V.bl (adY (by rw [adG];lia)),?_⟩;refine gI ?_;refine⟨_,4,rfl,rfl,true,aeu V.bl (adY (by rw [adG];lia)),?_⟩;refine gI ?_;refine⟨_,rfl,_,rfl,a,ks,rfl,aAA ha1,by lia,fun l ss hl hp hs'=>?_⟩;have e:ss=ks:=ni (gF hs') hs hp;subst e;have ne:a≠l:=aq ha1 hl;refine⟨.list (ss.map PyData.str),.list (ss.map PyData.str),.lst (by rw [aj ne];exact ha1) (SeesAll.strs ss),.lst af (SeesAll.strs ss),iw hk,iw hk,?_,?_⟩
  ·show _+min (PyData.depthAll (ss.map PyData.str)+1) (PyData.depthAll (ss.map PyData.str)+1) < cLine;rw [ig];exact hu
  ·have ee:PyData.eqv (.list (ss.map PyData.str)) (.list (ss.map PyData.str))=true:=kX ss;rw [ee];exact k _ fun b u e=>by rw [aj (aq (s1 b u e) hl)];exact s1 b u e
abbrev Rm:=List Str×List Str
structure zr (r:Rm):Prop where
 lk:∀ k∈r.1,dW k
 l1:1<=r.1.length
 l4:r.1.length<=4
 so:r.1.Pairwise leS
 kk:∀ k∈r.2,dW k
 kl:r.2.length<=1000
def RoomAt (H:Hp)(v:V)(r:Rm):Prop:=∃ t a b:Addr,v=.ref t/\H t=some (.tup [.ref a,.ref b])/\H a=some (.lst (r.1.map V.str))/\H b=some (.lst (r.2.map V.str))
theorem RoomAt.same {H H':Hp}{v:V}{r:Rm}(s:Same H H')(h:RoomAt H v r):RoomAt H' v r:=by
 obtain⟨t,a,b,e,h1,h2,h3⟩:=h;exact⟨t,a,b,e,s _ _ h1,s _ _ h2,s _ _ h3⟩
def zA:Sp:=fun vs H Q _=>∃ (v:V) (r:Rm),vs=[v]/\RoomAt H v r/\zr r/\∀ H',Same H H'->Q (.bl true) H'
theorem abo:aA ["thing"] ["thing"] (ai aaT):=scM rfl rfl rfl rfl (by decide +kernel)
theorem aal {f fL fK:Addr}{fd fdL fdK:FuncData}(F:Fun K "is_room" "is_room" aaT f fd)(GL:FnOk P w K mg base CX0 3 fL fdL ["thing"] xk)(cL:Cal K mg "are_locks" ["thing"] fL fdL)
 (GK:FnOk P w K mg base CX0 2 fK fdK ["thing"] oX)(cK:Cal K mg "are_kinds" ["thing"] fK fdK)(mI:mg "isinstance" = none)(mLe:mg "len" = none)(mTu:mg "tuple" = none):FnOk P w K mg base CX0 4 f fd ["thing"] zA:=by
 refine F.ok abo (fun vs H Q E h=>?_) (fun cdv A outer s H vs Q E hr h=>?_)
 ·obtain⟨v,r,rfl,_⟩:=h
  rfl
 ·obtain⟨v,r,rfl,⟨t,a,b,rfl,ht,ha,hb⟩,ok,k⟩:=h;refine⟨_,ao (aH (jk (aw aO rfl mI (by decide +kernel) (ae (pv 0) (ae (dv (v:=.ty "tuple") (u:=.type "tuple") rfl mTu (by decide +kernel) rfl) ah)))
   (jk (gW vg (aw aB rfl mLe aep (ae (pv 0) ah)) ak (bo _))
   (jk (d9 GL hr rfl cL.mg cL.kp cL.b .nil iT (ae (bW eY (pv 0) ak (fun _ _=>rfl)) ah))
   (qj (d9 GK (hr.mono (by decide)) rfl cK.mg cK.kp cK.b .nil iT (ae (bW eY (pv 0) ak (fun _ _=>rfl)) ah))))))),?_⟩
  refine⟨_,rfl,_,_,_,true,rfl,.tup ht,de K _,true,rfl,?_⟩;refine gI ?_;refine⟨_,rfl,t,_,rfl,.inr (aAB ht),rfl,true,rfl,?_⟩;refine gI ?_;refine⟨_,rfl,t,_,0,.ref a,rfl,rfl,aAB ht,rfl,a,r.1,rfl,ha,ok.lk,ok.l1,ok.l4,ok.so,fun H1 s1=>⟨true,rfl,?_⟩⟩;refine gI ?_;refine⟨_,rfl,t,_,1,.ref b,rfl,rfl,aAB (s1 _ _ ht),rfl,b,r.2,rfl,s1 _ _ hb,ok.kk,ok.kl,fun H2 s2=>?_⟩;exact k H2 (s1.trans s2)
abbrev Hs:=List Str×List Rm
def RoomsAt (H:Hp)(vs:List V)(rs:List Rm):Prop:=vs.length=rs.length/\∀ (i:Nat) (v:V) (r:Rm),vs[i]? = some v->rs[i]? = some r->RoomAt H v r
theorem RoomsAt.same {H H':Hp}{vs:List V}{rs:List Rm}(s:Same H H')(h:RoomsAt H vs rs):RoomsAt H' vs rs:=⟨h.1,fun i v r a b=>(h.2 i v r a b).same s⟩
def HouseAt (H:Hp)(v:V)(h:Hs):Prop:=∃ (t a r:Addr) (vs:List V),v=.ref t/\H t=some (.tup [.ref a,.ref r])/\H a=some (.lst (h.1.map V.str))/\H r=some (.lst vs)/\RoomsAt H vs h.2
theorem HouseAt.same {H H':Hp}{v:V}{h:Hs}(s:Same H H')(x:HouseAt H v h):HouseAt H' v h:=by
 obtain⟨t,a,r,vs,e,h1,h2,h3,h4⟩:=x;exact⟨t,a,r,vs,e,s _ _ h1,s _ _ h2,s _ _ h3,h4.same s⟩
structure cB (h:Hs):Prop where
 kk:∀ k∈h.1,dW k
 kl:h.1.length<=1000
 rs:∀ r∈h.2,zr r
 rl:h.2.length<=1000
def wW:Sp:=fun vs H Q _=>∃ (v:V) (h:Hs),vs=[v]/\HouseAt H v h/\cB h/\∀ H',Same H H'->Q (.bl true) H'
def ab3:Sp:=fun vs H Q _=>∃ (v:V) (h:Hs),vs=[v]/\HouseAt H v h/\cB h/\∀ H',Same H H'->Q .non H'
theorem scHouse:aA ["thing","keys","rooms"] ["thing"] (ai me):=scM rfl rfl rfl rfl (by decide +kernel)
abbrev v3:Expr:=pA (uq (o5 ((bZ me).getD 2 (.Pass ⟨0,0,0,0⟩))))
theorem aaB:jf (ai me) (gj v3) ["thing","keys","rooms"] ["room"] 1 []=true:=by decide +kernel
theorem nd4:(["room"]:List Str).Nodup:=by decide +kernel
theorem zm {f fR fK:Addr}{fd fdR fdK:FuncData}(F:Fun K "is_house" "is_house" me f fd)(GR:FnOk P w K mg base CX0 4 fR fdR ["thing"] zA)(cR:Cal K mg "is_room" ["thing"] fR fdR)
 (GK:FnOk P w K mg base CX0 2 fK fdK ["thing"] oX)(cK:Cal K mg "are_kinds" ["thing"] fK fdK)(mI:mg "isinstance" = none)(mLe:mg "len" = none)(mTu:mg "tuple" = none)(mLi:mg "list" = none)(mAl:mg "all" = none):FnOk P w K mg base CX0 5 f fd ["thing"] wW:=by
 refine F.ok scHouse (fun vs H Q E h=>?_) (fun cdv A outer s H vs Q E hr h=>?_)
 ·obtain⟨v,r,rfl,_⟩:=h
  rfl
 ·obtain⟨v,hs,rfl,⟨t,a,r,vs,rfl,ht,ha,hr',hR⟩,ok,k⟩:=h;obtain⟨S,Cp⟩:=iO (X:=(pM CX0 P w K mg base ["thing","keys","rooms"] "is_house" (ai me) f cdv A outer s H E).nox) (outer:=ai me) (N:=["thing","keys","rooms"]) rfl rfl aaB;refine⟨_,ag (dN (PW.pt (lX (fu (fb (aw aO rfl mI (by decide +kernel) (ae (pv 0) (ae (dv (v:=.ty "tuple") (u:=.type "tuple") rfl mTu (by decide +kernel) rfl) ah)))))
   (jm (aJ rR (aw aB rfl mLe aep (ae (pv 0) ah)) ak (bo _)))))
   (ao (aH lO)) aS)
   (ag (nz (pv 0) (kh rfl (aF (au (i:=1) scHouse.nd rfl (.inl rfl)) (aF (au (i:=2) scHouse.nd rfl (.inl rfl)) c6))))
   (ao (aH (jk (d9 GK (hr.mono (by decide)) rfl cK.mg cK.kp cK.b .nil iT (ae (pv 1) ah))
    (jk (aw aO rfl mI (by decide +kernel) (ae (pv 2) (ae (dv (v:=.ty "list") (u:=.type "list") rfl mLi (by decide +kernel) rfl) ah)))
    (qj (aw (kP rfl) rfl mAl (by decide +kernel) (ae (kO (tg:=.Name "room" _) rfl S Cp (aX (pv 2))
     (fun _ _ _ _=>au (i:=0) nd4 rfl (.inl rfl) (.inr rfl)) (fun _ _ _ _=>dA)
     (fun _ _ _ _=>d9 GR hr rfl cR.mg cR.kp cR.b .nil iT (ae (pv 0) ah))) ah)))))))),?_⟩
  refine⟨_,rfl,_,_,_,true,rfl,.tup ht,de K _,true,rfl,?_⟩;refine eP ?_;refine⟨_,rfl,t,_,rfl,.inr (aAB ht),rfl,false,rfl,?_⟩;refine eP ?_;refine⟨_,rfl,t,_,rfl,aAB ht,rfl,_,_,rfl,_,_,rfl,rfl,?_⟩;refine⟨_,rfl,a,hs.1,rfl,ha,ok.kk,ok.kl,fun H1 s1=>⟨true,rfl,?_⟩⟩;refine gI ?_;refine⟨_,rfl,_,_,_,true,rfl,.lst (s1 _ _ hr'),de K _,true,rfl,?_⟩;refine gI ?_;dsimp only [yh,zK,tCB,iC,rZ];refine aQ _ _ _ _ _ _ _ _ _ ?_;refine⟨_,rfl,r,rfl,⟨_,aAA (s1 _ _ hr')⟩,?_⟩;intro D hD;have hl:vs.length<=1000:=by rw [hR.1];exact ok.rl
  refine di (xs:=vs) (fun i ys H2=>ys=(List.replicate i true).map V.bl/\i<=1000/\H2 D=some (.lst ys)/\Same H1 H2) ⟨rfl,by decide,af,fun b u e=>by rw [aj (aq e hD)];exact e⟩ (fun i ys H2 ⟨_,_,h,_⟩=>h) (fun i ys H2 ⟨_,_,_,sm⟩=>aAA (sm r _ (s1 _ _ hr'))) ?_ ?_
  ·rintro i ys H2 x hx ⟨rfl,hi0,hD2,sm⟩;have hi:i < vs.length:=(adF.mp hx).1;have hi':i < hs.2.length:=by rw [← hR.1];exact hi
   refine fh rfl ?_;refine⟨_,rfl,x,hs.2[i],rfl,((hR.2 i x _ hx (adD hi')).same s1).same sm,ok.rs _ (aeo hi'),fun H3 sm3=>?_⟩;refine⟨sm3 D _ hD2,by rw [adG,aey];exact gJ (by lia),nx hi ⟨?_,by lia,af,fun b u e=>?_⟩⟩
   ·rw [agf,adW]
    rfl
   ·rw [aj (aq e hD)];exact sm3 b u (sm b u e)
  ·rintro ys H2 ⟨rfl,_,hD2,sm⟩;refine⟨D,List.replicate vs.length true,rfl,aAA hD2,?_⟩;have e:(List.replicate vs.length true).all id=true:=by simp
   rw [e];exact k H2 (s1.trans sm)
theorem acW:aA ["thing"] ["thing"] (ai acu):=scM rfl rfl rfl rfl (by decide +kernel)
theorem abX {f fH:Addr}{fd fdH:FuncData}(F:Fun K "require_house" "require_house" acu f fd)(GH:FnOk P w K mg base CX0 5 fH fdH ["thing"] wW)(cH:Cal K mg "is_house" ["thing"] fH fdH):FnOk P w K mg base CX0 6 f fd ["thing"] ab3:=by
 refine F.ok acW (fun vs H Q E h=>?_) (fun cdv A outer s H vs Q E hr h=>?_)
 ·obtain⟨v,r,rfl,_⟩:=h
  rfl
 ·obtain⟨v,hs,rfl,hh,ok,k⟩:=h;refine⟨_,ao (dN (fu (fb (d9 GH hr rfl cH.mg cH.kp cH.b .nil iT (ae (pv 0) ah)))) qy aS),?_⟩;refine⟨_,rfl,v,hs,rfl,hh,ok,fun H1 s1=>⟨true,rfl,?_⟩⟩;refine eP ?_;exact k H1 s1
end
end K7
namespace L2
open PySem PySem.Spec PyProof.Rows
section
variable {X:Cx}{o e:Expr}{es:List Expr}{to:TE}{t:TA}{name:Str}{apos cpos:Pos}{T id:String}{r:V->List V->Hp->VK->Prop}{K:PySem.W.Frag}
theorem nj (hK:X.K=K)(pa:PlainAttrs T)(slot:Slot T name id)(hty:typeOf (.builtin id)=pure (.type "method_descriptor"))(hm:MtR X id r)(ho:PE X o to)(ha:PA X (e::es) t)
 (hbase:attributeBase o name X.env (eval o X.env)=eval o X.env:=by rfl)
 (hfew:((backTo cpos (starEach (e::es) X.env)).all (fun x=>!x.1) && (backToKw cpos (keywordEach [] X.env)).all (fun x=>x.1.isSome)
  && decide ((e::es).length+([]:List Keyword).length+(if ([]:List Keyword).isEmpty then 0 else 1) < 30))=true:=by rfl)
 (hline:(apos.endLine == cpos.line)=true:=by rfl)(hs:starEach (e::es) X.env=(false,eval e X.env)::starEach es X.env:=by rfl)(hplain:(backTo cpos (starEach es X.env)).any (·.1)=false:=by rfl) :
 PE X (.Call (.Attribute o name apos) (e::es) [] cpos) (tBM K T r to t):=by
 subst hK;exact pq pa slot hty hm ho ha hbase hfew hline hs hplain
end
end L2
namespace K7
open PySem L2 PyProof.Rows
theorem gE {α:Type}[DecidableEq α]:∀ {l U:List α},l.Nodup->(∀ x∈l,x∈U)->l.length<=U.length
 | [],U,_,_=>ad7 _
 | a::r,U,hn,h=>by
  rw [aeK] at hn;have ha:=h a adV;have ih:=gE (U:=U.erase a) hn.2 fun x hx=>by
   have ne:x≠a:=fun z=>hn.1 (z▸hx);exact (List.mem_erase_of_ne ne).mpr (h x (adN _ hx))
  have hl:=agL ha;have hp:0 < U.length:=List.length_pos_of_mem ha;rw [aef];lia
end K7
namespace L2
open PySem PySem.Spec PyProof.Rows
theorem ku (K:PySem.W.Frag):kitOne K (.type "int") (.type "bool")=some false:=by
 first
  | rfl
  | (with_unfolding_all rfl)
end L2
namespace K7
open PySem L2 PyProof.Rows
end K7
namespace L2
open PySem PySem.Spec PyProof.Rows
section
variable {X:Cx}
end
end L2
namespace L2
open PySem PySem.Spec PySem.Calls PyProof.Rows PySem.W
section
variable {prog:Program}{w:World}{A:Around}{E:Value->Shared->Prop}{s:Shared}{it d:Addr}{i ep:Nat}{es:Array DictEntry}
end
section
variable {prog:Program}{w:World}
end
section
variable {prog:Program}{w:World}{A:Around}{E:Value->Shared->Prop}
end
section
variable {prog:Program}{w:World}{A:Around}{E:Value->Shared->Prop}{s:Shared}
end
section
variable {X:Cx}{e:Expr}{te:TE}{p pos lp cp kp1 kp2:Pos}{j:Option Str}
end
section
variable {X:Cx}{k v:Expr}{tk tv:TE}{pos:Pos}
end
section
variable {prog:Program}{w:World}{A:Around}{E:Value->Shared->Prop}{s:Shared}
end
section
variable {X:Cx}{K:PySem.W.Frag}
end
end L2
namespace L2
open PySem PySem.Spec PyProof.Rows
def abP (tk tv:TE):TE:=fun σ H Q=>∀ p,H p=none->tk σ (upd H p (.dK [])) fun x H1=>tv σ H1 fun y H2=>∃ k:Key,x=kV k/\H2 p=some (.dK [])/\Q (.ref p) (upd H2 p (.dK [(k,y)]))
section
variable {X:Cx}{k v:Expr}{tk tv:TE}{pos:Pos}
theorem zd (hk:PE X k tk)(hv:PE X v tv):PE X (.Dict [some k] [v] pos) (abP tk tv):=by
 intro pins s σ H Q I h;have hn:=I.hok.fresh (adL s.heap.objs.size);have I1:=I.laid (a:=s.heap.objs.size) (o:=.dK []) (h':=s.heap.push { cls:=.type "dict",data:=.dict #[] }) (t':=s.toks) (fun _ _ q=>adH _ q) (adL _) (o9 s.heap I.big);rw [arm_eval_Dict,zip_pairTrees [some k] [v] X.env pos rfl rfl,dictDisplay_pairs _ (by intro z;have:=agZ [some k] [v] X.env pos rfl rfl;rw [z] at this;cases this) (by rw [agZ [some k] [v] X.env pos rfl rfl];show 1 < 17;decide)];refine adE (aeC (adE ?_));unfold subDict;refine adE (wpAny_alloc (adE (aeQ ?_)));rw [if_pos (by rw [agZ [some k] [v] X.env pos rfl rfl];show 1<=15;decide)];refine adE (thn ((yE hk hv (aaf (X:=X))) pins _ σ _ (fun ps H2=>match ps with | [(x,y)]=>∃ k:Key,x=kV k/\H2 s.heap.objs.size=some (.dK [])/\Q (.ref s.heap.objs.size) (upd H2 s.heap.objs.size (.dK [(k,y)])) | _=>False) I1 (h _ hn)) fun ws s2 ⟨ps,H2,I2,rel,hq⟩=>?_);rcases rel with _ | ⟨⟨r1,r2⟩,_ | _⟩
 ·exact hq.elim
 rotate_left
 ·exact hq.elim
 rename_i pv pr _;obtain⟨x,y⟩:=pv;obtain⟨u1,u2⟩:=pr;obtain⟨ke,ex,e,q⟩:=hq;cases (show x=kV ke from ex);refine aeQ (adE ?_);rw [agm];obtain⟨z,hd,xs,rl,dd⟩:=uE I2.hok e;refine adE (adE (wpAny_dictSet_pairs (u5 r1) dd (hsz:=by rw [← rl.length];exact z) fun h' dd' hs=>?_));refine adJ ?_;dsimp only;rw [List.forIn_nil];have heo:∃ q,h'.get? s.heap.objs.size=some q:=let ⟨q,_,_,hq,_⟩:=dd';⟨q,hq⟩;refine adJ (adJ (adJ (adJ ⟨.ref s.heap.objs.size,_,?_,rfl,q⟩)));exact lS I2 (by rw [e];exact True.intro) hs heo (ye (by show 1<=sizeLine;decide) hd (rl.put ke r2) dd')
end
section
variable {prog:Program}{w:World}{A:Around}{R:Result->Shared->Prop}{s:Shared}
end
section
variable {X:Cx}
end
section
variable {prog:Program}{w:World}{A:Around}{E:Value->Shared->Prop}{R:Result->Shared->Prop}{s:Shared}
theorem sJ {ex target iter ifs pG scope pos it acc env}
 (h0:codeAny (model prog w) A (.compLoop (.SetComp ex (⟨target,iter,ifs,0⟩::pG) scope pos) 0 it acc env) R s)
 (h:wpAny (model prog w) A (pyIter it) (fun it' s'=>codeAny (model prog w) A (.compLoop (.SetComp ex (⟨target,iter,ifs,0⟩::pG) scope pos) 0 it' acc env) R s')
  (notedBy (model prog w) A env fun x s'=>R (.error x) s') s) :
 codeAny (model prog w) A (.compStart (.SetComp ex (⟨target,iter,ifs,0⟩::pG) scope pos) 0 it acc env) R s:=by
 refine codeAny_of_tree ?_;show wpAny _ A ((compStart (.SetComp ex (⟨target,iter,ifs,0⟩::pG) scope pos) 0 it acc env).onRaise (fun x=>do noteFrame x env;standAt theWindowsPlace)) _ _ s;refine wpAny_notedAt ?_;unfold compStart;show wpAny _ A (ask >>= _) _ _ s;refine adE (afM (wpAny_ite ?_));split
 ·first
   | exact adE (adJ (adJ (And.intro rfl h0)))
   | exact adJ (And.intro rfl h0)
 ·first
   | exact adE (afO (adE (aeC (adE (aed h (fun it' s' h'=>adJ (And.intro rfl h')) fun _ _ x=>x)))))
   | (refine adE (afO ?_);show wpAny _ _ (standAt iter.pos >>= _) _ _ s;exact adE (aeC (adE (aed h (fun it' s' h'=>adJ (And.intro rfl h')) fun _ _ x=>x))))
theorem aaw {Q:Value->Shared->Prop}(h:Q (.ref s.heap.objs.size) { s with heap:=s.heap.push { cls:=.type "set",dict:=none,data:=.set #[] 0 (.fresh 0 0 (!w.params.followText "set-order")) } }) :
 wpAny (model prog w) A (newSet (.type "set")) Q E s:=by
 unfold newSet setsByText;refine adE (adE (afM (adJ ?_)));dsimp only;simp only [newObj];exact adE (wpAny_alloc (adJ h))
end
section
variable {X:Cx}
end
section
variable {P:Program}{w:World}{nl:Nat}{ix:List Nat}{g:TG}{tf:TT}{tk:TE}{σ:St}{H1:Hp}{D:Addr}{Q:VK}(Pv:Nat->List Str->Hp->Prop)
end
section
variable {X:Cx}{P:Program}{w:World}{outer scope:Scope}{N N':List Str}{nl:Nat}{ix:List Nat}{tg iter:Expr}{ifs:List Expr}{pos:Pos}{wi:TI}{g:TG}{tf:TT}
end
abbrev sc2 (ex t1 i1 t2 i2:Expr)(scope:Scope)(pos:Pos):Expr:=.SetComp ex [⟨t1,i1,[],0⟩,⟨t2,i2,[],0⟩] scope pos
theorem mO (kx t1 i1 t2 i2:Expr)(scope:Scope)(pos:Pos)(it:Value)(D:Addr)(env:Env) :
 compTurn (sc2 kx t1 i1 t2 i2 scope pos) 0 it (.ref D) env=(do
  standAt i1.pos
  match ← pyNext it with
  | none=>pure (.done .next)
  | some v =>
   letOwnedTupleGo t1 it v
   assign t1 env v
   let mut ok:=true
   for c in ([]:List Expr) do
    if ok then ok ← isTrue c env (eval c env)
   if ok then
    let x ← eval i2 env
    standAt i2.pos
    let x ← foldedSetIterable i2 env x
    let _ ← runOwn (.compStart (sc2 kx t1 i1 t2 i2 scope pos) 1 (← holding [x] (pyIter x)) (.ref D) env) env
   again (.compLoop (sc2 kx t1 i1 t2 i2 scope pos) 0 it (.ref D) env)):=by rfl
theorem ng (kx t1 i1 t2 i2:Expr)(scope:Scope)(pos:Pos)(it:Value)(D:Addr)(env:Env) :
 compTurn (sc2 kx t1 i1 t2 i2 scope pos) 1 it (.ref D) env=(do
  standAt i2.pos
  match ← pyNext it with
  | none=>pure (.done .next)
  | some v =>
   letOwnedTupleGo t2 it v
   assign t2 env v
   let mut ok:=true
   for c in ([]:List Expr) do
    if ok then ok ← isTrue c env (eval c env)
   if ok then
    (do
     let v ← eval kx env
     standAt kx.pos
     let _ ← call (.builtin "set.add") [.ref D,v])
   again (.compLoop (sc2 kx t1 i1 t2 i2 scope pos) 1 it (.ref D) env)):=by rfl
section
variable {prog:Program}{w:World}{A:Around}{R:Result->Shared->Prop}{s:Shared}
theorem pN {kx t1 i1 t2 i2:Expr}{scope:Scope}{pos:Pos}{it:Value}{D:Addr}{env:Env}(hs2:∀ x,foldedSetIterable i2 env x=pure x)(I:Nat->Shared->Prop)
 (turn:∀ n s,I n s->wpAny (model prog w) A (pyNext it) (fun r s₁=>match r with
  | none=>R (.ok .next) s₁
  | some v=>wpAny (model prog w) A (letOwnedTupleGo t1 it v) (fun _ s₁'=>wpAny (model prog w) A (assign t1 env v) (fun _ s₂ =>
   wpAny (model prog w) A (eval i2 env) (fun x s₃=>wpAny (model prog w) A (pyIter x) (fun it2 s₄ =>
    codeAny (model prog w) A (.compStart (sc2 kx t1 i1 t2 i2 scope pos) 1 it2 (.ref D) env) (fun r s₅=>match r with | .ok _=>∃ m,m < n/\I m s₅ | .error _=>False) s₄) (fun _ _=>False) s₃) (fun _ _=>False) s₂) (fun _ _=>False) s₁') (fun _ _=>False) s₁) (fun _ _=>False) s)
 (n:Nat)(h:I n s) :
 codeAny (model prog w) A (.compLoop (sc2 kx t1 i1 t2 i2 scope pos) 0 it (.ref D) env) R s:=by
 have no:∀ {E:Value->Shared->Prop} (x:Value) (s:Shared),False->E x s:=fun _ _ z=>z.elim;refine ahf rfl I (fun n s hI=>?_) n h;show wpAny _ A ((compTurn (sc2 kx t1 i1 t2 i2 scope pos) 0 it (.ref D) env).onRaise (fun x=>do noteFrame x env;theTreesLotGoes x)) _ _ s;refine ahI ?_;rw [mO];refine adE (aeC (adE (aed (turn n s hI) (fun r s₁ h₁=>?_) no)));cases r with
 | none=>exact adJ h₁
 | some v =>
  refine adE (aed h₁ (fun _ s₁' h₁'=>adE (aed h₁' (fun _ s₂ h₂=>adE (ahe ?_)) no)) no);refine adE (aed h₂ (fun x s₃ h₃=>adE (aeC (adE (wpAny_of_eq (hs2 x) (adE (aeQ (aed h₃ (fun it2 s₄ h₄=>?_) no))))))) no);refine adE (wpAny_runOwn (afC h₄ fun r s₅ h₅=>?_));cases r with
  | ok f=>exact adJ ⟨rfl,h₅⟩
  | error e=>exact h₅.elim
theorem pZ {kx t1 i1 t2 i2:Expr}{scope:Scope}{pos:Pos}{it:Value}{D:Addr}{env:Env}(I:Nat->Shared->Prop)
 (turn:∀ n s,I n s->wpAny (model prog w) A (pyNext it) (fun r s₁=>match r with
  | none=>R (.ok .next) s₁
  | some v=>wpAny (model prog w) A (letOwnedTupleGo t2 it v) (fun _ s₁'=>wpAny (model prog w) A (assign t2 env v) (fun _ s₃ =>
   wpAny (model prog w) A (eval kx env) (fun kv s₄ =>
    wpAny (model prog w) A (call (.builtin "set.add") [.ref D,kv]) (fun _ s₆=>∃ m,m < n/\I m s₆) (fun _ _=>False) s₄) (fun _ _=>False) s₃) (fun _ _=>False) s₁') (fun _ _=>False) s₁) (fun _ _=>False) s)
 (n:Nat)(h:I n s) :
 codeAny (model prog w) A (.compLoop (sc2 kx t1 i1 t2 i2 scope pos) 1 it (.ref D) env) R s:=by
 have no:∀ {E:Value->Shared->Prop} (x:Value) (s:Shared),False->E x s:=fun _ _ z=>z.elim;refine ahf rfl I (fun n s hI=>?_) n h;show wpAny _ A ((compTurn (sc2 kx t1 i1 t2 i2 scope pos) 1 it (.ref D) env).onRaise (fun x=>do noteFrame x env;theTreesLotGoes x)) _ _ s;refine ahI ?_;rw [ng];refine adE (aeC (adE (aed (turn n s hI) (fun r s₁ h₁=>?_) no)));cases r with
 | none=>exact adJ h₁
 | some v =>
  refine adE (aed h₁ (fun _ s₁' h₁'=>adE (aed h₁' (fun _ s₃ h₃=>adE (ahe ?_)) no)) no);exact adE (adE (aed h₃ (fun kv s₄ h₄=>adE (aeC (adE (aed h₄ (fun _ s₆ h₆=>adJ (adJ ⟨rfl,h₆⟩)) no)))) no))
theorem o8 {kx t1 i1 t2 i2:Expr}{scope:Scope}{pos:Pos}{it acc:Value}{env:Env}
 (h0:codeAny (model prog w) A (.compLoop (sc2 kx t1 i1 t2 i2 scope pos) 1 it acc env) R s)
 (h:wpAny (model prog w) A (pyIter it) (fun it' s'=>codeAny (model prog w) A (.compLoop (sc2 kx t1 i1 t2 i2 scope pos) 1 it' acc env) R s')
  (notedBy (model prog w) A env fun x s'=>R (.error x) s') s) :
 codeAny (model prog w) A (.compStart (sc2 kx t1 i1 t2 i2 scope pos) 1 it acc env) R s:=by
 refine codeAny_of_tree ?_;show wpAny _ A ((compStart (sc2 kx t1 i1 t2 i2 scope pos) 1 it acc env).onRaise (fun x=>do noteFrame x env;standAt theWindowsPlace)) _ _ s;refine wpAny_notedAt ?_;unfold compStart;show wpAny _ A (ask >>= _) _ _ s;refine adE (afM (wpAny_ite ?_));split
 ·first
   | exact adE (adJ (adJ (And.intro rfl h0)))
   | exact adJ (And.intro rfl h0)
 ·first
   | exact adE (afO (adE (aeC (adE (aed h (fun it' s' h'=>adJ (And.intro rfl h')) fun _ _ x=>x)))))
   | (refine adE (afO ?_);show wpAny _ _ (standAt i2.pos >>= _) _ _ s;exact adE (aeC (adE (aed h (fun it' s' h'=>adJ (And.intro rfl h')) fun _ _ x=>x))))
end
def rE (P:Program)(w:World)(nl:Nat)(ix:List Nat)(wi:TI)(g:TG)(wi2:TI)(g2:TG)(tk:TE):TE:=fun σ H Q=>wi σ H fun J H1=>∀ D,H1 D=none->∃ W:Nat->Nat->List Str->Hp->Prop,(∃ m,W 0 m [] (upd H1 D (kJ P w D []))) ∧
 ∀ i m ys H2,W i m ys H2->H2 D=some (kJ P w D ys)/\((J.stop i H2/\Q (.ref D) H2)\/(J.go i H2/\∀ x H3,J.yld i H2 x H3->g x (cz nl ix σ) H3 fun σ4 H4=>(σ4.length=(cz nl ix σ).length/\σ4.drop nl=ix.map fun j=>(σ[j]?).join) ∧
  wi2 σ4 H4 fun J2 H5=>∃ W2:Nat->Nat->List Str->Hp->Prop,(∃ m2,W2 0 m2 ys H5) ∧
   ∀ i2 m2 ys2 H6,W2 i2 m2 ys2 H6->H6 D=some (kJ P w D ys2)/\((J2.stop i2 H6/\∃ m',m' < m/\W (i+1) m' ys2 H6)\/(J2.go i2 H6/\∀ x2 H7,J2.yld i2 H6 x2 H7->g2 x2 σ4 H7 fun σ8 H8=>(σ8.length=σ4.length/\∀ (j:Nat) (v:V),σ4[j]? = some (some v)->σ8[j]? = some (some v)) ∧
    tk σ8 H8 fun z H9=>∃ k:Str,z=.str k/\H9 D=some (kJ P w D ys2)/\ys2.length+1 < scanBound/\∀ ys',((k∈ys2/\ys'=ys2)\/(k ∉ ys2/\ys'.Perm (ys2++[k])))->ys'.Nodup->∃ m',m' < m2/\W2 (i2+1) m' ys' (upd H9 D (kJ P w D ys'))))))
section
variable {X:Cx}
theorem xF {P:Program}{w:World}{kx tg iter tg2 iter2:Expr}{scope:Scope}{pos:Pos}{N':List Str}{nl:Nat}{ix:List Nat}{wi wi2:TI}{g g2:TG}{tk:TE}(hP:X.prog=P)(hw:X.w=w)(hc:X.calm=true)(S:CompScope X scope)(Cp:yw X scope N' nl ix)(hi:PI X tg iter wi)
 (hg:∀ C fp s₀ H₀,PG (X.comp scope N' C fp s₀ H₀) tg g)(hi2:∀ C fp s₀ H₀,PI (X.comp scope N' C fp s₀ H₀) tg2 iter2 wi2)(hg2:∀ C fp s₀ H₀,PG (X.comp scope N' C fp s₀ H₀) tg2 g2)
 (hk:∀ C fp s₀ H₀,PE (X.comp scope N' C fp s₀ H₀) kx tk)
 (hs:∀ x,foldedSetIterable iter X.env x=pure x:=by intro _;rfl)(hs2:∀ C fp s₀ H₀ x,foldedSetIterable iter2 (X.comp scope N' C fp s₀ H₀).env x=pure x:=by intro _ _ _ _ _;rfl):PE X (sc2 kx tg iter tg2 iter2 scope pos) (rE P w nl ix wi g wi2 g2 tk):=by
 subst hP hw;intro pins s σ H Q I h;rw [arm_eval_SetComp];refine ae5 (use:=none) (cl:=i9 X.env scope.names []) rfl hs (gh (S.cells I.ok)) S.kind S.loc ?_;refine thn (hi pins s σ H _ I h) fun v s1 h1=>thn h1 fun itv s2 h2=>?_;obtain⟨it,fp,tn,J,H2,rfl,I2,T,st2,f2,h2⟩:=h2;obtain⟨W,⟨m0,w0⟩,turn⟩:=h2 s2.heap.objs.size I2.fresh;refine aaw (afK S.nocell (by intro y hy;simp at hy) (fun h₁ hns₁ hsb₁=>?_) S.kind);dsimp only at hns₁ hsb₁ ⊢;have fpo:∀ b∈fp,b < s2.heap.objs.size:=fun b hb=>by
  obtain⟨o,e,_⟩:=T.obj 0 _ st2 b hb;exact adQ e
 have I3:Inv X pins σ (upd H2 s2.heap.objs.size (kJ X.prog X.w s2.heap.objs.size [])) { s2 with heap:=s2.heap.push { cls:=.type "set",dict:=none,data:=.set #[] 0 (.fresh 0 0 (!X.w.params.followText "set-order")) },toks:=s2.toks }:=I2.laid (a:=s2.heap.objs.size) (o:=kJ X.prog X.w s2.heap.objs.size []) (t':=s2.toks) (fun _ _ q=>adH _ q) (adL _) (zH (yp X.prog X.w s2.heap));have hD:(upd H2 s2.heap.objs.size (kJ X.prog X.w s2.heap.objs.size [])) s2.heap.objs.size=some (kJ X.prog X.w s2.heap.objs.size []):=af;have f3:∀ b∈fp,jE X pins (upd H2 s2.heap.objs.size (kJ X.prog X.w s2.heap.objs.size [])) b:=fun b hb=>by
  refine⟨?_,(f2 b hb).2⟩;rw [aj (ad2 (fpo b hb))];exact (f2 b hb).1
 generalize hS3:s2.heap.push { cls:=.type "set",dict:=none,data:=.set #[] 0 (.fresh 0 0 (!X.w.params.followText "set-order")) }=g3 at hns₁ hsb₁ I3 ⊢;have sz3:g3.objs.size=s2.heap.objs.size+1:=by rw [← hS3,aex]
 have fpo3:∀ b∈fp,b < ({ s2 with heap:=g3,toks:=s2.toks }:Shared).heap.objs.size:=fun b hb=>by
  show b < g3.objs.size;rw [sz3];exact aeN (fpo b hb)
 have old:∀ b o,g3.get? b=some o->h₁.get? b=some o:=fun b o e=>hsb₁.extBut b o (ad2 (adQ e)) (adH _ e);have I4:=kW (tk:=s2.toks+([]:List (Str×Value)).length) S Cp I3 f3 fpo3 hns₁ old;generalize hX:X.comp scope N' g3.objs.size fp { s2 with heap:=g3,toks:=s2.toks } (upd H2 s2.heap.objs.size (kJ X.prog X.w s2.heap.objs.size []))=X' at *;have hPr:X'.prog=X.prog:=by rw [← hX];rfl
 have hWr:X'.w=X.w:=by rw [← hX];rfl
 have hKr:X'.K=X.K:=by rw [← hX];rfl
 have hAr:X'.A=X.A:=by rw [← hX];rfl
 have hCa:X'.calm=true:=by rw [← hX];exact hc
 have hXe:X'.xe=fun _ _=>False:=by rw [← hX];rfl
 have hEx:X'.ex=fp:=by rw [← hX];rfl
 have hPn:X'.pn=[]:=by rw [← hX];rfl
 have hLo:X'.env.locals=g3.objs.size:=by rw [← hX];rfl
 have hEn:X'.env=compEnvC scope (i9 X.env scope.names []) g3.objs.size X.env:=by rw [← hX];rfl
 have hg':=hg g3.objs.size fp { s2 with heap:=g3,toks:=s2.toks } (upd H2 s2.heap.objs.size (kJ X.prog X.w s2.heap.objs.size []));have hi2':=hi2 g3.objs.size fp { s2 with heap:=g3,toks:=s2.toks } (upd H2 s2.heap.objs.size (kJ X.prog X.w s2.heap.objs.size []));have hg2':=hg2 g3.objs.size fp { s2 with heap:=g3,toks:=s2.toks } (upd H2 s2.heap.objs.size (kJ X.prog X.w s2.heap.objs.size []));have hk':=hk g3.objs.size fp { s2 with heap:=g3,toks:=s2.toks } (upd H2 s2.heap.objs.size (kJ X.prog X.w s2.heap.objs.size []));have hs2':=hs2 g3.objs.size fp { s2 with heap:=g3,toks:=s2.toks } (upd H2 s2.heap.objs.size (kJ X.prog X.w s2.heap.objs.size []));rw [hX] at hg' hi2' hg2' hk' hs2';have I4':Inv X' [] (cz nl ix σ) (upd H2 s2.heap.objs.size (kJ X.prog X.w s2.heap.objs.size [])) { s2 with heap:=h₁,toks:=s2.toks+([]:List (Str×Value)).length }:=I4;have back:∀ {H':Hp} {σ':St} {pins':List (Addr×Obj)} {s':Shared} {h':Heap},Inv X' pins' σ' H' s'->Heap.SameBut g3.objs.size s'.heap h'->Inv X pins σ H' { s' with heap:=h' }:=fun I' sb=>by
  subst hX;exact jD I3 f3 I' sb
 have stat:∀ {H':Hp},(∀ b∈fp,H' b=none)->∀ b∈fp,jE X' [] H' b:=fun hn b hb=>by
  refine⟨hn b hb,?_,?_,.inl (by rw [hEx];exact hb),?_,fun p hp=>by rw [hPn] at hp;cases hp⟩
  ·rw [hLo];exact ad2 (fpo3 b hb)
  ·exact I4'.ok.exfs b (by rw [hEx];exact hb)
  ·exact (I4'.ok.exf b (by rw [hEx];exact hb)).2
 have loop:codeAny (model X.prog X.w) X.A (.compLoop (sc2 kx tg iter tg2 iter2 scope pos) 0 (.ref it) (.ref s2.heap.objs.size) X'.env)
  (compPost (model X.prog X.w) X.A X.xe none (EP X pins σ Q) (.ref s2.heap.objs.size) g3.objs.size) { s2 with heap:=h₁,toks:=s2.toks+([]:List (Str×Value)).length }:=by
  rw [← hPr,← hWr,← hAr];refine pN hs2' (fun n s'=>∃ i ys H',Inv X' [] (cz nl ix σ) H' s'/\tn i s'.heap/\(∀ b∈fp,H' b=none)/\W i n ys H') ?_ m0
   ⟨0,[],_,I4',T.keep _ _ _ st2 (fun b hb o e=>old b o (by rw [← hS3];exact adH _ e)),fun b hb=>(f3 b hb).1,w0⟩
  rintro n s5 ⟨i,ys,H5,I5,st5,fr5,w5⟩;obtain⟨hD5,alt⟩:=turn i n ys H5 w5;rcases alt with ⟨stop,qn⟩ | ⟨go,step⟩
  ·rw [hPr,hWr];refine thn (T.done X' hPr hWr hKr hCa i [] s5 _ H5 _ I5 (stat fr5) st5 stop) fun r s6 ⟨hr,I6⟩=>?_;subst hr;obtain⟨m,hn,_⟩:=I6.loc;rw [hLo] at hn;exact⟨m,hn,fun h' sb=>⟨.ref s2.heap.objs.size,H5,back I6 sb,rfl,qn⟩⟩
  ·have it5:=T.item X' hPr hWr hKr hCa i [] s5 _ H5 (fun _ _=>False) I5 (stat fr5) st5 go;rw [← hPr,← hWr] at it5;refine thn it5 fun r s6 ⟨u,hr,h6⟩=>?_;subst hr;refine thn h6 fun _ s7 ⟨x,H7,I7,r7,y7,st7,fr7⟩=>?_;have I7':=I7.pinned (stat fr7) (T.obj _ _ st7);have g7:=hg' _ s7 _ H7 x u _ I7' r7 (step x H7 y7);rw [hXe] at g7;refine thn g7 fun _ s8 ⟨σ8,H8,I8,⟨hl8,hd8⟩,q8⟩=>?_;have again:∀ {H10:Hp} {s10:Shared} {ys':List Str},Inv X' ([]++fz fp s7.heap) σ8 H10 s10->(∃ m',m' < n/\W (i+1) m' ys' H10)->∃ m,m < n/\∃ i ys H',Inv X' [] (cz nl ix σ) H' s10/\tn i s10.heap/\(∀ b∈fp,H' b=none)/\W i m ys H':=fun {H10 s10 ys'} I10 ⟨m',hm,w'⟩=>by
    refine⟨m',hm,i+1,ys',H10,gL I10.unpinned hl8 hd8,T.keep _ _ _ st7 fun b hb o e=>(I10.pin (b,o) (adP _ (adP _ (aR hb e)))).1,fun b hb=>?_,w'⟩;obtain⟨o,e,d⟩:=T.obj _ _ st7 b hb;exact (I10.pin (b,o) (adP _ (adP _ (aR hb e)))).2.1
   have p8:=hi2' _ s8 σ8 H8 _ I8 q8;rw [hXe] at p8;refine thn p8 fun v2 s9 p9=>thn p9 fun itv2 s10 p10=>?_;obtain⟨it2,fp2,tn2,J2,H10,rfl,I10,T2,st10,f10,W2,⟨m2,w2⟩,turn2⟩:=p10;have stat2:∀ {H':Hp},(∀ b∈fp2,H' b=none)->∀ b∈fp2,jE X' ([]++fz fp s7.heap) H' b:=fun hn b hb=>⟨hn b hb,(f10 b hb).2⟩;have loop2:codeAny (model X'.prog X'.w) X'.A (.compLoop (sc2 kx tg iter tg2 iter2 scope pos) 1 (.ref it2) (.ref s2.heap.objs.size) X'.env)
    (fun r s₅=>match r with | .ok _=>∃ m,m < n/\∃ i ys H',Inv X' [] (cz nl ix σ) H' s₅/\tn i s₅.heap/\(∀ b∈fp,H' b=none)/\W i m ys H' | .error _=>False) s10:=by
    refine pZ (fun n2 s'=>∃ i2 ys2 H',Inv X' ([]++fz fp s7.heap) σ8 H' s'/\tn2 i2 s'.heap/\(∀ b∈fp2,H' b=none)/\W2 i2 n2 ys2 H') ?_ m2 ⟨0,ys,H10,I10,st10,fun b hb=>(f10 b hb).1,w2⟩;rintro n2 s11 ⟨i2,ys2,H11,I11,st11,fr11,w11⟩;obtain⟨hD11,alt2⟩:=turn2 i2 n2 ys2 H11 w11;rcases alt2 with ⟨stop2,qn2⟩ | ⟨go2,step2⟩
    ·refine thn (T2.done X' rfl rfl rfl hCa i2 _ s11 _ H11 _ I11 (stat2 fr11) st11 stop2) fun r s12 ⟨hr,I12⟩=>?_;subst hr;exact again I12 qn2
    ·have it11:=T2.item X' rfl rfl rfl hCa i2 _ s11 _ H11 (fun _ _=>False) I11 (stat2 fr11) st11 go2;refine thn it11 fun r s12 ⟨u2,hr,h12⟩=>?_;subst hr;refine thn h12 fun _ s13 ⟨x2,H13,I13,r13,y13,st13,fr13⟩=>?_;have I13':=I13.pinned (stat2 fr13) (T2.obj _ _ st13);have g13:=hg2' _ s13 _ H13 x2 u2 _ I13' r13 (step2 x2 H13 y13);rw [hXe] at g13;refine thn g13 fun _ s14 ⟨σ14,H14,I14,⟨hl14,hd14⟩,q14⟩=>?_;have again2:∀ {H17:Hp} {s17:Shared} {ys':List Str},Inv X' ([]++fz fp s7.heap++fz fp2 s13.heap) σ14 H17 s17->(∃ m',m' < n2/\W2 (i2+1) m' ys' H17)->∃ m,m < n2/\∃ i2 ys2 H',Inv X' ([]++fz fp s7.heap) σ8 H' s17/\tn2 i2 s17.heap/\(∀ b∈fp2,H' b=none)/\W2 i2 m ys2 H':=fun {H17 s17 ys'} I17 ⟨m',hm,w'⟩=>by
      refine⟨m',hm,i2+1,ys',H17,(I17.unpinned).weak hl14.symm (fun j v e=>hd14 j v e),T2.keep _ _ _ st13 fun b hb o e=>(I17.pin (b,o) (adP _ (adP _ (aR hb e)))).1,fun b hb=>?_,w'⟩;obtain⟨o,e,d⟩:=T2.obj _ _ st13 b hb;exact (I17.pin (b,o) (adP _ (adP _ (aR hb e)))).2.1
     have e9:=hk' _ s14 σ14 H14 _ I14 q14;rw [hXe] at e9;refine thn e9 fun zv s15 ⟨z,H15,I15,r15,k,ez,hD15,hz,mw⟩=>?_;subst ez;have hadd:=vc (X:=X') _ s15 σ14 H15 (.ref s2.heap.objs.size) [.str k] (.ref s2.heap.objs.size) [zv] (fun _ H11=>∃ m',m' < n2/\∃ ys',W2 (i2+1) m' ys' H11) I15 rfl (.cons r15 .nil) ⟨_,ys2,k,rfl,rfl,by rw [hPr,hWr];exact hD15,hz,fun ss' alt nd=>by
      obtain⟨m',hm,w'⟩:=mw ss' alt nd;exact⟨m',hm,ss',by rw [hPr,hWr];exact w'⟩⟩
     rw [hXe] at hadd;refine thn hadd fun _ s16 ⟨_,H16,I16,_,m',hm,ys',w'⟩=>?_;exact again2 I16 ⟨m',hm,w'⟩
   exact o8 loop2 (T2.self _ 0 _ _ _ st10 loop2)
 rw [hEn] at loop;exact sJ loop (T.self _ 0 _ _ _ (T.keep _ _ _ st2 (fun b hb o e=>old b o (by rw [← hS3];exact adH _ e))) loop)
theorem aba {P:Program}{w:World}{kx tg iter tg2 iter2:Expr}{outer scope:Scope}{pos:Pos}{N N':List Str}{nl:Nat}{ix:List Nat}{wi wi2:TI}{g g2:TG}{tk:TE}(h1:X.env.scope=outer)(h2:X.N=N)(hc:X.calm=true)(hi:PI X tg iter wi)
 (hg:∀ C fp s₀ H₀,PG (X.comp scope N' C fp s₀ H₀) tg g)(hi2:∀ C fp s₀ H₀,PI (X.comp scope N' C fp s₀ H₀) tg2 iter2 wi2)(hg2:∀ C fp s₀ H₀,PG (X.comp scope N' C fp s₀ H₀) tg2 g2)
 (hk:∀ C fp s₀ H₀,PE (X.comp scope N' C fp s₀ H₀) kx tk)(hP:X.prog=P:=by rfl)(hw:X.w=w:=by rfl)
 (hck:jf outer scope N N' nl ix=true:=by decide +kernel)(hs:∀ x,foldedSetIterable iter X.env x=pure x:=by intro _;rfl)(hs2:∀ C fp s₀ H₀ x,foldedSetIterable iter2 (X.comp scope N' C fp s₀ H₀).env x=pure x:=by intro _ _ _ _ _;rfl) :
 PE X (.SetComp kx [⟨tg,iter,[],0⟩,⟨tg2,iter2,[],0⟩] scope pos) (rE P w nl ix wi g wi2 g2 tk) :=
 let ⟨S,Cp⟩:=iO h1 h2 hck
 xF hP hw hc S Cp hi hg hi2 hg2 hk hs hs2
end
section
variable {X:Cx}{tg:Expr}
theorem tu {K:PySem.W.Frag}{l:Expr}{tl:TE}(hK:X.K=K)(hl:PE X l tl):PI X tg l (yu K tl):=by
 subst hK;exact aX hl
def wB (sc outer:Scope):Scope:={ sc with names:=jc sc outer }
theorem uG {outer sc:Scope}{N':List Str}{C:Addr}{fp:List Addr}{s₀:Shared}{H₀:Hp}(h1:X.env.scope=outer):(X.comp sc N' C fp s₀ H₀).env.scope=wB sc outer:=by
 subst h1
 rfl
end
end L2
namespace L2
open PySem PySem.Spec PyProof.Rows PySem.W
section
variable {X:Cx}{pins:List (Addr×Obj)}{σ:St}{H:Hp}{s:Shared}{scope:Scope}{N':List Str}{fp:List Addr}{x:Str}
end
section
variable {X:Cx}
end
section
variable {X:Cx}{outer scope:Scope}{N N':List Str}{nl:Nat}{ix:List Nat}{tg iter:Expr}{ifs:List Expr}{pos:Pos}{wi:TI}{g:TG}{tf:TT}
end
def mY:Nat->List Str->List (Str×Addr)->List (Str×Addr)
 | _,[],acc=>acc
 | n,x::xs,acc=>mY (n+1) xs ((x,n)::acc)
def vJ (h:Heap):Nat->Heap
 | 0=>h
 | k+1=>vJ (h.push { cls:=.type "cell",data:=.cell none }) k
theorem iq:∀ (k:Nat) {h:Heap} {b:Addr} {o:Obj},h.get? b=some o->(vJ h k).get? b=some o
 | 0,_,_,_,e=>e
 | k+1,_,_,_,e=>iq k (adH _ e)
theorem jd {y:Str}{c:Addr}:∀ {xs:List Str} {n:Nat} {acc:List (Str×Addr)},(mY n xs acc).lookup y=some c->(y∈xs/\n<=c)\/(y ∉ xs/\acc.lookup y=some c)
 | [],_,_,e=>.inr ⟨aet,e⟩
 | x::xs,n,acc,e=>by
  rcases jd (xs:=xs) (n:=n+1) e with ⟨a,b⟩ | ⟨a,b⟩
  ·exact .inl ⟨adN _ a,by lia⟩
  ·rw [aeU] at b;split at b
   ·rename_i hb;injection b with b
    exact .inl ⟨by rw [show y=x by simpa using hb];exact adV,by lia⟩
   ·rename_i hb;refine .inr ⟨fun z=>?_,b⟩;rcases adO.mp z with z | z
    ·rw [z] at hb;simp at hb
    ·exact a z
theorem xA {y z:Str}{c:Addr}:∀ {xs:List Str} {n:Nat} {acc:List (Str×Addr)},xs.Nodup->(mY n xs acc).lookup y=some c->(mY n xs acc).lookup z=some c->y∈xs->z∈xs->y=z
 | [],_,_,_,_,_,h,_=>nomatch h
 | x::xs,n,acc,nd,e1,e2,h1,h2=>by
  rw [aeK] at nd;have at_:∀ {y:Str},(mY (n+1) xs ((x,n)::acc)).lookup y=some c->y∈x::xs->(y∈xs/\n+1<=c)\/(y=x/\c=n):=fun {y} e h=>by
   rcases jd e with ⟨a,b⟩ | ⟨a,b⟩
   ·exact .inl ⟨a,b⟩
   ·have hy:y=x:=(adO.mp h).resolve_right a;rw [aeU,hy,afi] at b;injection b with b
    exact .inr ⟨hy,b.symm⟩
  rcases at_ e1 h1 with ⟨a,b⟩ | ⟨a,b⟩<;>rcases at_ e2 h2 with ⟨a',b'⟩ | ⟨a',b'⟩
  ·exact xA nd.2 e1 e2 a a'
  ·rw [b'] at b;exact absurd b (Nat.not_succ_le_self _)
  ·rw [b] at b';exact absurd b' (Nat.not_succ_le_self _)
  ·rw [a,a']
theorem oB {y:Str}:∀ {xs:List Str} {n:Nat} {acc:List (Str×Addr)},(y∈xs\/∃ c,acc.lookup y=some c)->∃ c,(mY n xs acc).lookup y=some c
 | [],_,_,h=>h.elim (fun z=>nomatch z) id
 | x::xs,n,acc,h=>by
  refine oB (xs:=xs) ?_;rcases h with h | ⟨c,h⟩
  ·rcases adO.mp h with h | h
   ·exact .inr ⟨n,by rw [h,aeU,afi]⟩
   ·exact .inl h
  ·refine .inr ?_;rw [aeU];split
   ·exact⟨_,rfl⟩
   ·exact⟨c,h⟩
theorem ui {y:Str}{c:Addr}:∀ {xs:List Str} {h:Heap} {acc:List (Str×Addr)},xs.Nodup->(mY h.objs.size xs acc).lookup y=some c->y∈xs->(vJ h xs.length).IsCell c none
 | [],_,_,_,_,m=>nomatch m
 | x::xs,h,acc,nd,e,m=>by
  rw [aeK] at nd;have e':(mY (h.push { cls:=.type "cell",data:=.cell none }).objs.size xs ((x,h.objs.size)::acc)).lookup y=some c:=by rw [aex];exact e
  by_cases hy:y∈xs
  ·exact ui (xs:=xs) (h:=h.push { cls:=.type "cell",data:=.cell none }) nd.2 e' hy
  ·have hx:y=x:=(adO.mp m).resolve_right hy;rcases jd e' with ⟨a,_⟩ | ⟨_,b⟩
   ·exact absurd a hy
   ·rw [aeU,hx,afi] at b;injection b with b
    subst b;exact⟨{ cls:=.type "cell",data:=.cell none },iq xs.length (adX _ rfl),rfl⟩
theorem jK:∀ (names:List (Str×NameKind)) (xs:List Str) (n:Nat) (acc:List (Str×Addr)) (h:Heap),names.filter (fun y=>y.2 == .cell)=xs.map (fun x=>(x,NameKind.cell))->cellsFrom n names acc=mY n xs acc/\pushCells h names=vJ h xs.length
 | [],[],_,_,_,_=>⟨rfl,rfl⟩
 | [],_::_,_,_,_,e=>by cases e
 | (a,k)::r,xs,n,acc,h,e=>by
  cases hk:(k == NameKind.cell) with
  | true =>
   rw [aea,if_pos hk] at e;cases xs with
   | nil=>cases e
   | cons x xs =>
    rw [adS] at e;injection e with e1 e2
    cases e1;unfold cellsFrom pushCells;rw [hk,if_pos rfl,if_pos rfl];exact jK r xs _ _ _ e2
  | false =>
   rw [aea,if_neg (by rw [hk];exact adM)] at e;unfold cellsFrom pushCells;rw [hk,if_neg adM,if_neg adM];exact jK r xs n acc h e
theorem rf {M:Model}{A:Around}{E:Value->Shared->Prop}{s:Shared}{xs:List Str}{scope:Scope}{globals:Addr}{closure:List (Str×Addr)}{qual:Str}{func:Option Addr}{code:Value}{outer:Env}{builtins:Addr}{Q:Env->Shared->Prop}
 (h1:scope.names.filter (fun y=>y.2 == .cell)=xs.map (fun x=>(x,NameKind.cell)))(nd:xs.Nodup)
 (hQ:∀ h',h'.Ns s.heap.objs.size (fun _=>none)->(∀ y c,(mY (s.heap.objs.size+1) xs closure).lookup y=some c->y∈xs->h'.IsCell c none)->(∀ b o,s.heap.get? b=some o->h'.get? b=some o)->Q (newEnv scope s.heap.objs.size globals (mY (s.heap.objs.size+1) xs closure) qual func code (some outer) builtins) { s with heap:=h' }) :
 wpAny M A (newFunctionEnv scope globals closure [] qual func code (some outer) builtins) Q E s:=by
 simp only [newFunctionEnv,Option.isSome_some,agO];refine adE (wpAny_alloc ?_);refine adE (wpAny_layCells _ (fun name kind cells=>by cases hkc:kind == NameKind.cell<;>simp [hkc]) _ _ _ _ ?_);obtain⟨e1,e2⟩:=jK scope.names xs (s.heap.push { cls:=.type "dict",data:=.dict #[] }).objs.size closure (s.heap.push { cls:=.type "dict",data:=.dict #[] }) h1;dsimp only;rw [e1,e2];rw [List.forIn_nil];refine adE (adJ (adJ ?_));have oc:∀ y c,(mY (s.heap.push { cls:=.type "dict",data:=.dict #[] }).objs.size xs closure).lookup y=some c->y∈xs->(vJ (s.heap.push { cls:=.type "dict",data:=.dict #[] }) xs.length).IsCell c none:=fun y c e m=>ui nd e m;rw [aex] at oc ⊢;exact hQ _ ((Heap.Ns.new s.heap (.type "dict")).keeps fun b o e=>iq _ e) oc fun b o e=>iq _ (adH _ e)
def Cx.compCs (X:Cx)(scope:Scope)(xs:List Str)(N':List Str)(C:Addr)(fp:List Addr)(s₀:Shared)(H₀:Hp):Cx :=
 { X with N:=N',s₀:=s₀,H₀:=H₀,env:=compEnvC scope (mY (C+1) xs (i9 X.env scope.names [])) C X.env,outer:=X.stack,stack:=X.stack,ex:=fp,fn:=fun y=>xs.elem y,pn:=[],xe:=fun _ _=>False }
structure CompScopeCs (X:Cx)(scope:Scope)(xs:List Str):Prop where
 kind:scope.kind=.function
 one:scope.names.filter (fun y=>y.2 == .cell)=xs.map (fun x=>(x,NameKind.cell))
 nd:xs.Nodup
 loc:∀ y∈scope.names,y.2=.local->scope.names.lookup y.1=some .local
 free:∀ y∈scope.names,y.2=.free->X.env.kindOf y.1=some .cell
 not:∀ y∈scope.names,y.2=.free->y.1 ∉ xs
section
variable {X:Cx}{pins:List (Addr×Obj)}{σ:St}{H:Hp}{s:Shared}{scope:Scope}{N':List Str}{fp:List Addr}{xs:List Str}
theorem CompScopeCs.cells (S:CompScopeCs X scope xs)(ok:X.Ok):∀ y∈scope.names,y.2=.free->∃ c,X.env.cells.lookup y.1=some c:=fun y hy hk=>ok.has y.1 (.inl (S.free y hy hk))
theorem CompScopeCs.sub (S:CompScopeCs X scope xs)(ok:X.Ok){y:Str}{c:Addr}(e:(i9 X.env scope.names []).lookup y=some c):X.env.cells.lookup y=some c:=by
 rcases pD scope.names [] y c (S.cells ok) e with h | h
 ·cases h
 ·exact h
theorem CompScopeCs.its (S:CompScopeCs X scope xs){y:Str}(h:(y,NameKind.cell)∈scope.names):y∈xs:=by
 have:(y,NameKind.cell)∈scope.names.filter (fun y=>y.2 == .cell):=aeA.mpr ⟨h,afi _⟩;rw [S.one] at this;obtain⟨x,hx,e⟩:=ad5.mp this;cases e;exact hx
theorem CompScopeCs.look (S:CompScopeCs X scope xs)(ok:X.Ok){n:Nat}{y:Str}{c:Addr}(e:(mY n xs (i9 X.env scope.names [])).lookup y=some c):(y∈xs/\n<=c)\/(y ∉ xs/\X.env.cells.lookup y=some c):=(jd e).imp id fun z=>⟨z.1,S.sub ok z.2⟩
theorem CompScopeCs.ok (S:CompScopeCs X scope xs)(I:Inv X pins σ H s)(hf:∀ b∈fp,jE X pins H b)(ho:∀ b∈fp,b < s.heap.objs.size):(X.compCs scope xs N' s.heap.objs.size fp s H).Ok where
 mod:=I.ok.mod
 kind:=S.kind
 glob:=I.ok.glob
 blt:=I.ok.blt
 above:=adL _
 inj:=fun y z c e1 e2=>by
  have lt:∀ {y:Str},X.env.cells.lookup y=some c->c < s.heap.objs.size:=fun {y} e=>let ⟨v,q⟩:=I.cell y c e;q.lt;rcases S.look I.ok e1 with ⟨a1,a2⟩ | ⟨_,a⟩<;>rcases S.look I.ok e2 with ⟨b1,b2⟩ | ⟨_,b⟩
  ·exact xA S.nd e1 e2 a1 b1
  ·exact absurd (adU (lt b) (adZ (ae7 _) a2)) (aez _)
  ·exact absurd (adU (lt a) (adZ (ae7 _) b2)) (aez _)
  ·exact I.ok.inj y z c a b
 has:=fun y hy=>by
  have hy':(relabel scope X.env).names.lookup y=some .cell\/(relabel scope X.env).names.lookup y=some .free:=hy;have key:y∈xs\/(y,NameKind.free)∈scope.names:=by
   rcases hy' with h | h
   ·obtain⟨k',h1,h2⟩:=gs h;rcases h2 with h2 | ⟨h2,_⟩
    ·subst h2;exact .inl (S.its h1)
    ·subst h2;exact .inr h1
   ·obtain⟨k',h1,h2⟩:=gs h;rcases h2 with h2 | ⟨h2,h3⟩
    ·subst h2;exact .inr h1
    ·cases h3
  exact oB (key.imp id fun z=>jA scope.names [] y z)
 cab:=fun y c h e=>by
  have hy:y∈xs:=by simpa [Cx.compCs] using h
  rcases S.look I.ok (show (mY (s.heap.objs.size+1) xs (i9 X.env scope.names [])).lookup y=some c from e) with ⟨_,a⟩ | ⟨a,_⟩
  ·exact adZ (ae7 _) a
  ·exact absurd hy a
 hd:=I.ok.hd
 frames:=I.ok.frames
 stk:=.inl rfl
 exf:=fun b hb=>⟨ad2 (ho b hb),fun y c e=>by
  rcases S.look I.ok (show (mY (s.heap.objs.size+1) xs (i9 X.env scope.names [])).lookup y=some c from e) with ⟨_,a2⟩ | ⟨_,a⟩
  ·intro z;subst z;exact absurd (adU (ho _ hb) (adZ (ae7 _) a2)) (aez _)
  ·exact (hf b hb).2.2.2.2.1 y c a⟩
 bs:=I.bs
 bsz:=adZ I.ok.bsz I.sz
 noex:=fun b o e hb=>by
  rcases (hf b hb).2.2.2.1 with h | h
  ·exact I.ok.noex b o e h
  ·exact absurd (adU (adQ e) (adZ I.ok.bsz h)) (aez _)
 exfs:=fun b hb hs=>by
  rcases adO.mp (I.stkSub b hs) with h | h
  ·exact (hf b hb).2.1 h
  ·exact (hf b hb).2.2.1 h
 funs:=I.stack
 frf:=I.stkFree
theorem uR {nl:Nat}{ix:List Nat}{h1:Heap}{tk:Nat}(S:CompScopeCs X scope xs)(Cp:yw X scope N' nl ix)(I:Inv X pins σ H s)(hf:∀ b∈fp,jE X pins H b)(ho:∀ b∈fp,b < s.heap.objs.size)
 (hn:h1.Ns s.heap.objs.size (fun _=>none))(hcl:∀ y c,(mY (s.heap.objs.size+1) xs (i9 X.env scope.names [])).lookup y=some c->y∈xs->h1.IsCell c none)(hk:∀ b o,s.heap.get? b=some o->h1.get? b=some o):Inv (X.compCs scope xs N' s.heap.objs.size fp s H) [] (cz nl ix σ) H { s with heap:=h1,toks:=tk }:=by
 have ok:=S.ok (N':=N') I hf ho;refine⟨ok,rfl,I.bare,Un.kept hk,⟨_,hn,fun i y v e1 e2 e3=>?_⟩,fun y c e=>?_,I.hok.fresh (adL _),fun y c e=>?_,fun p hp=>by simp [Cx.compCs] at hp,I.hok.kept hk,?_⟩
 ·unfold cz at e2;rw [age] at e2;split at e2
  ·rw [afr] at e2;split at e2<;>simp at e2
  ·rename_i hi;rw [aey] at hi e2;rw [adK] at e2;cases ej:ix[i - nl]? with
   | none=>rw [ej] at e2;simp at e2
   | some j =>
    rw [ej] at e2;have e2':(σ[j]?).join=some v:=by simpa using e2
    have e2'':σ[j]? = some (some v):=by
     cases q:σ[j]? with
     | none=>rw [q] at e2';simp at e2'
     | some z=>rw [q] at e2';simp at e2';rw [e2']
    obtain⟨x',a1,a2,a3,a4,a5⟩:=Cp.at' _ _ ej;have hi2:nl+(i - nl)=i:=by lia
    rw [hi2] at a2;have e1':N'[i]? = some y:=e1;rw [a2] at e1';cases e1';obtain⟨m,hm,hl⟩:=I.loc;obtain⟨u,r,l⟩:=hl j y v a1 e2'' (.inr (.inl a3));refine⟨u,r,?_⟩;rcases l with ⟨k,_⟩ | ⟨_,c,ec,z⟩
    ·rw [k] at a3;cases a3
    ·obtain⟨c',hc'⟩:=jA (env:=X.env) scope.names [] y a5;have ec':=S.sub I.ok hc';rw [ec] at ec';cases ec';obtain⟨o,ho',hd⟩:=z;have hc2:(mY (s.heap.objs.size+1) xs (i9 X.env scope.names [])).lookup y=some c:=by
      obtain⟨c3,h3⟩:=oB (xs:=xs) (n:=s.heap.objs.size+1) (acc:=i9 X.env scope.names []) (y:=y) (.inr ⟨_,hc'⟩);rcases jd h3 with ⟨z,_⟩ | ⟨_,z⟩
      ·exact absurd z (S.not _ a5 rfl)
      ·rw [hc'] at z;cases z;exact h3
     exact .inr ⟨.inl a4,c,hc2,o,hk _ _ ho',hd⟩
 ·rcases S.look I.ok (show (mY (s.heap.objs.size+1) xs (i9 X.env scope.names [])).lookup y=some c from e) with ⟨z,_⟩ | ⟨_,a⟩
  ·exact⟨_,hcl y c e z⟩
  ·obtain⟨v,o,ho',hd⟩:=I.cell y c a;exact⟨v,o,hk _ _ ho',hd⟩
 ·rcases S.look I.ok (show (mY (s.heap.objs.size+1) xs (i9 X.env scope.names [])).lookup y=some c from e) with ⟨_,z⟩ | ⟨_,a⟩
  ·exact I.hok.fresh (adZ (ae7 _) z)
  ·exact I.freeC y c a
 ·show (cz nl ix σ).length=N'.length;unfold cz;rw [adI,aey,adG,Cp.len]
theorem rj {H':Hp}{σ':St}{pins':List (Addr×Obj)}{s':Shared}{h':Heap}(I:Inv X pins σ H s)(hf:∀ b∈fp,jE X pins H b)
 (I':Inv (X.compCs scope xs N' s.heap.objs.size fp s H) pins' σ' H' s')(hs:Heap.SameBut s.heap.objs.size s'.heap h'):Inv X pins σ H' { s' with heap:=h' }:=by
 have lo:∀ b o,s.heap.get? b=some o->b≠s.heap.objs.size:=fun b o e=>ad2 (adQ e);have B:=I'.base;refine I.call' (ch:=fp) (show s'.os=s.os from I'.os) ⟨fun b o e n hb hx=>?_,fun b o e n hb hx=>?_,fun b o e n hx=>B.free b o e n hx,fun b o e hx=>?_,B.tups,B.frzs,B.tbls⟩ (fun b u e=>?_) I'.bare fun b hb=>⟨(hf b hb).2.2.2.1,(hf b hb).2.1,(hf b hb).2.2.2.2.1,(hf b hb).2.2.2.2.2⟩
 ·exact (hs.2 b (lo b o e)).trans (B.keep b o e n hb hx)
 ·obtain⟨sl,q⟩:=B.slot b o e n hb hx;exact⟨sl,(hs.2 b (lo b o e)).trans q⟩
 ·obtain⟨o',q⟩:=B.there b o e hx;exact⟨o',(hs.2 b (lo b o e)).trans q⟩
 ·have nl:H' s.heap.objs.size=none:=I'.free;refine (I'.hok b u e).stay (fun c v hc q=>(hs.2 c ?_).trans q) (fun _ q=>q) fun _ _ q=>q;rintro rfl;rcases hc with z | z
  ·rw [← z,nl] at e;cases e
  ·rw [nl] at z;cases z
end
section
variable {X:Cx}
theorem uF {xs:List Str}{elt tg iter:Expr}{ifs:List Expr}{scope:Scope}{pos:Pos}{N':List Str}{nl:Nat}{ix:List Nat}{wi:TI}{g:TG}{tf:TT}{te:TE}(hc:X.calm=true)(S:CompScopeCs X scope xs)(Cp:yw X scope N' nl ix)(hi:PI X tg iter wi)
 (hg:∀ C fp s₀ H₀,PG (X.compCs scope xs N' C fp s₀ H₀) tg g)(hf:∀ C fp s₀ H₀,PIf (X.compCs scope xs N' C fp s₀ H₀) ifs tf)(he:∀ C fp s₀ H₀,PE (X.compCs scope xs N' C fp s₀ H₀) elt te)
 (hs:∀ x,foldedSetIterable iter X.env x=pure x:=by intro _;rfl):PE X (.ListComp elt [⟨tg,iter,ifs,0⟩] scope pos) (ll nl ix wi g tf te):=by
 intro pins s σ H Q I h;rw [eval_ListComp];refine ae5 (use:=none) (cl:=i9 X.env scope.names []) rfl hs (gh (S.cells I.ok)) S.kind S.loc ?_;refine thn (hi pins s σ H _ I h) fun v s1 h1=>thn h1 fun itv s2 h2=>?_;obtain⟨it,fp,tn,J,H2,rfl,I2,T,st2,f2,h2⟩:=h2;obtain⟨W,⟨m0,w0⟩,turn⟩:=h2 s2.heap.objs.size I2.fresh;refine aeM (rf S.one S.nd (fun h₁ hns₁ hcl₁ old₁=>?_));dsimp only at hns₁ hcl₁ old₁ ⊢;have fpo:∀ b∈fp,b < s2.heap.objs.size:=fun b hb=>by
  obtain⟨o,e,_⟩:=T.obj 0 _ st2 b hb;exact adQ e
 have I3:Inv X pins σ (upd H2 s2.heap.objs.size (.lst [])) { s2 with heap:=s2.heap.push { cls:=.type "list",data:=.seq ([]:List Value).toArray },toks:=s2.toks }:=I2.lnew .nil (ad7 _);have hD:(upd H2 s2.heap.objs.size (.lst [])) s2.heap.objs.size=some (.lst []):=af;have f3:∀ b∈fp,jE X pins (upd H2 s2.heap.objs.size (.lst [])) b:=fun b hb=>by
  refine⟨?_,(f2 b hb).2⟩;rw [aj (ad2 (fpo b hb))];exact (f2 b hb).1
 generalize hS3:s2.heap.push { cls:=.type "list",dict:=none,data:=.seq ([]:List Value).toArray }=g3 at hns₁ hcl₁ old₁ I3 ⊢;have sz3:g3.objs.size=s2.heap.objs.size+1:=by rw [← hS3,aex]
 have fpo3:∀ b∈fp,b < ({ s2 with heap:=g3,toks:=s2.toks }:Shared).heap.objs.size:=fun b hb=>by
  show b < g3.objs.size;rw [sz3];exact aeN (fpo b hb)
 have old:∀ b o,g3.get? b=some o->h₁.get? b=some o:=old₁;have I4:=uR (tk:=s2.toks) S Cp I3 f3 fpo3 hns₁ hcl₁ old;generalize hX:X.compCs scope xs N' g3.objs.size fp { s2 with heap:=g3,toks:=s2.toks } (upd H2 s2.heap.objs.size (.lst []))=X' at *;have hPr:X'.prog=X.prog:=by rw [← hX];rfl
 have hWr:X'.w=X.w:=by rw [← hX];rfl
 have hKr:X'.K=X.K:=by rw [← hX];rfl
 have hAr:X'.A=X.A:=by rw [← hX];rfl
 have hCa:X'.calm=true:=by rw [← hX];exact hc
 have hXe:X'.xe=fun _ _=>False:=by rw [← hX];rfl
 have hEx:X'.ex=fp:=by rw [← hX];rfl
 have hPn:X'.pn=[]:=by rw [← hX];rfl
 have hLo:X'.env.locals=g3.objs.size:=by rw [← hX];rfl
 have hEn:X'.env=compEnvC scope (mY (g3.objs.size+1) xs (i9 X.env scope.names [])) g3.objs.size X.env:=by rw [← hX];rfl
 have hg':=hg g3.objs.size fp { s2 with heap:=g3,toks:=s2.toks } (upd H2 s2.heap.objs.size (.lst []));have hf':=hf g3.objs.size fp { s2 with heap:=g3,toks:=s2.toks } (upd H2 s2.heap.objs.size (.lst []));have he':=he g3.objs.size fp { s2 with heap:=g3,toks:=s2.toks } (upd H2 s2.heap.objs.size (.lst []));rw [hX] at hg' hf' he';have I4':Inv X' [] (cz nl ix σ) (upd H2 s2.heap.objs.size (.lst [])) { s2 with heap:=h₁,toks:=s2.toks }:=I4;have back:∀ {H':Hp} {σ':St} {pins':List (Addr×Obj)} {s':Shared} {h':Heap},Inv X' pins' σ' H' s'->Heap.SameBut g3.objs.size s'.heap h'->Inv X pins σ H' { s' with heap:=h' }:=fun I' sb=>by
  subst hX;exact rj I3 f3 I' sb
 have stat:∀ {H':Hp},(∀ b∈fp,H' b=none)->∀ b∈fp,jE X' [] H' b:=fun hn b hb=>by
  refine⟨hn b hb,?_,?_,.inl (by rw [hEx];exact hb),?_,fun p hp=>by rw [hPn] at hp;cases hp⟩
  ·rw [hLo];exact ad2 (fpo3 b hb)
  ·exact I4'.ok.exfs b (by rw [hEx];exact hb)
  ·exact (I4'.ok.exf b (by rw [hEx];exact hb)).2
 have loop:codeAny (model X.prog X.w) X.A (.compLoop (.ListComp elt [⟨tg,iter,ifs,0⟩] scope pos) 0 (.ref it) (.ref s2.heap.objs.size) X'.env)
  (compPost (model X.prog X.w) X.A X.xe none (EP X pins σ Q) (.ref s2.heap.objs.size) g3.objs.size) { s2 with heap:=h₁,toks:=s2.toks }:=by
  rw [← hPr,← hWr,← hAr];refine jF (fun n s'=>∃ i ys H',Inv X' [] (cz nl ix σ) H' s'/\tn i s'.heap/\(∀ b∈fp,H' b=none)/\W i n ys H') ?_ m0
   ⟨0,[],_,I4',T.keep _ _ _ st2 (fun b hb o e=>old b o (by rw [← hS3];exact adH _ e)),fun b hb=>(f3 b hb).1,w0⟩
  rintro n s5 ⟨i,ys,H5,I5,st5,fr5,w5⟩;obtain⟨hD5,alt⟩:=turn i n ys H5 w5;rcases alt with ⟨stop,qn⟩ | ⟨go,step⟩
  ·rw [hPr,hWr];refine thn (T.done X' hPr hWr hKr hCa i [] s5 _ H5 _ I5 (stat fr5) st5 stop) fun r s6 ⟨hr,I6⟩=>?_;subst hr;obtain⟨m,hn,_⟩:=I6.loc;rw [hLo] at hn;exact⟨m,hn,fun h' sb=>⟨.ref s2.heap.objs.size,H5,back I6 sb,rfl,qn⟩⟩
  ·have it5:=T.item X' hPr hWr hKr hCa i [] s5 _ H5 (fun _ _=>False) I5 (stat fr5) st5 go;rw [← hPr,← hWr] at it5;refine thn it5 fun r s6 ⟨u,hr,h6⟩=>?_;subst hr;refine thn h6 fun _ s7 ⟨x,H7,I7,r7,y7,st7,fr7⟩=>?_;have I7':=I7.pinned (stat fr7) (T.obj _ _ st7);have g7:=hg' _ s7 _ H7 x u _ I7' r7 (step x H7 y7);rw [hXe] at g7;refine thn g7 fun _ s8 ⟨σ8,H8,I8,⟨hl8,hd8⟩,q8⟩=>?_;have f8:=hf' _ s8 σ8 H8 _ I8 q8;rw [hXe] at f8;refine thn f8 fun ok s9 ⟨H9,I9,q9⟩=>?_;have again:∀ {H10:Hp} {s10:Shared} {ys':List V},Inv X' ([]++fz fp s7.heap) σ8 H10 s10->(∃ m',m' < n/\W (i+1) m' ys' H10)->∃ m,m < n/\∃ i ys H',Inv X' [] (cz nl ix σ) H' s10/\tn i s10.heap/\(∀ b∈fp,H' b=none)/\W i m ys H':=fun {H10 s10 ys'} I10 ⟨m',hm,w'⟩=>by
    refine⟨m',hm,i+1,ys',H10,gL I10.unpinned hl8 hd8,T.keep _ _ _ st7 fun b hb o e=>(I10.pin (b,o) (adP _ (adP _ (aR hb e)))).1,fun b hb=>?_,w'⟩;obtain⟨o,e,d⟩:=T.obj _ _ st7 b hb;exact (I10.pin (b,o) (adP _ (adP _ (aR hb e)))).2.1
   cases ok with
   | false =>
    rw [if_neg adM] at q9 ⊢;exact again I9 q9
   | true =>
    rw [if_pos rfl] at q9 ⊢;have e9:=he' _ s9 σ8 H9 _ I9 q9;rw [hXe] at e9;refine thn e9 fun xv s10 ⟨y,H10,I10,r10,hD10,hz,mw⟩=>?_;have a10:=dm (X:=X') _ s10 σ8 H10 (.ref s2.heap.objs.size) [y] _ [xv] (fun _ H'=>H'=upd H10 s2.heap.objs.size (.lst (ys++[y]))) I10 rfl (.cons r10 .nil) ⟨_,ys,y,rfl,rfl,hD10,hz,rfl⟩;rw [hXe] at a10;refine thn a10 fun _ s11 ⟨_,H11,I11,_,e11⟩=>?_;subst e11;exact again I11 mw
 rw [hEn] at loop;exact afX loop (T.self _ 0 _ _ _ (T.keep _ _ _ st2 (fun b hb o e=>old b o (by rw [← hS3];exact adH _ e))) loop)
end
def oH (outer scope:Scope)(xs:List Str)(N N':List Str)(nl:Nat)(ix:List Nat):Bool :=
 (scope.kind == .function && decide (scope.names.filter (fun y=>y.2 == .cell)=xs.map (fun x=>(x,NameKind.cell))) && decide xs.Nodup && scope.names.all fun y=>(y.2 != .local || scope.names.lookup y.1 == some .local) && (y.2 != .free || outer.names.lookup y.1 == some .cell) && (y.2 != .free || !xs.elem y.1)) &&
 (N'.length == nl+ix.length && (List.range ix.length).all fun k=>match ix[k]? with
  | none=>false
  | some j=>match N[j]? with
   | none=>false
   | some x=>N'[nl+k]? == some x && outer.names.lookup x == some .cell && (jc scope outer).lookup x == some .cell && decide ((x,NameKind.free)∈scope.names))
theorem wb {X:Cx}{outer scope:Scope}{xs:List Str}{N N':List Str}{nl:Nat}{ix:List Nat}(h1:X.env.scope=outer)(h2:X.N=N)(h:oH outer scope xs N N' nl ix=true):CompScopeCs X scope xs/\yw X scope N' nl ix:=by
 unfold oH at h;simp only [aei,aes,afh,bne_iff_ne,ahg,ne_eq,ae1,afm] at h;obtain⟨⟨⟨⟨hk,h1c⟩,hnd⟩,ha⟩,hl,hb⟩:=h;have kd:∀ x,X.env.kindOf x=outer.names.lookup x:=fun x=>by rw [← h1];rfl
 refine⟨⟨hk,h1c,hnd,fun x hx e=>?_,fun x hx e=>?_,fun x hx e=>?_⟩,⟨hl,fun k j e=>?_⟩⟩
 ·exact (ha x hx).1.1.resolve_left fun z=>z e
 ·rw [kd];exact (ha x hx).1.2.resolve_left fun z=>z e
 ·have:=(ha x hx).2.resolve_left fun z=>z e;simpa using this
 ·have hk':k < ix.length:=(adF.mp e).1;have q:=hb k hk';rw [e] at q;simp only at q;cases ex:N[j]? with
  | none=>rw [ex] at q;simp at q
  | some x =>
   rw [ex] at q;simp only [aei,afh,afm] at q;obtain⟨⟨⟨q1,q2⟩,q3⟩,q4⟩:=q;refine⟨x,by rw [h2];exact ex,q1,by rw [kd];exact q2,?_,q4⟩;have er:(relabel scope X.env).names=jc scope outer:=by rw [← h1];rfl
   rw [er];exact q3
section
variable {X:Cx}{outer scope:Scope}{N N':List Str}{nl:Nat}{ix:List Nat}{tg iter:Expr}{ifs:List Expr}{pos:Pos}{wi:TI}{g:TG}{tf:TT}
theorem wY {elt:Expr}{te:TE}(xs:List Str)(h1:X.env.scope=outer)(h2:X.N=N)(hc:X.calm=true)(hi:PI X tg iter wi)
 (hg:∀ C fp s₀ H₀,PG (X.compCs scope xs N' C fp s₀ H₀) tg g)(hf:∀ C fp s₀ H₀,PIf (X.compCs scope xs N' C fp s₀ H₀) ifs tf)(he:∀ C fp s₀ H₀,PE (X.compCs scope xs N' C fp s₀ H₀) elt te)
 (hck:oH outer scope xs N N' nl ix=true:=by decide +kernel)(hs:∀ x,foldedSetIterable iter X.env x=pure x:=by intro _;rfl):PE X (.ListComp elt [⟨tg,iter,ifs,0⟩] scope pos) (ll nl ix wi g tf te) :=
 let ⟨S,Cp⟩:=wb h1 h2 hck
 uF hc S Cp hi hg hf he hs
theorem kq {outer sc:Scope}{xs:List Str}{N':List Str}{C:Addr}{fp:List Addr}{s₀:Shared}{H₀:Hp}(h1:X.env.scope=outer):(X.compCs sc xs N' C fp s₀ H₀).env.scope=wB sc outer:=by
 subst h1
 rfl
end
end L2
namespace K7
open PySem L2 PyProof.Rows
def jV (hand locks:List Str):Bool:=locks.all fun x=>decide (locks.count x<=hand.count x)
def kF (hand:List Str)(r:Rm):List Str:=r.1.foldl List.erase hand++r.2
theorem fw (x:Str):∀ (l h:List Str),(l.foldl List.erase h).count x=h.count x - l.count x
 | [],h=>by simp
 | a::l,h=>by
  rw [agp,fw x l,List.count_erase,List.count_cons];by_cases e:a=x
  ·subst e;simp;lia
  ·have:¬ x=a:=fun z=>e z.symm;simp [e,this]
theorem jP:∀ (l h:List Str),(l.foldl List.erase h).length<=h.length
 | [],h=>adL _
 | a::l,h=>by
  rw [agp];exact adZ (jP l _) (List.length_erase_le ..)
theorem abd {hand locks:List Str}(h:jV hand locks=true){i:Nat}(hi:i < locks.length):locks[i]∈(locks.take i).foldl List.erase hand:=by
 unfold jV at h;rw [aes] at h;have h1:=aeZ (h locks[i] (aeo hi));have h2:=fw locks[i] (locks.take i) hand;have e:locks=locks.take i++locks[i]::locks.drop (i+1):=by rw [← afL hi,af8]
 have h3:locks.count locks[i]=(locks.take i).count locks[i]+(1+(locks.drop (i+1)).count locks[i]):=by
  have:=aeu (List.count locks[i]) e;rw [afG,List.count_cons_self] at this;lia
 exact List.count_pos_iff.mp (by lia)
theorem wy (hand:List Str)(r:Rm):(kF hand r).length<=hand.length+r.2.length:=by
 unfold kF;rw [adI];exact Nat.add_le_add_right (jP _ _) _
def aV (ks:List Str)(rs:List Rm)(order:List Nat):List Str:=order.foldl (fun hd i=>kF hd ((rs[i]?).getD ([],[]))) ks
theorem iV (ks:List Str)(rs:List Rm)(order:List Nat)(i:Nat):aV ks rs (order++[i])=kF (aV ks rs order) ((rs[i]?).getD ([],[])):=by
 unfold aV;rw [af3]
 rfl
theorem oh {ks:List Str}{rs:List Rm}(m:Nat)(hm:∀ r∈rs,r.2.length<=m):∀ (order:List Nat) (ks:List Str),(aV ks rs order).length<=ks.length+m * order.length
 | [],ks=>by simp [aV]
 | i::order,ks=>by
  have h1:=oh m hm (ks:=ks) order (kF ks ((rs[i]?).getD ([],[])));have h2:=wy ks ((rs[i]?).getD ([],[]));have h3:((rs[i]?).getD ([],[])).2.length<=m:=by
   cases e:rs[i]? with
   | none=>exact ad7 _
   | some r=>exact hm r (adR e)
  rw [aef,Nat.mul_succ];show (aV (kF ks ((rs[i]?).getD ([],[]))) rs order).length<=_;lia
def jg (rs:List Rm)(hand:List Str)(order:List Nat):List Nat:=(List.range rs.length).filter fun i=>!decide (i∈order) && jV hand ((rs[i]?).getD ([],[])).1
def cy (ks:List Str)(rs:List Rm)(order:List Nat):Prop:=∀ j i,order[j]? = some i->i < rs.length/\i ∉ order.take j/\jV (aV ks rs (order.take j)) ((rs[i]?).getD ([],[])).1=true
def aU (o:List Nat):Nat:=o.foldl (fun m i=>m ||| 2 ^ i) 0
theorem cS (o:List Nat)(i:Nat):aU (o++[i])=aU o ||| 2 ^ i:=by
 unfold aU;rw [af3]
 rfl
theorem ip (o:List Nat):∀ i,(aU o).testBit i=decide (i∈o):=by
 have go:∀ (l:List Nat) (m i:Nat),(l.foldl (fun m i=>m ||| 2 ^ i) m).testBit i=(m.testBit i || decide (i∈l)):=fun l=>by
  induction l with
  | nil=>intro m i;simp
  | cons a l ih =>
   intro m i;rw [agp,ih,Nat.testBit_or,Nat.testBit_two_pow];by_cases h:a=i
   ·subst h;simp
   ·have h':i≠a:=fun z=>h z.symm;simp [h,h']
 intro i;unfold aU;rw [go];simp
theorem qf {o o':List Nat}(p:o.Perm o'):aU o=aU o':=Nat.eq_of_testBit_eq fun i=>by
 rw [ip,ip];exact aeV.mpr p.mem_iff
theorem eA {o o':List Nat}(n:o.Nodup)(n':o'.Nodup)(e:aU o=aU o'):o.Perm o':=(agv n n').mpr fun i=>by
 have h1:=ip o i;have h2:=ip o' i;rw [e,h2] at h1;exact (aeV.mp h1).symm
theorem rA {o:List Nat}{n:Nat}(h:∀ i∈o,i < n):aU o < 2 ^ n:=Nat.lt_pow_two_of_testBit _ fun i hi=>by
 rw [ip];exact ad4 fun z=>by have:=h i z;lia
theorem vB (a b:Nat):Builtin.bitOr (a:Int) (b:Int)=((a ||| b:Nat):Int):=by
 unfold Builtin.bitOr Builtin.bitAnd Builtin.bitNot;have h1:decide (0<=(-(a:Int) - 1))=false:=ad4 (by lia);have h2:decide (0<=(-(b:Int) - 1))=false:=ad4 (by lia);simp only [h1,h2];have e1:(-(-(a:Int) - 1) - 1)=(a:Int):=by lia
 have e2:(-(-(b:Int) - 1) - 1)=(b:Int):=by lia
 simp only [e1,e2,aek];lia
theorem xg (o:List Nat)(i:Nat):Builtin.bitAnd (((aU o:Nat):Int) / 2 ^ ((i:Int)).toNat) 1=if i∈o then 1 else 0:=by
 rw [bitAnd_m1,aek];have e:((aU o:Nat):Int) / 2 ^ i % 2=(((aU o) / 2 ^ i % 2:Nat):Int):=by simp
 rw [e];have t:=ip o i;rw [Nat.testBit_eq_decide_div_mod_eq] at t;have t':=aeV.mp t;by_cases h:i∈o
 ·rw [if_pos h,t'.mpr h];rfl
 ·rw [if_neg h];have:aU o / 2 ^ i % 2≠1:=fun z=>h (t'.mp z);have:aU o / 2 ^ i % 2=0:=by lia
  rw [this];rfl
structure acT (h:Hs)(ks:List Str):Prop where
 nd:ks.Nodup
 mem:∀ k,k∈ks↔∃ r∈h.2,k∈r.1
 few:ks.length<=63
def fB (ks hand:List Str):List Int:=ks.map fun k=>((hand.count k:Nat):Int)
def kAt (ks:List Str)(p:Nat):Str:=(ks[p]?).getD ""
def dZ (ks:List Str)(r:Rm):List (Nat×Int):=((List.range ks.length).filter fun p=>decide (kAt ks p∈r.1)).map fun p=>(p,((r.1.count (kAt ks p):Nat):Int))
def acJ (r:Rm)(k:Str):Int:=((r.2.count k:Nat):Int) - ((r.1.count k:Nat):Int)
def chB (ks:List Str)(r:Rm)(p:Nat):Bool:=decide (kAt ks p∈r.1) || decide (kAt ks p∈r.2)
def acw (ks:List Str)(r:Rm)(m:Nat):List (Nat×Int):=((List.range m).filter (chB ks r)).map fun p=>(p,acJ r (kAt ks p))
def jz (ks:List Str)(r:Rm):List (Nat×Int):=acw ks r ks.length
theorem vQ {ks:List Str}{p:Nat}(h:p < ks.length):ks[p]? = some (kAt ks p):=by
 unfold kAt;rw [adD h]
 rfl
theorem aaK {ks:List Str}{k:Str}(h:k∈ks):∃ p,p < ks.length/\kAt ks p=k:=by
 obtain⟨p,hp,e⟩:=List.getElem_of_mem h;refine⟨p,hp,?_⟩;unfold kAt;rw [adD hp,e]
 rfl
theorem rh {ks hand:List Str}{p:Nat}(h:p < ks.length):(fB ks hand)[p]? = some ((hand.count (kAt ks p):Nat):Int):=by
 unfold fB;rw [adK,vQ h]
 rfl
theorem oG (ks hand:List Str):(fB ks hand).length=ks.length:=by unfold fB;rw [adG]
theorem vC {ks hand:List Str}{r:Rm}(s:∀ k∈r.1,k∈ks):(∀ c∈dZ ks r,c.2<=((hand.count (kAt ks c.1):Nat):Int))↔jV hand r.1=true:=by
 unfold jV;rw [aes];constructor
 ·intro h k hk;obtain⟨p,hp,e⟩:=aaK (s k hk);have:=h (p,((r.1.count (kAt ks p):Nat):Int)) (ad5.mpr ⟨p,aeA.mpr ⟨ae1.mpr hp,adY (by rw [e];exact hk)⟩,rfl⟩);rw [e] at this;exact adY (by simpa using this)
 ·intro h c hc;obtain⟨p,hp,rfl⟩:=ad5.mp hc;have:=aeZ (h _ (aeZ (aeA.mp hp).2));simpa using this
def xQ (v:List Int)(cs:List (Nat×Int)):List Int:=cs.foldl (fun v c=>v.set c.1 (v.getD c.1 0+c.2)) v
theorem qE (v:List Int)(cs:List (Nat×Int))(c:Nat×Int):xQ v (cs++[c])=(xQ v cs).set c.1 ((xQ v cs).getD c.1 0+c.2):=by
 unfold xQ;rw [af3]
 rfl
theorem tM (v:List Int):∀ cs:List (Nat×Int),(xQ v cs).length=v.length:=by
 have go:∀ (cs:List (Nat×Int)) (v:List Int),(cs.foldl (fun v c=>v.set c.1 (v.getD c.1 0+c.2)) v).length=v.length:=fun cs=>by
  induction cs with
  | nil=>intro v;rfl
  | cons c cs ih=>intro v;rw [agp,ih,ahb]
 exact fun cs=>go cs v
theorem ab0 {ks:List Str}{r:Rm}(v:List Int)(hv:v.length=ks.length):∀ m,m<=ks.length->∀ p:Nat,(xQ v (acw ks r m))[p]? = if p < m/\chB ks r p=true then (v[p]?).map (· + acJ r (kAt ks p)) else v[p]?
 | 0,_,p=>by rw [if_neg (by lia)];rfl
 | m+1,hm,p=>by
  have ih:=ab0 (r:=r) v hv m (by lia);unfold acw at ih ⊢;rw [afg,aen,adW];cases hc:chB ks r m with
  | false =>
   have e:[m].filter (chB ks r)=[]:=by simp [hc]
   rw [e,ahc,aew,ih p];by_cases h1:p < m/\chB ks r p=true
   ·rw [if_pos h1,if_pos ⟨by lia,h1.2⟩]
   ·rw [if_neg h1,if_neg];rintro⟨a,b⟩;by_cases z:p=m
    ·subst z;rw [hc] at b;cases b
    ·exact h1 ⟨by lia,b⟩
  | true =>
   have e:[m].filter (chB ks r)=[m]:=by simp [hc]
   rw [e,agz,qE];have hml:m < v.length:=by lia
   have im:=ih m;rw [if_neg (by lia)] at im;by_cases z:p=m
   ·subst z;rw [afy (by rw [tM];exact hml),if_pos ⟨by lia,hc⟩,aeW,im,adD hml]
    rfl
   ·rw [afJ (fun y=>z y.symm),ih p];by_cases h1:p < m/\chB ks r p=true
    ·rw [if_pos h1,if_pos ⟨by lia,h1.2⟩]
    ·rw [if_neg h1,if_neg];rintro⟨a,b⟩;exact h1 ⟨by lia,b⟩
theorem yY {ks hand:List Str}{r:Rm}(m:jV hand r.1=true):xQ (fB ks hand) (jz ks r)=fB ks (kF hand r):=by
 apply List.ext_getElem?;intro p;unfold jz;rw [ab0 _ (oG ks hand) _ (adL _)];by_cases hp:p < ks.length
 ·rw [rh hp,rh hp];have cnt:(kF hand r).count (kAt ks p)=hand.count (kAt ks p) - r.1.count (kAt ks p)+r.2.count (kAt ks p):=by
   unfold kF;rw [afG,fw]
  have le:r.1.count (kAt ks p)<=hand.count (kAt ks p):=by
   by_cases hk:kAt ks p∈r.1
   ·unfold jV at m;rw [aes] at m;exact aeZ (m _ hk)
   ·rw [ae8 hk];exact ad7 _
  rw [cnt];by_cases hb:chB ks r p=true
  ·rw [if_pos ⟨hp,hb⟩];have e:((hand.count (kAt ks p) - r.1.count (kAt ks p)+r.2.count (kAt ks p):Nat):Int)=((hand.count (kAt ks p):Nat):Int)+(((r.2.count (kAt ks p):Nat):Int) - ((r.1.count (kAt ks p):Nat):Int)):=by lia
   rw [e]
   rfl
  ·rw [if_neg (fun z=>hb z.2)];unfold chB at hb;rw [ahg,afm,afm,not_or] at hb;rw [ae8 hb.1,ae8 hb.2];simp
 ·rw [if_neg (fun z=>hp z.1),af7 (by rw [oG];lia),af7 (by rw [oG];lia)]
def ac4 (s:Stmt):Expr:=match s with
 | .Assign _ e _=>e
 | _=>.Name "" ⟨0,0,0,0⟩
def si (s:Stmt):List Stmt:=match s with
 | .ClassDef _ _ _ b _ _ _ _ _ _ _=>b
 | _=>[]
abbrev aM:Stmt:=(si (top 24)).getD 0 (.Pass ⟨0,0,0,0⟩)
abbrev dc:Stmt:=(si (top 24)).getD 1 (.Pass ⟨0,0,0,0⟩)
abbrev aN:Stmt:=(si (top 24)).getD 3 (.Pass ⟨0,0,0,0⟩)
theorem ar {H:Hp}{l:Addr}{o:HO}(n:H l=none):Same H (upd H l o):=fun b u e=>by rw [aj (aq e n)];exact e
structure qN (K:PySem.W.Frag)(C:Addr):Prop where
 cls:Cls K C
 n1:NoAttr K C "at_first"
 n2:NoAttr K C "wants"
 n3:NoAttr K C "changes"
def PairsAt (H:Hp)(v:V)(cs:List (Nat×Int)):Prop:=∃ (a:Addr) (vs:List V),v=.ref a/\H a=some (.lst vs)/\vs.length=cs.length/\∀ (i:Nat) (x:V) (c:Nat×Int),vs[i]? = some x->cs[i]? = some c->∃ t:Addr,x=.ref t/\H t=some (.tup [.int ((c.1:Nat):Int),.int c.2])
theorem PairsAt.same {H H':Hp}{v:V}{cs:List (Nat×Int)}(s:Same H H')(p:PairsAt H v cs):PairsAt H' v cs:=by
 obtain⟨a,vs,e,h,l,f⟩:=p;exact⟨a,vs,e,s _ _ h,l,fun i x c a b=>(f i x c a b).imp fun t z=>⟨z.1,s _ _ z.2⟩⟩
def RowsP (H:Hp)(a:Addr)(cs:List (List (Nat×Int))):Prop:=∃ vs:List V,H a=some (.lst vs)/\vs.length=cs.length/\∀ (i:Nat) (x:V) (c:List (Nat×Int)),vs[i]? = some x->cs[i]? = some c->PairsAt H x c
theorem RowsP.same {H H':Hp}{a:Addr}{cs:List (List (Nat×Int))}(s:Same H H')(p:RowsP H a cs):RowsP H' a cs:=by
 obtain⟨vs,h,l,f⟩:=p;exact⟨vs,s _ _ h,l,fun i x c a b=>(f i x c a b).same s⟩
inductive DoorsAt (C:Addr)(H:Hp)(d:Addr)(h:Hs)(ks:List Str):Prop
 | mk (dx l w c:Addr) (fs:List (Str×V)):H d=some (.ins C dx fs)->fs.lookup ("at_first" : Str)=some (.ref l)->fs.lookup ("wants" : Str)=some (.ref w)->fs.lookup ("changes" : Str)=some (.ref c)->fs.lookup ("hand_with" : Str)=none->fs.lookup ("next_behind" : Str)=none →
  H l=some (.lst ((fB ks h.1).map V.int))->RowsP H w (h.2.map (dZ ks))->RowsP H c (h.2.map (jz ks))->DoorsAt C H d h ks
theorem DoorsAt.same {C:Addr}{H H':Hp}{d:Addr}{h:Hs}{ks:List Str}(s:Same H H')(p:DoorsAt C H d h ks):DoorsAt C H' d h ks:=by
 obtain⟨dx,l,w,c,fs,h1,h2,h3,h4,h5,h6,h7,h8,h9⟩:=p;exact⟨dx,l,w,c,fs,s _ _ h1,h2,h3,h4,h5,h6,s _ _ h7,h8.same s,h9.same s⟩
def oy:Sp:=fun vs H Q _=>∃ (m i:Nat),vs=[.int (m:Int),.int (i:Int)]/\i<=1000/\∀ H',Same H H'->Q (.int ((m ||| 2 ^ i:Nat):Int)) H'
def aca:Sp:=fun vs H Q _=>∃ (o:List Nat) (i:Nat),vs=[.int ((aU o:Nat):Int),.int (i:Int)]/\∀ H',Same H H'->Q (.bl (decide (i∈o))) H'
def vI (C:Addr):Sp:=fun vs H Q _=>∃ (d a:Addr) (i:Nat) (h:Hs) (ks hand:List Str) (r:Rm),vs=[.ref d,.ref a,.int (i:Int)]/\DoorsAt C H d h ks/\h.2[i]? = some r/\H a=some (.lst ((fB ks hand).map V.int))/\jV hand r.1=true/\h.2.length<=1000/\ks.length<=63/\∀ b H',Same H H'->H b=none->H' b=some (.lst ((fB ks (kF hand r)).map V.int))->Q (.ref b) H'
inductive HwI (d a b:Addr)(i:Nat)(hand ks:List Str)(r:Rm)(H:Hp)(j:Nat)(σ:L2.St)(H':Hp):Prop
 | mk (x4 x5:Option V):σ=[some (.ref d),some (.ref a),some (.int (i:Int)),some (.ref b),x4,x5]->H' b=some (.lst ((xQ (fB ks hand) ((jz ks r).take j)).map V.int))->Same H H'->HwI d a b i hand ks r H j σ H'
section
variable {P:Program}{w:World}{K:PySem.W.Frag}{mg:Str->Option Value}{base:Heap}
theorem qg:aA ["opened","number"] ["opened","number"] (ai gZ):=scM rfl rfl rfl rfl (by decide +kernel)
theorem aaV {f:Addr}{fd:FuncData}(F:Fun K "with_room" "with_room" gZ f fd):FnOk P w K mg base CX0 1 f fd ["opened","number"] oy:=by
 refine F.ok qg (fun vs H Q E h=>?_) (fun cdv A outer s H vs Q E hr h=>?_)
 ·obtain⟨m,i,rfl,_⟩:=h
  rfl
 ·have hu:=dO hr;obtain⟨m,i,rfl,hi,q⟩:=h;refine⟨_,(ao (aH (aP acv (pv 0) (aP zw ak (pv 1))))),?_⟩;have e:(m ||| 2 ^ i:Nat)=(Builtin.bitOr (m:Int) (1 * 2 ^ (i:Int).toNat)):=by
   rw [aek,Int.one_mul,show ((2:Int) ^ i)=((2 ^ i:Nat):Int) by simp,vB]
  refine⟨_,rfl,_,rfl,1,(i:Int),rfl,rfl,⟨by lia,by lia,by decide⟩,(m:Int),_,rfl,rfl,?_⟩;have:=q H (Same.refl H);rw [e] at this;exact this
theorem sj:aA ["opened","number"] ["opened","number"] (ai i3):=scM rfl rfl rfl rfl (by decide +kernel)
theorem abh {f:Addr}{fd:FuncData}(F:Fun K "has_room" "has_room" i3 f fd):FnOk P w K mg base CX0 1 f fd ["opened","number"] aca:=by
 refine F.ok sj (fun vs H Q E h=>?_) (fun cdv A outer s H vs Q E hr h=>?_)
 ·obtain⟨m,i,rfl,_⟩:=h
  rfl
 ·have hu:=dO hr;obtain⟨o,i,rfl,q⟩:=h;refine⟨_,(ao (aH (gW vg (aP abU (aP abl (pv 0) (pv 1)) ak) ak (bo _)))),?_⟩;refine⟨_,rfl,_,rfl,_,_,rfl,rfl,by lia,_,_,rfl,rfl,rfl,?_⟩;have e:decide (V.int (Builtin.bitAnd (((aU o:Nat):Int) / 2 ^ ((i:Int)).toNat) 1)=V.int 1)=decide (i∈o):=by
   by_cases hi:i∈o
   ·rw [adY hi,xg,if_pos hi];exact adY rfl
   ·rw [ad4 hi,xg,if_neg hi];exact ad4 (fun z=>by cases z)
  have:=q H (Same.refl H);rw [← e] at this;exact this
theorem cu:aA ["self","hand","number","behind","place","change"] ["self","hand","number"] (ai dc):=scM rfl rfl rfl rfl (by decide +kernel)
theorem y3 {f:Addr}{fd:FuncData}{C:Addr}(F:Fun K "hand_with" "Doors.hand_with" dc f fd)(DC:qN K C)(bj:mg "list" = none):FnOk P w K mg base CX0 1 f fd ["self","hand","number"] (vI C):=by
 refine F.ok cu (fun vs H Q E h=>?_) (fun cdv A outer s H vs Q E hr h=>?_)
 ·obtain⟨d,a,i,h,ks,hand,r,rfl,_⟩:=h
  rfl
 ·have hu:=dO hr;obtain⟨d,a,i,h,ks,hand,r,rfl,D,hi,ha,hm,hl,hk,q⟩:=h;refine⟨_,(ag (ay (i:=3) cu.nd rfl (.inl rfl) (dU fv rfl bj (by decide +kernel) (ae (pv 1) ah)))
   (ag (bc (cX aeh rfl (aX (bW bR (vZ (pv 0) rfl) (pv 2) (fun _ _=>rfl))) (kh rfl (aF (au (i:=4) cu.nd rfl (.inl rfl)) (aF (au (i:=5) cu.nd rfl (.inl rfl)) c6)))
    (ao (aas (pv 3) (pv 4) yt (pv 5) vX ju))))
   (ao (aH (pv 3))))),?_⟩
  refine⟨_,rfl,a,_,rfl,.inl (aAA ha),fun b nb=>?_⟩;obtain⟨dx,l,w',c,fs,h1,h2,h3,h4,h5,h6,h7,h8,vs,h9,hvl,hvs⟩:=D;have hiv:i < vs.length:=by have:=(adF.mp hi).1;rw [hvl,adG];exact this
  obtain⟨ca,us,ev,hca,ul,hus⟩:=hvs i vs[i] (jz ks r) (adD hiv) (by rw [adK,hi];rfl);have s1:Same H (upd H b (.lst ((fB ks hand).map V.int))):=ar nb;have e1:(upd H b (.lst ((fB ks hand).map V.int))) b=some (.lst ((fB ks hand).map V.int)):=af;generalize upd H b (.lst ((fB ks hand).map V.int))=H1 at *;have cb:ca≠b:=aq hca nb;refine⟨HwI d a b i hand ks r H us.length,?_,?_⟩
  ·rintro σ H2 ⟨x4,x5,rfl,e2,s2⟩;rw [ul,aem,yY hm] at e2;exact⟨_,rfl,q b H2 s2 nb e2⟩
  ·refine⟨_,rfl,d,C,dx,fs,_,rfl,s1 _ _ h1,DC.cls,DC.n3,h4,_,rfl,c,vs,_,_,rfl,rfl,aAA (s1 _ _ h9),cC (adD hiv),ca,ev,⟨_,aAA (s1 _ _ hca)⟩,?_⟩;refine dJ (xs:=us) (fun j σ' H'=>HwI d a b i hand ks r H j σ' H') ⟨none,none,rfl,e1,s1⟩ (fun j σ H' _ ⟨_,_,_,_,sm⟩=>aAA (sm _ _ hca)) ?_ (fun σ H' z=>z);rintro j x σ H2 hx ⟨x4,x5,rfl,e2,s2⟩;have hj:j < (jz ks r).length:=by rw [← ul];exact (adF.mp hx).1
   obtain⟨t,rfl,ht⟩:=hus j x _ hx (adD hj);generalize ec:(jz ks r)[j]=cc at *;have tk:(jz ks r).take (j+1)=(jz ks r).take j++[cc]:=by rw [aee,adD hj,ec];rfl
   have hp:cc.1 < ks.length:=by
    have:cc∈jz ks r:=by rw [← ec];exact aeo hj
    obtain⟨p,hp,rfl⟩:=ad5.mp this;exact ae1.mp (aeA.mp hp).1
   have vl:(xQ (fB ks hand) ((jz ks r).take j)).length=ks.length:=by rw [tM,oG]
   refine⟨t,_,rfl,aAB (s2 _ _ ht),rfl,?_⟩;have hg:((xQ (fB ks hand) ((jz ks r).take j)).map V.int)[cc.1]? = some (.int ((xQ (fB ks hand) ((jz ks r).take j)).getD cc.1 0)):=by
    rw [adK,aeW,adD (by rw [vl];exact hp)]
    rfl
   refine⟨_,_,rfl,_,_,rfl,rfl,?_⟩;refine⟨_,rfl,_,rfl,b,_,cc.1,_,rfl,rfl,aAA e2,hg,_,rfl,_,_,rfl,rfl,b,_,_,cc.1,rfl,rfl,e2,?_,?_⟩
   ·unfold ixN;rw [if_pos (by lia),if_pos (by rw [adG,vl];lia)];simp
   ·refine⟨_,_,rfl,?_,fun z u e=>?_⟩
    ·rw [af,tk,qE,ait]
    ·rw [aj (aq e nb)];exact s2 _ _ e
theorem oU:lettersS.cps.toList=List.range' 97 26:=by decide +kernel
theorem uB (r:Nat)(h:r < 26):atI lettersS.cps.toList (r:Int)=some (97+r):=cC (by rw [oU,List.getElem?_range' h];simp)
theorem rG:lettersS.length<=sizeLine:=by decide
theorem aaQ {z:Str}(h:1<=z.cps.toList.length/\z.cps.toList.length<=4/\∀ c∈z.cps.toList,97<=c/\c<=122):dW z:=by
 obtain⟨h1,h2,h3⟩:=h;have e:z.cps.toList.length=z.length:=aec;exact⟨by lia,by lia,h3⟩
def ym (z:Str):Bool:=decide (1<=z.length) && decide (z.length<=4) && z.cps.toList.all fun c=>decide (97<=c) && decide (c<=122)
theorem zq {z:Str}(h:ym z=true):dW z:=by
 unfold ym at h;rw [aei,aei,aeD,aeD,aes] at h;refine⟨h.1.1,h.1.2,fun c hc=>?_⟩;have:=h.2 c hc;rw [aei,aeD,aeD] at this;exact this
theorem xn {l:List Str}(h:l.all ym=true):∀ k∈l,dW k:=fun k hk=>zq (aes.mp h k hk)
theorem acr {xs:List Str}{r:Int}(h0:0<=r)(h1:r < xs.length):∃ m∈xs,atI (xs.map V.str) r=some (.str m):=by
 obtain⟨j,rfl⟩:∃ j:Nat,r=(j:Int):=⟨r.toNat,by lia⟩;have hj:j < xs.length:=by lia
 exact⟨xs[j],aeo hj,cC (by rw [adK,adD hj];rfl)⟩
theorem aD {p:Addr}{H H':Hp}(s:Same H H'):But p H H':=fun b u _ e=>s b u e
def PoolD (H:Hp)(p:Addr):Prop:=∃ a f c:Int,H p=some (.lst [.int a,.int f,.int c])
theorem PoolD.same {H H':Hp}{p:Addr}(d:PoolD H p)(s:Same H H'):PoolD H' p:=let ⟨a,f,c,e⟩:=d;⟨a,f,c,s _ _ e⟩
theorem PoolD.ne {H:Hp}{p q:Addr}(d:PoolD H p)(n:H q=none):q≠p:=fun z=>by
 obtain⟨_,_,_,e⟩:=d;rw [← z,n] at e;cases e
def xY (K:PySem.W.Frag):Sp:=fun vs H Q _=>∃ (a:Addr) (k:Nat) (ns:List Int),vs=[.ref a,.int k]/\SqL K H a (ns.map V.int)/\∀ p H',H p=none->Same H H'->PoolD H' p->Q (.ref p) H'
def nr:Sp:=fun vs H Q _=>∃ (p:Addr) (n:Int),vs=[.ref p,.int n]/\PoolD H p/\0 < n/\n<=10000000000000000000000000000000000000000/\∀ (r:Int) (H':Hp),0<=r->r < n->PoolD H' p->But p H H'->Q (.int r) H'
theorem hW:aA ["script","k","cell"] ["script","k"] (ai hV):=scM rfl rfl rfl rfl (by decide +kernel)
theorem dR:aA ["pool","many","found","x"] ["pool","many"] (ai hJ):=scM rfl rfl rfl rfl (by decide +kernel)
theorem yR {f:Addr}{fd:FuncData}(F:Fun K "_law_pool" "_law_pool" hV f fd)(cI:mg "len" = none)(mX:mg "int" = none):FnOk P w K mg base CX0 1 f fd ["script","k"] (xY K):=by
 refine F.ok hW (fun vs H Q E h=>?_) (fun cdv A outer s H vs Q E hr h=>?_)
 ·obtain⟨a,k,ns,rfl,_⟩:=h
  rfl
 ·obtain⟨a,k,ns,rfl,ha,q⟩:=h;refine⟨_,(ag (ay (i:=2) hW.nd rfl (.inl rfl) ak)
   (ag (bc (dN (aJ zj (pv 1) (aw aB rfl cI aep (ae (pv 0) ah)) (bo _))
    (ao (ay (i:=2) hW.nd rfl (.inl rfl) (bW bR (pv 0) (pv 1) (fun _ _=>rfl)))) aS))
   (ao (aH (cg (ae (pv 2) (ae (dU qD rfl mX (by decide +kernel) (ae (gW aaZ (pv 2) (aP tI ak ak) (bo _)) ah)) (ae (aP qv ak (pv 1)) ah)))))))),?_⟩
  refine⟨fun σ H'=>∃ x:Int,σ=[some (.ref a),some (.int k),some (.int x)]/\H'=H,?_,?_⟩
  ·rintro σ H' ⟨x,rfl,rfl⟩;refine⟨_,rfl,_,rfl,10,18,rfl,rfl,⟨by decide,by decide,by decide⟩,_,_,rfl,rfl,.inr ⟨_,rfl,?_⟩⟩;refine⟨_,rfl,53,k,rfl,rfl,.inl ⟨by decide,by decide⟩,(by show 3<=sizeLine;decide),fun l hl=>?_⟩;exact q l _ hl (ar hl) ⟨_,_,_,af⟩
  ·refine⟨_,rfl,_,rfl,a,_,rfl,.inl ha,_,_,rfl,rfl,_,rfl,acg (fun hlt=>?_) (fun _=>⟨0,rfl,rfl⟩)⟩;have hlt':k < ns.length:=by
    have z:=aeZ hlt;rw [adG] at z;lia
   exact⟨_,rfl,_,rfl,a,_,_,.int ns[k],rfl,rfl,ha,cC (by rw [adK,adD hlt'];rfl),_,rfl,rfl⟩
theorem aa3 {f:Addr}{fd:FuncData}(F:Fun K "_law_draw" "_law_draw" hJ f fd):FnOk P w K mg base CX0 1 f fd ["pool","many"] nr:=by
 refine F.ok dR (fun vs H Q E h=>?_) (fun cdv A outer s H vs Q E hr h=>?_)
 ·obtain⟨p,n,rfl,_⟩:=h
  rfl
 ·obtain⟨p,n,rfl,⟨a,f',c,hp⟩,n0,n1,q⟩:=h;refine⟨_,(ag (bc (dN (aJ vg (bW bR (pv 0) ak (fun _ _=>rfl)) ak (bo _))
   (ag (ay (i:=2) dR.nd rfl (.inl rfl) (aP oq (bW bR (pv 0) ak (fun _ _=>rfl)) (pv 1)))
   (ag (nz (aP tU (bW bR (pv 0) ak (fun _ _=>rfl)) (pv 1)) (tE (pv 0) ak ju))
   (ao (aH (pv 2))))) aS))
   (ag (nz (aP g0 (bW bR (pv 0) ak (fun _ _=>rfl)) ak) (tE (pv 0) ak ju))
   (ag (ay (i:=3) dR.nd rfl (.inl rfl) (aP oq (aP g0 (aP oq (bW bR (pv 0) ak (fun _ _=>rfl)) ak) (aP qv ak (bW bR (pv 0) ak (fun _ _=>rfl)))) ak))
   (ag (ay (i:=3) dR.nd rfl (.inl rfl) (aP oq (aP qv (pv 3) (pv 3)) ak))
   (ag (ay (i:=3) dR.nd rfl (.inl rfl) (aP oq (aP qv (aP g0 (pv 3) ak) (pv 3)) ak))
   (ao (aH (aP oq (aP tU (pv 3) ak) (pv 1))))))))),?_⟩
  have md:∀ x:Int,0<=x % n/\x % n < n:=fun x=>⟨ahl _ (by lia),agA _ n0⟩;refine⟨fun σ H'=>σ=[some (.ref p),some (.int n),none,none]/\H'=H,?_,?_⟩
  ·rintro σ H' ⟨rfl,rfl⟩;refine⟨_,rfl,p,_,2,.int c,rfl,rfl,aAA hp,rfl,c,1,rfl,rfl,?_⟩;refine⟨_,rfl,p,_,2,2,rfl,rfl,hp,rfl,?_⟩;have hp1:(upd H' p (.lst [.int a,.int f',.int (c+1)])) p=some (.lst [.int a,.int f',.int (c+1)]):=af;have b1:But p H' (upd H' p (.lst [.int a,.int f',.int (c+1)])):=.upd;show _;refine⟨_,rfl,p,_,0,.int a,rfl,rfl,aAA hp1,rfl,a,999999999989,rfl,rfl,(by show (0:Int) < 999999999989;decide),?_⟩;refine⟨_,rfl,p,_,2,.int (c+1),rfl,rfl,aAA hp1,rfl,810083,c+1,rfl,rfl,.inl ⟨by decide,by decide⟩,_,_,rfl,rfl,_,_,rfl,rfl,(by show (0:Int) < 999999999989;decide),?_⟩;have x0:=ahl (a % 999999999989+810083 * (c+1)) (by decide:(999999999989:Int)≠0);have x1:=agA (a % 999999999989+810083 * (c+1)) (by decide:(0:Int) < 999999999989);generalize hx:(a % 999999999989+810083 * (c+1)) % 999999999989=x at *;refine⟨_,rfl,_,rfl,x,x,aeu V.int hx,aeu V.int hx,.inl ⟨by lia,by lia⟩,_,_,rfl,rfl,(by show (0:Int) < 1000000000039;decide),?_⟩;have y0:=ahl (x * x) (by decide:(1000000000039:Int)≠0);have y1:=agA (x * x) (by decide:(0:Int) < 1000000000039);generalize hy:x * x % 1000000000039=y at *;refine⟨_,rfl,y,390001,aeu V.int hy,rfl,_,rfl,_,y,rfl,aeu V.int hy,.inr ⟨by lia,by lia⟩,_,_,rfl,rfl,(by show (0:Int) < 999999999961;decide),?_⟩;refine⟨_,rfl,_,_,rfl,rfl,⟨by decide,by decide⟩,_,rfl,_,n,rfl,rfl,n0,?_⟩;exact q _ _ (md _).1 (md _).2 ⟨_,_,_,hp1⟩ b1
  ·refine⟨_,rfl,p,_,1,.int f',rfl,rfl,aAA hp,rfl,rfl,_,rfl,acg (fun _=>?_) (fun _=>⟨rfl,rfl⟩)⟩;refine⟨_,rfl,p,_,0,.int a,rfl,rfl,aAA hp,rfl,_,rfl,a,n,rfl,rfl,n0,?_⟩;refine⟨_,rfl,p,_,0,.int a,rfl,rfl,aAA hp,rfl,_,rfl,a,n,rfl,rfl,⟨n0,n1⟩,?_⟩;refine⟨_,rfl,p,_,0,0,rfl,rfl,hp,rfl,?_⟩;refine⟨_,rfl,?_⟩;exact q _ _ (md _).1 (md _).2 ⟨_,_,_,af⟩ .upd
def tH:Sp:=fun vs H Q _=>∃ (p kl:Addr) (n:Nat) (U:List Str),vs=[.ref p,.int n,.ref kl]/\PoolD H p/\n<=1000/\H kl=some (.lst (U.map V.str))/\U≠[]/\U.length<=1000 ∧
 ∀ (D:Addr) (ks:List Str) (H':Hp),H D=none->H' D=some (.lst (ks.map V.str))->ks.length=n->(∀ k∈ks,k∈U)->PoolD H' p->But p H H'->Q (.ref D) H'
theorem rn {H:Hp}{p kl:Addr}{U:List Str}(d:PoolD H p)(e:H kl=some (.lst (U.map V.str)))(ne:U≠[]):kl≠p:=fun z=>by
 obtain⟨_,_,_,e2⟩:=d;rw [← z,e] at e2;cases U with
 | nil=>exact ne rfl
 | cons a r=>cases e2
theorem xp:∀ {ys:List V} {U:List Str},(∀ y∈ys,∃ z∈U,y=V.str z)->∃ ss:List Str,ys=ss.map V.str/\∀ x∈ss,x∈U
 | [],_,_=>⟨[],rfl,fun _ h=>nomatch h⟩
 | y::ys,U,h=>by
  obtain⟨ss,rfl,k⟩:=xp (U:=U) fun z hz=>h z (adN _ hz);obtain⟨c,hc,rfl⟩:=h y adV;refine⟨c::ss,rfl,fun x hx=>?_⟩;rcases adO.mp hx with z | z
  ·rw [z];exact hc
  ·exact k x z
theorem oz:aA ["pool","many","kinds"] ["pool","many","kinds"] (ai eh):=scM rfl rfl rfl rfl (by decide +kernel)
theorem ma:(["k","kinds","pool"]:List Str).Nodup:=by decide +kernel
theorem wg {f fD:Addr}{fd fdD:FuncData}(F:Fun K "_law_kinds" "_law_kinds" eh f fd)(az:FnOk P w K mg base CX0 1 fD fdD ["pool","many"] nr)(ax:Cal K mg "_law_draw" ["pool","many"] fD fdD)(cI:mg "len" = none)(bU:mg "range" = none):FnOk P w K mg base CX0 2 f fd ["pool","many","kinds"] tH:=by
 refine F.ok oz (fun vs H Q E h=>?_) (fun cdv A outer s H vs Q E hr h=>?_)
 ·obtain⟨p,kl,n,U,rfl,_⟩:=h
  rfl
 ·have hu:=dO hr;obtain⟨p,kl,n,U,rfl,dk,n1,hk,ne,ul,q⟩:=h;refine⟨_,(ao (aH (kI (tg:=.Name "k" _) (outer:=ai (eh)) (N:=["pool","many","kinds"]) (N':=["k","kinds","pool"]) (nl:=1) (ix:=[2,0]) rfl rfl rfl (eQ rfl bU (ae (pv 1) ah))
   (fun _ _ _ _=>(au (i:=0) ma rfl (.inl rfl) (.inr rfl))) (fun _ _ _ _=>dA)
   (fun _ _ _ _=>(bW (pE (K:=K) rfl) (pv 1) (pcl az ax hr rfl (ae (pv 2) (ae (aw (lV (K:=K) rfl) rfl cI aep (ae (pv 1) ah)) ah))) (fun _ _=>rfl)))))),?_⟩
  dsimp only [zK];refine aQ _ _ _ _ _ _ _ _ _ ?_;refine⟨_,rfl,(n:Int),rfl,by lia,by lia,fun D nD=>?_⟩;rw [aek];have neD:=dk.ne nD;have nek:=rn dk hk ne;have lim:1000000 < sizeLine:=by decide
  have s0:Same H (upd H D (.lst [])):=ar nD;refine uC (n:=n) (fun i ys H'=>ys.length=i/\(∀ y∈ys,∃ z∈U,y=V.str z)/\H' D=some (.lst ys)/\PoolD H' p/\But p H H') ⟨rfl,fun _ h=>(nomatch h),af,dk.same s0,aD s0⟩ (fun i ys H' ⟨_,_,h,_⟩=>h) ?_ ?_
  ·rintro i ys H2 hi ⟨yl,al,hD,dk2,b2⟩;refine fh rfl ?_;have hk2:=b2 _ _ nek hk;refine⟨_,rfl,_,rfl,_,rfl,kl,_,rfl,.inl (aAA hk2),p,(U.length:Int),?_,dk2,?_,?_,fun r H3 r0 r1 dk3 b3=>?_⟩
   ·rw [adG];rfl
   ·have:=List.length_pos_iff.mpr ne;lia
   ·lia
   ·obtain⟨m,hm,em⟩:=acr (xs:=U) r0 r1;refine⟨kl,_,r,_,rfl,rfl,aAA (b3 _ _ nek hk2),em,b3 _ _ neD hD,by lia,nx hi ⟨by rw [adI,yl];rfl,fun y hy=>?_,af,?_,(b2.trans b3).new nD⟩⟩
    ·rcases ad6.mp hy with h | h
     ·exact al y h
     ·rw [adT] at h;exact⟨m,hm,h⟩
    ·obtain⟨a,f',c,e⟩:=dk3;exact⟨a,f',c,by rw [aj (aeL neD)];exact e⟩
  ·rintro ys H2 ⟨yl,al,hD,dk2,b2⟩;obtain⟨ks,rfl,hks⟩:=xp al;rw [adG] at yl;exact q D ks H2 nD hD yl hks dk2 b2
def tN:Sp:=fun vs H Q _=>∃ (p:Addr),vs=[.ref p]/\PoolD H p/\∀ (D:Addr) (U:List Str) (H':Hp),H D=none->H' D=some (.lst (U.map V.str))->U≠[]->U.length<=16->(∀ k∈U,dW k)->PoolD H' p->But p H H'->Q (.ref D) H'
inductive DwI (p l:Addr)(H:Hp)(i:Nat)(σ:L2.St)(H':Hp):Prop
 | mk (U:List Str) (x2 x3 x4:Option V):σ=[some (.ref p),some (.ref l),x2,x3,x4]->H' l=some (.lst (U.map V.str))->U.length<=i->(0 < i->U≠[])->(∀ k∈U,dW k)->PoolD H' p->But p H H'->DwI p l H i σ H'
inductive DvI (p l:Addr)(H:Hp)(U:List Str)(x2:Option V)(i:Nat)(σ:L2.St)(H':Hp):Prop
 | mk (z:Str) (x4:Option V):σ=[some (.ref p),some (.ref l),x2,some (.str z),x4]->z.cps.toList.length=i->(∀ c∈z.cps.toList,97<=c/\c<=122)->H' l=some (.lst (U.map V.str))->PoolD H' p->But p H H'->DvI p l H U x2 i σ H'
theorem cM:aA ["pool","found","k","word","s"] ["pool"] (ai gp):=scM rfl rfl rfl rfl (by decide +kernel)
theorem xC {f fD:Addr}{fd fdD:FuncData}(F:Fun K "_law_words" "_law_words" gp f fd)(az:FnOk P w K mg base CX0 1 fD fdD ["pool","many"] nr)(ax:Cal K mg "_law_draw" ["pool","many"] fD fdD)(bU:mg "range" = none):FnOk P w K mg base CX0 2 f fd ["pool"] tN:=by
 refine F.ok cM (fun vs H Q E h=>?_) (fun cdv A outer s H vs Q E hr h=>?_)
 ·obtain⟨p,rfl,_⟩:=h
  rfl
 ·have hu:=dO hr;obtain⟨p,rfl,dk,q⟩:=h;refine⟨_,(ag (ay (i:=1) cM.nd rfl (.inl rfl) mh)
   (ag (bc (cX aeh rfl (eQ rfl bU (ae (aP g0 ak (pcl az ax hr rfl (ae (pv 0) (ae ak ah)))) ah)) (au (i:=2) cM.nd rfl (.inl rfl))
    (ag (ay (i:=3) cM.nd rfl (.inl rfl) b0)
    (ag (bc (cX aeh rfl (eQ rfl bU (ae (aP g0 ak (pcl az ax hr rfl (ae (pv 0) (ae ak ah)))) ah)) (au (i:=4) cM.nd rfl (.inl rfl))
     (ao (ay (i:=3) cM.nd rfl (.inl rfl) (aP uA (pv 3) (bW abe b0 (pcl az ax hr rfl (ae (pv 0) (ae ak ah))) (fun _ _=>rfl)))))))
    (ao (bc (dN (aJ ie (pv 3) (pv 1) rfl)
     (ao (dy (pq ad9 aeO aeP dm (pv 1) (ae (pv 3) ah)))) aS)))))))
   (ao (aH (pv 1))))),?_⟩
  refine⟨ad7 _,fun l nl=>?_⟩;have nel:=dk.ne nl;have lim:1000000 < sizeLine:=by decide
  have s0:Same H (upd H l (.lst [])):=ar nl;refine⟨fun σ H'=>∃ i,0 < i/\i<=16/\DwI p l H i σ H',?_,?_⟩
  ·rintro σ H' ⟨i,i0,i1,⟨U,x2,x3,x4,rfl,hl,ul,ne,kk,dk2,b2⟩⟩;exact⟨_,rfl,q l U H' nl hl (ne i0) (by lia) kk dk2 b2⟩
  ·refine⟨_,rfl,p,12,rfl,dk.same s0,by decide,by decide,fun r H1 r0 r1 dk1 b1=>⟨5,r,rfl,rfl,5+r,rfl,by lia,by lia,?_⟩⟩;obtain⟨m,em⟩:∃ m:Nat,5+r=(m:Int):=⟨(5+r).toNat,by lia⟩;rw [em,aek];refine f9 (fun i σ' H'=>DwI p l H i σ' H') (.mk [] none none none rfl (b1 _ _ nel af) (ad7 _) (fun z=>absurd z (by lia)) (fun _ h=>(nomatch h)) dk1 ((aD s0).trans b1)) ?_ (fun σ' H' z=>⟨m,by lia,by lia,z⟩);rintro i σ H2 hi ⟨U,x2,x3,x4,rfl,hl,ul,ne,kk,dk2,b2⟩;refine⟨fun σ' H'=>∃ j,1<=j/\j<=4/\DvI p l H U (some (.int (0+(i:Int)))) j σ' H',?_,?_⟩
   ·rintro σ' H3 ⟨j,j1,j4,⟨z,x4',rfl,zl,zc,hl3,dk3,b3⟩⟩;have kz:=aaQ ⟨by lia,by lia,zc⟩;refine⟨fun σ' H'=>DwI p l H (i+1) σ' H',fun _ _ z=>z,?_⟩;refine⟨_,rfl,_,rfl,l,_,rfl,.inl (aAA hl3),rfl,by rw [af6,aes];exact fun _ _=>rfl,_,rfl,acg (fun _=>?_) (fun e=>?_)⟩
    ·refine⟨_,rfl,.inl ⟨rfl,_,aAA hl3⟩,_,rfl,l,_,_,rfl,rfl,hl3,by rw [adG];lia,?_⟩;have dk4:PoolD (upd H3 l (.lst (U.map V.str++[.str z]))) p:=by
      obtain⟨a,f',c,e⟩:=dk3;exact⟨a,f',c,by rw [aj (aeL nel)];exact e⟩
     refine .mk (U++[z]) _ _ _ rfl (by rw [af,adW];rfl) (by rw [adI,ad8];lia) (fun _=>by simp) (fun k hk=>?_) dk4 (b3.new nl);rcases ad6.mp hk with h | h
     ·exact kk k h
     ·rw [adT] at h;rw [h];exact kz
    ·refine .mk U _ _ _ rfl hl3 (by lia) (fun _ ne0=>?_) kk dk3 b3;subst ne0;exact e rfl
   ·refine⟨_,rfl,p,4,rfl,dk2,by decide,by decide,fun r H3 r0 r1 dk3 b3=>⟨1,r,rfl,rfl,1+r,rfl,by lia,by lia,?_⟩⟩;obtain⟨m2,em2⟩:∃ m:Nat,1+r=(m:Int):=⟨(1+r).toNat,by lia⟩;rw [em2,aek];refine f9 (fun j σ' H'=>DvI p l H U (some (.int (0+(i:Int)))) j σ' H') (.mk "" x4 rfl (by decide) (fun c hc=>by simp [show (Str.ofString "").cps.toList=[] by decide] at hc) (b3 _ _ nel hl) dk3 (b2.trans b3)) ?_ (fun σ' H' z=>⟨m2,by lia,by lia,z⟩);rintro j σ H4 hj ⟨z,x4',rfl,zl,zc,hl4,dk4,b4⟩;refine⟨_,rfl,_,rfl,p,26,rfl,dk4,by decide,by decide,fun r H5 r0 r1 dk5 b5=>?_⟩;obtain⟨k,rfl⟩:∃ k:Nat,r=(k:Int):=⟨r.toNat,by lia⟩;have el:z.cps.toList.length=z.length:=aec;refine⟨lettersS,_,97+k,rfl,rfl,rG,uB k (by lia),z,_,rfl,rfl,afb (gJ (by show z.length+1<=1000;lia)),?_⟩;refine .mk _ _ rfl (by rw [qT,adI,zl];rfl) (fun c hc=>?_) (b5 _ _ nel hl4) dk5 (b4.trans b5);rw [qT] at hc;rcases ad6.mp hc with y | y
    ·exact zc c y
    ·have:c=97+k:=by simpa using y
     lia
end
end K7
namespace L2
open PySem PySem.Spec PyProof.Rows
section
variable {X:Cx}{P:Program}{w:World}{K:PySem.W.Frag}
theorem vR (hK:X.K=K)(hc:X.calm=true):gX X (.builtin "all") (fun xs H Q=>∃ (p:Addr) (bs:List Bool),xs=[.ref p]/\SqL K H p (bs.map V.bl)/\Q (.bl (bs.all id)) H):=by
 subst hK;exact kP hc
theorem um {a:Expr}{ta:TA}{p pos:Pos}{es:List Expr}{kk:Nat}{tp:Pos}(hK:X.K=K)(hg:Gl X "enumerate")(hm:X.mg "enumerate" = none)(ha:PA X [a] ta)(hs:starEach [a] X.env=[(false,eval a X.env)]:=by rfl):PI X (.Tuple es kk tp) (.Call (.Name "enumerate" p) [a] [] pos) (abQ K ta):=by
 subst hK;exact rL hg hm ha hs
end
end L2
namespace K7
open PySem L2 PyProof.Rows
def vm (h:Hs):Prop:=∀ L:List Str,L.Nodup->(∀ k∈L,∃ r∈h.2,k∈r.1)->L.length<=63
def mW (H H':Hp):Hp:=fun b=>match H b with | some _=>none | none=>H' b
theorem pC {H H':Hp}{b:Addr}{o:HO}(n:H b=none)(e:H' b=some o):mW H H' b=some o:=by unfold mW;rw [n];exact e
theorem tX {H H':Hp}:Same (mW H H') H':=fun b u e=>by
 unfold mW at e;split at e
 ·cases e
 ·exact e
inductive CpI (D:Addr)(pb:Nat->Bool)(gv:Nat->Int)(H:Hp)(i:Nat)(ys:List V)(H':Hp):Prop
 | mk:H' D=some (.lst ys)->Same H H'->ys.length=((List.range i).filter pb).length->(∀ (j:Nat) (x:V) (c:Nat×Int),ys[j]? = some x->(((List.range i).filter pb).map fun p=>(p,gv p))[j]? = some c->∃ T:Addr,x=.ref T/\H T=none/\T≠D/\H' T=some (.tup [.int ((c.1:Nat):Int),.int c.2]))->CpI D pb gv H i ys H'
theorem og {K:PySem.W.Frag}{nl:Nat}{ix:List Nat}{tf:TT}{te:TE}{σ:L2.St}{H1:Hp}{D a:Addr}{Q:VK}{ks:List Str}{pb:Nat->Bool}{gv:Nat->Int}(ha:H1 a=some (.lst (ks.map V.str)))(nD:H1 D=none)(few:ks.length<=63)
 (hc:∀ x y,(((cz nl ix σ).set 0 (some x)).set 1 (some y)).drop nl=ix.map fun j=>(σ[j]?).join)
 (ht:∀ (H:Hp) (p:Nat) (R:Bool->Hp->Prop),p < ks.length->Same H1 H->R (pb p) H->tf (((cz nl ix σ).set 0 (some (.int ((p:Nat):Int)))).set 1 (some (.str (kAt ks p)))) H R)
 (he:∀ (H:Hp) (p:Nat) (R:VK),p < ks.length->Same H1 H->(∀ T,H T=none->R (.ref T) (upd H T (.tup [.int ((p:Nat):Int),.int (gv p)])))->te (((cz nl ix σ).set 0 (some (.int ((p:Nat):Int)))).set 1 (some (.str (kAt ks p)))) H R)
 (hd:∀ H' x,Same H1 H'->PairsAt (mW H1 H') x (((List.range ks.length).filter pb).map fun p=>(p,gv p))->Q x H'):gQ nl ix (abY K 2 (qY (cw 0) (qY (cw 1) aco))) tf te σ (ItE K a) H1 D Q:=by
 have lim:1000000 < sizeLine:=by decide
 refine qW (xs:=ks.map V.str) (CpI D pb gv H1) (.mk af (ar nD) rfl (fun j x c e=>nomatch e)) (fun i ys H' ⟨e,_,_,_⟩=>e) (fun i ys H' ⟨_,s,_,_⟩=>aAA (s _ _ ha)) ?_ ?_
 ·rintro i ys H x T hx ⟨hD,s,yl,al⟩ nT;have hi':i < (ks.map V.str).length:=(adF.mp hx).1;have hi:i < ks.length:=by rwa [adG] at hi'
  rw [adK,vQ hi] at hx;cases hx;have s2:Same H (upd H T (.tup [.int (i:Int),.str (kAt ks i)])):=ar nT;have e2:(upd H T (.tup [.int (i:Int),.str (kAt ks i)])) T=some (.tup [.int (i:Int),.str (kAt ks i)]):=af;generalize upd H T (.tup [.int (i:Int),.str (kAt ks i)])=H2 at *;have lf:((List.range i).filter pb).length<=i:=adZ (aeF _ _) (by rw [aeB];exact adL _);refine⟨T,_,rfl,aAB e2,rfl,?_⟩;refine⟨_,_,rfl,_,_,rfl,rfl,⟨by simp,hc _ _⟩,?_⟩;refine ht H2 i _ hi (s.trans s2) ?_;have al2:∀ (j:Nat) (x:V) (c:Nat×Int),ys[j]? = some x->(((List.range i).filter pb).map fun p=>(p,gv p))[j]? = some c->∃ T:Addr,x=.ref T/\H1 T=none/\T≠D/\H2 T=some (.tup [.int ((c.1:Nat):Int),.int c.2]):=fun j x c e1 e2=>by
   obtain⟨T,e,n,nd,hT⟩:=al j x c e1 e2;exact⟨T,e,n,nd,s2 _ _ hT⟩
  cases eb:pb i with
  | true =>
   refine gI ?_;refine he H2 i _ hi (s.trans s2) fun T2 nT2=>?_;have hD2:=s2 _ _ hD;have ne:T2≠D:=fun z=>by subst z;rw [hD2] at nT2;cases nT2
   have n1:H1 T2=none:=(s.trans s2).free nT2;have rs':(List.range (i+1)).filter pb=(List.range i).filter pb++[i]:=by rw [afg,aen];simp [eb]
   refine⟨by rw [aj (fun z=>ne z.symm)];exact hD2,by lia,nx hi' (.mk af (fun b u e=>?_) (by rw [rs',adI,adI,yl];rfl) fun j x c ey ec=>?_)⟩
   ·rw [aj (aq e nD),aj (aq e n1)];exact s2 _ _ (s _ _ e)
   ·rw [rs',adW] at ec;by_cases hj:j < ys.length
    ·rw [ad0 hj] at ey;rw [ad0 (by rw [adG,← yl];exact hj)] at ec;obtain⟨T,e,n,nd,hT⟩:=al2 j x c ey ec;exact⟨T,e,n,nd,by rw [aj nd,aj (aq hT nT2)];exact hT⟩
    ·rw [ad1 (by lia)] at ey;rw [ad1 (by rw [adG,← yl];lia),adG,← yl] at ec;have:j - ys.length=0:=by
      have:=(adF.mp ey).1;simp at this;lia
     rw [this] at ey ec;cases ey;cases ec;exact⟨T2,rfl,n1,ne,by rw [aj ne,af]⟩
  | false =>
   refine eP ?_;have rs':(List.range (i+1)).filter pb=(List.range i).filter pb:=by rw [afg,aen];simp [eb]
   exact nx hi' (.mk (s2 _ _ hD) (s.trans s2) (by rw [rs'];exact yl) (by rw [rs'];exact al2))
 ·rintro ys H ⟨hD,s,yl,al⟩;rw [adG] at yl al;refine hd H (.ref D) s ⟨D,ys,rfl,pC nD hD,by rw [adG];exact yl,fun j x c e1 e2=>?_⟩;obtain⟨T,e,n,nd,hT⟩:=al j x c e1 e2;exact⟨T,e,pC n hT⟩
def cQ (D:Addr)(H:Hp):Hp:=fun b=>if b=D then none else H b
theorem kR {D:Addr}{H:Hp}:Same (cQ D H) H:=fun b u e=>by
 unfold cQ at e;split at e
 ·cases e
 ·exact e
theorem yF {D:Addr}{H H':Hp}{o:HO}(s:Same H H'):Same (cQ D H) (cQ D (upd H' D o)):=fun b u e=>by
 unfold cQ at e ⊢;split at e
 ·cases e
 ·rename_i hb;rw [if_neg hb,aj hb];exact s _ _ e
theorem yI {D:Addr}{H H':Hp}{o o':HO}(h:H D=some o):Same (mW H H') (cQ D (upd H' D o')):=fun b u e=>by
 unfold mW at e;split at e
 ·cases e
 ·rename_i hb;have nb:b≠D:=fun z=>by subst z;rw [h] at hb;cases hb
  unfold cQ;rw [if_neg nb,aj nb];exact e
inductive CrI (D:Addr)(cs:List (List (Nat×Int)))(H:Hp)(i:Nat)(ys:List V)(H':Hp):Prop
 | mk:H' D=some (.lst ys)->Same H H'->ys.length=(cs.take i).length->(∀ (j:Nat) (x:V) (c:List (Nat×Int)),ys[j]? = some x->cs[j]? = some c->PairsAt (cQ D H') x c)->CrI D cs H i ys H'
theorem oj {K:PySem.W.Frag}{nl:Nat}{ix:List Nat}{te:TE}{σ:L2.St}{H1:Hp}{D a:Addr}{Q:VK}{vs:List V}{rs:List Rm}{F:Rm->List (Nat×Int)}(ha:H1 a=some (.lst vs))(hR:RoomsAt H1 vs rs)(nD:H1 D=none)(hl:rs.length<=1000)
 (hc:∀ x y,(((cz nl ix σ).set 0 (some x)).set 1 (some y)).drop nl=ix.map fun j=>(σ[j]?).join)
 (he:∀ (H:Hp) (r:Rm) (la lb:Addr) (R:VK),r∈rs->H la=some (.lst (r.1.map V.str))->H lb=some (.lst (r.2.map V.str))->Same H1 H->(∀ H' x,Same H H'->PairsAt (mW H H') x (F r)->R x H')->te (((cz nl ix σ).set 0 (some (.ref la))).set 1 (some (.ref lb))) H R)
 (hd:∀ H',Same H1 H'->RowsP H' D (rs.map F)->Q (.ref D) H'):gQ nl ix (abY K 2 (qY (cw 0) (qY (cw 1) aco))) tZ te σ (Itl K a) H1 D Q:=by
 have lim:1000000 < sizeLine:=by decide
 have vl:=hR.1;refine di (xs:=vs) (CrI D (rs.map F) H1) (.mk af (ar nD) rfl (fun j x c e=>nomatch e)) (fun i ys H' ⟨e,_,_,_⟩=>e) (fun i ys H' ⟨_,s,_,_⟩=>aAA (s _ _ ha)) ?_ ?_
 ·rintro i ys H x hx ⟨hD,s,yl,al⟩;have hi:i < vs.length:=(adF.mp hx).1;have hri:i < rs.length:=by lia
  obtain⟨t,la,lb,rfl,ht,hla,hlb⟩:=hR.2 i x _ hx (adD hri);have yl':ys.length=i:=by rw [yl,aeb,adG];lia
  refine⟨t,_,rfl,aAB (s _ _ ht),rfl,?_⟩;refine⟨_,_,rfl,_,_,rfl,rfl,⟨by simp,hc _ _⟩,?_⟩;unfold tZ;dsimp only;refine gI (B:=False) ?_;refine he H rs[i] la lb _ (aeo hri) (s _ _ hla) (s _ _ hlb) s fun H2 x s2 pa=>?_;refine⟨s2 _ _ hD,by lia,nx hi (.mk af (fun b u e=>by rw [aj (aq e nD)];exact s2 _ _ (s _ _ e)) ?_ fun j y c ey ec=>?_)⟩
  ·rw [adI,yl',aeb,adG];simp;lia
  ·by_cases hj:j < ys.length
   ·rw [ad0 hj] at ey;exact (al j y c ey ec).same (yF s2)
   ·rw [ad1 (by lia)] at ey;have z:j - ys.length=0:=by
     have:=(adF.mp ey).1;simp at this;lia
    have ji:j=i:=by lia
    rw [z] at ey;cases ey;subst ji;rw [adK,adD hri] at ec;cases ec;exact pa.same (yI hD)
 ·rintro ys H ⟨hD,s,yl,al⟩;refine hd H s ⟨ys,hD,?_,fun j x c e1 e2=>(al j x c e1 e2).same kR⟩;rw [yl,aeb,adG];lia
inductive SwI (P:Program)(w:World)(D:Addr)(rs:List Rm)(H:Hp)(i m:Nat)(ys:List Str)(H':Hp):Prop
 | mk:m=rs.length - i->i<=rs.length->H' D=some (kJ P w D ys)->Same H H'->ys.Nodup->(∀ k,k∈ys↔∃ r∈rs.take i,k∈r.1)->SwI P w D rs H i m ys H'
inductive SvI (P:Program)(w:World)(D:Addr)(rs:List Rm)(H:Hp)(i:Nat)(r:Rm)(j m:Nat)(ys:List Str)(H':Hp):Prop
 | mk:m=r.1.length - j->j<=r.1.length->H' D=some (kJ P w D ys)->Same H H'->ys.Nodup->(∀ k,k∈ys↔(∃ r∈rs.take i,k∈r.1)\/k∈r.1.take j)->SvI P w D rs H i r j m ys H'
theorem rQ {P:Program}{w:World}{K K':PySem.W.Frag}{te:TE}{σ:L2.St}{H:Hp}{a:Addr}{Q:VK}{vs:List V}{h:Hs}(ht:∀ R,R (.ref a) H->te σ H R)(ha:H a=some (.lst vs))(hR:RoomsAt H vs h.2)(few:vm h)
 (hd:∀ D ss H',Same H H'->H D=none->H' D=some (kJ P w D ss)->ss.Nodup->(∀ k,k∈ss↔∃ r∈h.2,k∈r.1)->Q (.ref D) H'):rE P w 3 [] (yu K te) (abY K' 2 (qY (cw 0) (qY (cw 1) aco))) (yu K' (abu 0)) (cw 2) (abu 2) σ H Q:=by
 have lim:70 < scanBound:=by decide
 have vl:=hR.1;refine ht _ ⟨a,rfl,⟨_,aAA ha⟩,fun D nD=>?_⟩;refine⟨SwI P w D h.2 H,⟨_,.mk rfl (ad7 _) af (ar nD) .nil (fun k=>by simp)⟩,?_⟩;rintro i m ys H2 ⟨rfl,hi,hD,s,nd,mem⟩;refine⟨hD,?_⟩;by_cases hlt:i < h.2.length
 ·refine .inr ⟨⟨vs,vs[i]'(by lia),aAA (s _ _ ha),by simp⟩,fun x H3 y=>?_⟩;obtain⟨e,y⟩:=y;subst e;have hx:=y vs (aAA (s _ _ ha));obtain⟨t,la,lb,rfl,ht',hla,hlb⟩:=hR.2 i x _ hx (adD hlt);refine⟨t,_,rfl,aAB (s _ _ ht'),rfl,?_⟩;refine⟨_,_,rfl,_,_,rfl,rfl,⟨rfl,rfl⟩,?_⟩;refine⟨_,rfl,la,rfl,⟨_,aAA (s _ _ hla)⟩,?_⟩;refine⟨SvI P w D h.2 H i h.2[i],⟨_,.mk rfl (ad7 _) hD s nd (fun k=>by rw [mem k];simp)⟩,?_⟩;rintro j m2 ys2 H6 ⟨rfl,hj,hD6,s6,nd6,mem6⟩;refine⟨hD6,?_⟩;by_cases hjl:j < (h.2[i]).1.length
  ·refine .inr ⟨⟨_,.str ((h.2[i]).1[j]),aAA (s6 _ _ hla),by simp [hjl]⟩,fun x2 H7 y2=>?_⟩;obtain⟨e,y2⟩:=y2;subst e;have hx2:=y2 _ (aAA (s6 _ _ hla));rw [adK,adD hjl] at hx2;cases hx2;have sub:∀ k,k∈ys2->∃ r∈h.2,k∈r.1:=fun k hk=>by
    rcases (mem6 k).mp hk with ⟨r,hr,hk⟩ | hk
    ·exact⟨r,agg hr,hk⟩
    ·exact⟨_,aeo hlt,agg hk⟩
   refine⟨⟨rfl,?_⟩,?_⟩
   ·intro z v e
    match z,e with
    | 0,e=>exact e
    | 1,e=>exact e
    | 2,e=>cases e
    | z+3,e=>cases e
   ·refine⟨_,rfl,(h.2[i]).1[j],rfl,hD6,by have:=few ys2 nd6 sub;lia,fun ys' hy nd'=>⟨_,?_,.mk rfl hjl af (fun b u e=>by rw [aj (aq e nD)];exact s6 _ _ e) nd' fun k=>?_⟩⟩
    ·lia
    ·have tk:(h.2[i]).1.take (j+1)=(h.2[i]).1.take j++[(h.2[i]).1[j]]:=by rw [aee,adD hjl];rfl
     rw [tk,ad6,← or_assoc,← mem6 k,adT];rcases hy with ⟨hk,rfl⟩ | ⟨hk,hp⟩
     ·constructor
      ·exact Or.inl
      ·rintro (z | rfl)
       ·exact z
       ·exact hk
     ·rw [hp.mem_iff,ad6,adT]
  ·have ej:j=(h.2[i]).1.length:=by lia
   subst ej;refine .inl ⟨⟨_,aAA (s6 _ _ hla),by simp⟩,_,?_,.mk rfl hlt hD6 s6 nd6 fun k=>?_⟩
   ·lia
   ·rw [mem6 k,aem,aee,adD hlt];simp only [ad6,Option.toList,adT];constructor
    ·rintro (⟨r,hr,hk⟩ | hk)
     ·exact⟨r,.inl hr,hk⟩
     ·exact⟨_,.inr rfl,hk⟩
    ·rintro⟨r,hr | rfl,hk⟩
     ·exact .inl ⟨r,hr,hk⟩
     ·exact .inr hk
 ·have ei:i=h.2.length:=by lia
  subst ei;refine .inl ⟨⟨vs,aAA (s _ _ ha),by lia⟩,hd D ys H2 s nD hD nd fun k=>?_⟩;rw [mem k,aem]
structure RmU (U:List Str)(r:Rm):Prop where
 lk:∀ k∈r.1,k∈U
 l1:1<=r.1.length
 l4:r.1.length<=4
 so:r.1.Pairwise leS
 wi:∀ k∈r.2,k∈U
 w6:r.2.length<=6
structure HsU (U:List Str)(n:Nat)(h:Hs):Prop where
 kk:∀ k∈U,dW k
 ul:U.length<=16
 bg:∀ k∈h.1,k∈U
 bl:h.1.length<=189
 rl:h.2.length=n
 rm:∀ r∈h.2,RmU U r
def tY:Sp:=fun vs H Q _=>∃ (p:Addr) (n:Nat),vs=[.ref p,.int n]/\PoolD H p/\n<=12/\∀ (v:V) (h:Hs) (U:List Str) (H':Hp),HouseAt H' v h->HsU U n h->PoolD H' p->But p H H'->Q v H'
def KindsAt (H:Hp)(v:V)(U:List Str):Prop:=∃ a,v=.ref a/\H a=some (.lst (U.map V.str))/\U≠[]/\U.length<=16/\∀ k∈U,dW k
theorem KindsAt.but {H H':Hp}{v:V}{U:List Str}{p:Addr}(k:KindsAt H v U)(d:PoolD H p)(b:But p H H'):KindsAt H' v U:=let ⟨a,e,h,n,l,o⟩:=k;⟨a,e,b _ _ (rn d h n) h,n,l,o⟩
theorem KindsAt.same {H H':Hp}{v:V}{U:List Str}(k:KindsAt H v U)(s:Same H H'):KindsAt H' v U:=let ⟨a,e,h,n,l,o⟩:=k;⟨a,e,s _ _ h,n,l,o⟩
theorem sX {l:List Str}{x y z:Int}:l.map V.str≠[.int x,.int y,.int z]:=fun e=>by cases l<;>cases e
theorem RoomAt.pool {H H':Hp}{p:Addr}{v:V}{r:Rm}(x:RoomAt H v r)(d:PoolD H p)(b:But p H H'):RoomAt H' v r:=by
 obtain⟨t,la,lb,rfl,h1,h2,h3⟩:=x;obtain⟨i,j,k,e⟩:=d;refine⟨t,la,lb,rfl,b _ _ (fun z=>?_) h1,b _ _ (fun z=>?_) h2,b _ _ (fun z=>?_) h3⟩
 ·rw [z,e] at h1;cases h1
 ·rw [z,e] at h2;injection h2 with h2;injection h2 with h2;exact sX h2.symm
 ·rw [z,e] at h3;injection h3 with h3;injection h3 with h3;exact sX h3.symm
theorem RoomsAt.pool {H H':Hp}{p:Addr}{vs:List V}{rs:List Rm}(x:RoomsAt H vs rs)(d:PoolD H p)(b:But p H H'):RoomsAt H' vs rs:=⟨x.1,fun i v r a c=>(x.2 i v r a c).pool d b⟩
theorem abr {xs:List Nat}{r:Int}(h0:0<=r)(h1:r < xs.length):∃ m∈xs,atI (xs.map fun n=>V.int ((n:Nat):Int)) r=some (.int ((m:Nat):Int)):=by
 obtain⟨j,rfl⟩:∃ j:Nat,r=(j:Int):=⟨r.toNat,by lia⟩;have hj:j < xs.length:=by lia
 exact⟨xs[j],aeo hj,cC (by rw [adK,adD hj];rfl)⟩
theorem yo {D p:Addr}{H H':Hp}(s:But p H H'):But p (cQ D H) (cQ D H'):=fun b u n e=>by
 unfold cQ at e ⊢;split at e
 ·cases e
 ·rename_i hb;rw [if_neg hb];exact s _ _ n e
theorem xm {D p:Addr}{H:Hp}(d:PoolD H p)(n:D≠p):PoolD (cQ D H) p:=let ⟨a,f,c,e⟩:=d;⟨a,f,c,by unfold cQ;rw [if_neg (aeL n)];exact e⟩
theorem wd {D:Addr}{H:Hp}{o:HO}:cQ D (upd H D o)=cQ D H:=by
 funext b;unfold cQ;split
 ·rfl
 ·rename_i hb;rw [aj hb]
inductive DhI (p kl lr:Addr)(L:Int)(n:Nat)(U:List Str)(H0:Hp)(i:Nat)(σ:L2.St)(H':Hp):Prop
 | mk (vs:List V) (rs:List Rm) (x5 x6:Option V):σ=[some (.ref p),some (.int ((n:Nat):Int)),some (.ref kl),some (.int L),some (.ref lr),x5,x6]->H' lr=some (.lst vs)->RoomsAt (cQ lr H') vs rs->rs.length=i->(∀ r∈rs,RmU U r)->PoolD H' p->But p H0 H'->H' kl=some (.lst (U.map V.str))->DhI p kl lr L n U H0 i σ H'
theorem RoomsAt.snocD {H:Hp}{vs:List V}{rs:List Rm}{v:V}{r:Rm}(x:RoomsAt H vs rs)(y:RoomAt H v r):RoomsAt H (vs++[v]) (rs++[r]):=by
 refine⟨by rw [adI,adI,x.1];rfl,fun i v' r' e1 e2=>?_⟩;by_cases h:i < vs.length
 ·rw [ad0 h] at e1;rw [ad0 (by rw [← x.1];exact h)] at e2;exact x.2 i v' r' e1 e2
 ·have hl:i < (vs++[v]).length:=(adF.mp e1).1;rw [adI,ad8] at hl;have ei:i=vs.length:=by lia
  subst ei;rw [ad1 (adL _),af9] at e1;rw [x.1,ad1 (adL _),af9] at e2;cases e1;cases e2;exact y
theorem qS (l:Addr){H:Hp}{ws:List Str}(e:H l=some (.lst (ws.map V.str)))(k:ws.all ym=true)(ne:ws≠[])(wl:ws.length<=16):KindsAt H (.ref l) ws:=⟨l,rfl,e,ne,wl,xn k⟩
def ws1:List Str:=["a"]
def ws2:List Str:=["a","b"]
def ws3:List Str:=["a","b","cc"]
def ws4:List Str:=["ab","abce","zbcd","abcd"]
def ws5:List Str:=["key","a","b","abcd","keyb","cb","keya"]
theorem lt_size {n:Nat}(h:n<=1000):n<=sizeLine:=adZ h (by decide)
section
variable {P:Program}{w:World}{K:PySem.W.Frag}{mg:Str->Option Value}{base:Heap}
theorem aW:aA ["pool","many","kinds","locks","rooms","k","some"] ["pool","many"] (ai gy):=scM rfl rfl rfl rfl (by decide +kernel)
theorem xf {f fD fK fW:Addr}{fd fdD fdK fdW:FuncData}(F:Fun K "_law_house" "_law_house" gy f fd)(az:FnOk P w K mg base CX0 1 fD fdD ["pool","many"] nr)(ax:Cal K mg "_law_draw" ["pool","many"] fD fdD)(ic:FnOk P w K mg base CX0 2 fK fdK ["pool","many","kinds"] tH)(dQ:Cal K mg "_law_kinds" ["pool","many","kinds"] fK fdK)
 (qH:FnOk P w K mg base CX0 2 fW fdW ["pool"] tN)(gR:Cal K mg "_law_words" ["pool"] fW fdW)(bU:mg "range" = none)(gk:mg "sorted" = none):FnOk P w K mg base CX0 3 f fd ["pool","many"] tY:=by
 refine F.ok aW (fun vs H Q E h=>?_) (fun cdv A outer s H vs Q E hr h=>?_)
 ·obtain⟨p,n,rfl,_⟩:=h
  rfl
 ·have hu:=dO hr;obtain⟨p,n,rfl,dk,n12,q⟩:=h;refine⟨_,(@ag _ _ _ _ _ (@ay _ _ 2 _ _ _ _ aW.nd rfl (.inl rfl) (@cg _ _ _ _ (@ck _ _ _ _ _ (@cg _ _ _ _ (@ck _ _ _ _ _ (@b0 _ _ _ _) (@ah _) rfl)) (@ck _ _ _ _ _ (@cg _ _ _ _ (@ck _ _ _ _ _ (@b0 _ _ _ _) (@ck _ _ _ _ _ (@b0 _ _ _ _) (@ah _) rfl) rfl)) (@ck _ _ _ _ _ (@cg _ _ _ _ (@ck _ _ _ _ _ (@b0 _ _ _ _) (@ck _ _ _ _ _ (@b0 _ _ _ _) (@ck _ _ _ _ _ (@b0 _ _ _ _) (@ah _) rfl) rfl) rfl)) (@ck _ _ _ _ _ (@cg _ _ _ _ (@ck _ _ _ _ _ (@b0 _ _ _ _) (@ck _ _ _ _ _ (@b0 _ _ _ _) (@ck _ _ _ _ _ (@b0 _ _ _ _) (@ck _ _ _ _ _ (@b0 _ _ _ _) (@ah _) rfl) rfl) rfl) rfl)) (@ah _) rfl) rfl) rfl) rfl)) rfl (by first | exact .inl rfl | exact .inr rfl))
   (ag (ay (i:=2) aW.nd rfl (.inl rfl) (aP eX (pv 2) (cg (ae (@cg _ _ _ _ (@ck _ _ _ _ _ (@b0 _ _ _ _) (@ck _ _ _ _ _ (@b0 _ _ _ _) (@ck _ _ _ _ _ (@b0 _ _ _ _) (@ck _ _ _ _ _ (@b0 _ _ _ _) (@ck _ _ _ _ _ (@b0 _ _ _ _) (@ck _ _ _ _ _ (@b0 _ _ _ _) (@ck _ _ _ _ _ (@b0 _ _ _ _) (@ah _) rfl) rfl) rfl) rfl) rfl) rfl) rfl)) (ae (pcl qH gR hr rfl (ae (pv 0) ah)) ah)))))
   (ag (ay (i:=2) aW.nd rfl (.inl rfl) (bW bR (pv 2) (pcl az ax (hr.mono (by decide:1<=2)) rfl (ae (pv 0) (ae ak ah))) (fun _ _=>rfl)))
   (ag (ay (i:=3) aW.nd rfl (.inl rfl) (aP g0 ak (aP qv (pcl az ax (hr.mono (by decide:1<=2)) rfl (ae (pv 0) (ae ak ah))) (pcl az ax (hr.mono (by decide:1<=2)) rfl (ae (pv 0) (ae ak ah))))))
   (ag (ay (i:=4) aW.nd rfl (.inl rfl) mh)
   (ag (bc (cX aeh rfl (eQ rfl bU (ae (pv 1) ah)) (au (i:=5) aW.nd rfl (.inl rfl))
    (ag (ay (i:=6) aW.nd rfl (.inl rfl) (aw mD rfl gk boot_sorted (ae (pcl ic dQ hr rfl (ae (pv 0) (ae (aP g0 ak (pcl az ax (hr.mono (by decide:1<=2)) rfl (ae (pv 0) (ae (pv 3) ah)))) (ae (pv 2) ah)))) ah)))
    (ao (dy (pq ad9 aeO aeP dm (pv 4) (ae (oo (ae (pv 6) (ae (pcl ic dQ hr rfl (ae (pv 0) (ae (@bW _ _ _ _ _ _ _ bR (@cg _ _ _ _ (@ck _ _ _ _ _ (@ak _ _ _ _) (@ck _ _ _ _ _ (@ak _ _ _ _) (@ck _ _ _ _ _ (@ak _ _ _ _) (@ck _ _ _ _ _ (@ak _ _ _ _) (@ck _ _ _ _ _ (@ak _ _ _ _) (@ck _ _ _ _ _ (@ak _ _ _ _) (@ck _ _ _ _ _ (@ak _ _ _ _) (@ck _ _ _ _ _ (@ak _ _ _ _) (@ah _) rfl) rfl) rfl) rfl) rfl) rfl) rfl) rfl)) (pcl az ax (hr.mono (by decide:1<=2)) rfl (ae (pv 0) (ae ak ah))) (fun _ _=>rfl)) (ae (pv 2) ah)))) ah))) ah)))))))
   (@ag _ _ _ _ _ (@ay _ _ 1 _ _ _ _ aW.nd rfl (.inl rfl) (@bW _ _ _ _ _ _ _ bR (@cg _ _ _ _ (@ck _ _ _ _ _ (@ak _ _ _ _) (@ck _ _ _ _ _ (@ak _ _ _ _) (@ck _ _ _ _ _ (@ak _ _ _ _) (@ck _ _ _ _ _ (@ak _ _ _ _) (@ck _ _ _ _ _ (@ak _ _ _ _) (@ck _ _ _ _ _ (@ak _ _ _ _) (@ck _ _ _ _ _ (@ak _ _ _ _) (@ck _ _ _ _ _ (aP g0 ak (pcl az ax (hr.mono (by decide:1<=2)) rfl (ae (pv 0) (ae ak ah)))) (@ah _) rfl) rfl) rfl) rfl) rfl) rfl) rfl) rfl)) (pcl az ax (hr.mono (by decide:1<=2)) rfl (ae (pv 0) (ae ak ah))) (fun _ _=>rfl)) rfl (by first | exact .inl rfl | exact .inr rfl))
   (ao (aH (oo (ae (pcl ic dQ hr rfl (ae (pv 0) (ae (pv 1) (ae (pv 2) ah)))) (ae (pv 4) ah)))))))))))),?_⟩
  refine⟨lt_size (by decide:1<=1000),fun a1 n1=>⟨lt_size (by decide:2<=1000),fun a2 n2=>⟨lt_size (by decide:3<=1000),fun a3 n3=>⟨lt_size (by decide:4<=1000),fun a4 n4=>?_⟩⟩⟩⟩;have k1:KindsAt (upd H a1 (.lst [.str "a"])) (.ref a1) ws1:=qS a1 af (by decide +kernel) (by decide) (by decide);have s1:Same H (upd H a1 (.lst [.str "a"])):=ar n1;generalize upd H a1 (.lst [.str "a"])=H1 at *;have k2:KindsAt (upd H1 a2 (.lst [.str "a",.str "b"])) (.ref a2) ws2:=qS a2 af (by decide +kernel) (by decide) (by decide);have s2:Same H1 (upd H1 a2 (.lst [.str "a",.str "b"])):=ar n2;generalize upd H1 a2 (.lst [.str "a",.str "b"])=H2 at *;have k3:KindsAt (upd H2 a3 (.lst [.str "a",.str "b",.str "cc"])) (.ref a3) ws3:=qS a3 af (by decide +kernel) (by decide) (by decide);have s3:Same H2 (upd H2 a3 (.lst [.str "a",.str "b",.str "cc"])):=ar n3;generalize upd H2 a3 (.lst [.str "a",.str "b",.str "cc"])=H3 at *;have k4:KindsAt (upd H3 a4 (.lst [.str "ab",.str "abce",.str "zbcd",.str "abcd"])) (.ref a4) ws4:=qS a4 af (by decide +kernel) (by decide) (by decide);have s4:Same H3 (upd H3 a4 (.lst [.str "ab",.str "abce",.str "zbcd",.str "abcd"])):=ar n4;generalize upd H3 a4 (.lst [.str "ab",.str "abce",.str "zbcd",.str "abcd"])=H4 at *;refine⟨lt_size (by decide:4<=1000),fun l nl=>?_⟩;have sL:Same H4 (upd H4 l (.lst [.ref a1,.ref a2,.ref a3,.ref a4])):=ar nl;have eL:(upd H4 l (.lst [.ref a1,.ref a2,.ref a3,.ref a4])) l=some (.lst [.ref a1,.ref a2,.ref a3,.ref a4]):=af;generalize upd H4 l (.lst [.ref a1,.ref a2,.ref a3,.ref a4])=H5 at *;have s05:=(((s1.trans s2).trans s3).trans s4).trans sL;have dk5:=dk.same s05;have k1':=k1.same (((s2.trans s3).trans s4).trans sL);have k2':=k2.same ((s3.trans s4).trans sL);have k3':=k3.same (s4.trans sL);have k4':=k4.same sL;refine⟨_,rfl,lt_size (by decide:7<=1000),fun a5 n5=>?_⟩;have k5:KindsAt (upd H5 a5 (.lst [.str "key",.str "a",.str "b",.str "abcd",.str "keyb",.str "cb",.str "keya"])) (.ref a5) ws5:=qS a5 af (by decide +kernel) (by decide) (by decide);have s5:Same H5 (upd H5 a5 (.lst [.str "key",.str "a",.str "b",.str "abcd",.str "keyb",.str "cb",.str "keya"])):=ar n5;generalize upd H5 a5 (.lst [.str "key",.str "a",.str "b",.str "abcd",.str "keyb",.str "cb",.str "keya"])=H6 at *;refine⟨_,rfl,p,rfl,dk5.same s5,fun D6 U6 H7 nD6 eD6 ne6 ul6 kk6 dk7 b7=>⟨lt_size (by decide:2<=1000),fun l2 nl2=>?_⟩⟩;have k6:KindsAt H7 (.ref D6) U6:=⟨D6,rfl,eD6,ne6,ul6,kk6⟩;have dk6:=dk5.same s5;have nlp:l≠p:=(dk.same (((s1.trans s2).trans s3).trans s4)).ne nl;have s7:Same H7 (upd H7 l2 (.lst [.ref a5,.ref D6])):=ar nl2;have e7:(upd H7 l2 (.lst [.ref a5,.ref D6])) l2=some (.lst [.ref a5,.ref D6]):=af;generalize upd H7 l2 (.lst [.ref a5,.ref D6])=H8 at *;refine⟨l,l2,_,_,rfl,rfl,s7 _ _ (b7 _ _ nlp (s5 _ _ eL)),e7,lt_size (by decide:6<=1000),fun l6 nl6=>?_⟩;have s8:Same H8 (upd H8 l6 (.lst ([.ref a1,.ref a2,.ref a3,.ref a4]++[.ref a5,.ref D6]))):=ar nl6;have e8:(upd H8 l6 (.lst ([.ref a1,.ref a2,.ref a3,.ref a4]++[.ref a5,.ref D6]))) l6=some (.lst ([.ref a1,.ref a2,.ref a3,.ref a4]++[.ref a5,.ref D6])):=af;generalize upd H8 l6 (.lst ([.ref a1,.ref a2,.ref a3,.ref a4]++[.ref a5,.ref D6]))=H9 at *;have dk8:=dk7.same s7;have dk9:=dk8.same s8;have nl6p:l6≠p:=dk8.ne nl6;have s79:=s7.trans s8;have b09:But p H H9:=((aD (s05.trans s5)).trans b7).trans (aD s79);have lift:∀ {v:V} {U:List Str},KindsAt H6 v U->KindsAt H9 v U:=fun k=>(k.but dk6 b7).same s79;have all:∀ v∈([.ref a1,.ref a2,.ref a3,.ref a4]++[.ref a5,.ref D6]:List V),∃ U,KindsAt H9 v U:=fun v hv=>by
   simp only [agY,ahm,adO,aet,agy] at hv;rcases hv with e | e | e | e | e | e
   ·exact⟨_,e▸lift (k1'.same s5)⟩
   ·exact⟨_,e▸lift (k2'.same s5)⟩
   ·exact⟨_,e▸lift (k3'.same s5)⟩
   ·exact⟨_,e▸lift (k4'.same s5)⟩
   ·exact⟨_,e▸lift k5⟩
   ·exact⟨_,e▸k6.same s79⟩
  have l6l:([.ref a1,.ref a2,.ref a3,.ref a4]++[.ref a5,.ref D6]:List V).length=6:=rfl;generalize ([.ref a1,.ref a2,.ref a3,.ref a4]++[.ref a5,.ref D6]:List V)=menu at *;clear k1 k2 k3 k4 k1' k2' k3' k4' k5 k6;refine⟨_,rfl,_,rfl,p,6,rfl,dk9,by decide,by decide,fun r HA r0 r1 dkA bA=>?_⟩;obtain⟨j,rfl⟩:∃ j:Nat,r=(j:Int):=⟨r.toNat,by lia⟩;have hj:j < menu.length:=by lia
  obtain⟨U,kU⟩:=all _ (aeo hj);obtain⟨kl,ekl,hkl,neU,ulU,kkU⟩:=kU.but dk9 bA;refine⟨l6,menu,(j:Int),_,rfl,rfl,aAA (bA _ _ nl6p e8),cC (adD hj),?_⟩;rw [ekl];refine⟨_,rfl,p,2,rfl,dkA,by decide,by decide,fun r2 HB r20 r21 dkB bB=>?_⟩;refine⟨_,rfl,p,4,rfl,dkB,by decide,by decide,fun r4 HC r40 r41 dkC bC=>?_⟩;refine⟨r2,r4,rfl,rfl,.inl ⟨by lia,by lia⟩,1,r2 * r4,rfl,rfl,?_⟩;have hL:1<=1+r2 * r4/\1+r2 * r4<=4:=by
   rcases (by lia:r2=0\/r2=1) with e | e
   ·subst e;lia
   ·subst e;lia
  generalize hLe:1+r2 * r4=L at *;have nklp:=rn dkA hkl neU;have hklC:=bC _ _ nklp (bB _ _ nklp hkl);have b0C:But p H HC:=((b09.trans bA).trans bB).trans bC;refine⟨ad7 _,fun lr nlr=>?_⟩;have nlrp:lr≠p:=dkC.ne nlr;have sR:Same HC (upd HC lr (.lst [])):=ar nlr;have eR:(upd HC lr (.lst [])) lr=some (.lst []):=af;generalize upd HC lr (.lst [])=HD at *;refine⟨fun σ H'=>DhI p kl lr L n U HC n σ H',?_,?_⟩
  ·rintro σ HE ⟨vs,rs,x5,x6,rfl,hlr,hR,rl,rm,dkE,bE,hklE⟩;have hklp:kl≠p:=nklp;refine⟨_,rfl,p,160,rfl,dkE,by decide,by decide,fun r HF r0 r1 dkF bF=>⟨30,r,rfl,rfl,lt_size (by decide:8<=1000),fun l8 n8=>?_⟩⟩;obtain⟨k,rfl⟩:∃ k:Nat,r=(k:Int):=⟨r.toNat,by lia⟩;have sF:Same HF (upd HF l8 (.lst [.int 1,.int 2,.int 3,.int 1,.int 0,.int 2,.int 1,.int (30+(k:Int))])):=ar n8;have eF:(upd HF l8 (.lst [.int 1,.int 2,.int 3,.int 1,.int 0,.int 2,.int 1,.int (30+(k:Int))])) l8=some (.lst (([1,2,3,1,0,2,1,30+k]:List Nat).map fun n=>V.int ((n:Nat):Int))):=af;have n8p:l8≠p:=dkF.ne n8;show _;generalize upd HF l8 (.lst [.int 1,.int 2,.int 3,.int 1,.int 0,.int 2,.int 1,.int (30+(k:Int))])=HG at *;have dkG:=dkF.same sF;refine⟨_,rfl,p,8,rfl,dkG,by decide,by decide,fun r8 HH r80 r81 dkH bH=>?_⟩;obtain⟨m,hm,em⟩:=abr (xs:=[1,2,3,1,0,2,1,30+k]) r80 r81;refine⟨l8,_,r8,_,rfl,rfl,aAA (bH _ _ n8p eF),em,?_⟩;have hm1:m<=189:=by
    simp only [adO,aet,agy] at hm;lia
   have b1:But p HE HH:=(bF.trans (aD sF)).trans bH;refine⟨_,rfl,_,rfl,_,rfl,p,kl,m,U,rfl,dkH,by lia,b1 _ _ nklp hklE,neU,by lia,fun D ks HI nD eD kl' kin dkI bI=>?_⟩;refine⟨_,rfl,lt_size (by decide:2<=1000),fun T nT=>?_⟩;have sT:Same HI (upd HI T (.tup [.ref D,.ref lr])):=ar nT;have hl2:=sT _ _ (bI _ _ nlrp (b1 _ _ nlrp hlr));have hR2:RoomsAt HI vs rs:=((hR.same (kR)).pool dkE b1).pool dkH bI;exact q (.ref T) (ks,rs) U _ ⟨T,D,lr,vs,rfl,af,sT _ _ eD,hl2,hR2.same sT⟩ ⟨kkU,ulU,kin,by show ks.length<=189;lia,rl,rm⟩ (dkI.same sT) (((b0C.trans bE).trans (b1.trans bI)).trans (aD sT))
  ·refine⟨_,rfl,(n:Int),rfl,by lia,by lia,?_⟩;rw [aek];refine f9 (fun i σ' H'=>DhI p kl lr L n U HC i σ' H') (.mk [] [] none none (by rw [← hLe];rfl) eR ⟨rfl,fun i v r e=>by simp at e⟩ rfl (fun _ h=>(nomatch h)) (dkC.same sR) (aD sR) (sR _ _ hklC)) ?_ (fun σ' H' z=>z);rintro i σ HE hi ⟨vs,rs,x5,x6,rfl,hlr,hR,rl,rm,dkE,bE,hklE⟩;have nklr:kl≠lr:=fun z=>by rw [z] at hklC;rw [hklC] at nlr;cases nlr
   refine⟨_,rfl,_,rfl,_,rfl,p,L,rfl,dkE,by lia,by lia,fun r HF r0 r1 dkF bF=>?_⟩;obtain⟨m,em⟩:∃ m:Nat,1+r=(m:Int):=⟨(1+r).toNat,by lia⟩;refine⟨1,r,rfl,rfl,_,rfl,p,kl,m,U,by show [V.ref p,V.int (1+r),V.ref kl]=_;rw [em],dkF,by lia,bF _ _ nklp hklE,neU,by lia,fun D1 ks1 HG nD1 eD1 kl1 kin1 dkG bG=>?_⟩;refine⟨D1,ks1,rfl,aAA eD1,by lia,fun ls ss nls perm so=>?_⟩;have sS:Same HG (upd HG ls (.lst (ss.map V.str))):=ar nls;have eS:(upd HG ls (.lst (ss.map V.str))) ls=some (.lst (ss.map V.str)):=af;have nlsp:ls≠p:=dkG.ne nls;generalize upd HG ls (.lst (ss.map V.str))=HH at *;have dkH:=dkG.same sS;have b1:But p HE HH:=(bF.trans bG).trans (aD sS);have hlrH:=b1 _ _ nlrp hlr;refine⟨_,rfl,.inl ⟨rfl,_,aAA hlrH⟩,_,rfl,_,rfl,lt_size (by decide:8<=1000),fun l8 n8=>?_⟩;have sF:Same HH (upd HH l8 (.lst [.int 0,.int 1,.int 1,.int 2,.int 2,.int 3,.int 1,.int 6])):=ar n8;have eF:(upd HH l8 (.lst [.int 0,.int 1,.int 1,.int 2,.int 2,.int 3,.int 1,.int 6])) l8=some (.lst (([0,1,1,2,2,3,1,6]:List Nat).map fun n=>V.int ((n:Nat):Int))):=af;have n8p:l8≠p:=dkH.ne n8;generalize upd HH l8 (.lst [.int 0,.int 1,.int 1,.int 2,.int 2,.int 3,.int 1,.int 6])=HI at *;have dkI:=dkH.same sF;refine⟨_,rfl,p,8,rfl,dkI,by decide,by decide,fun r8 HJ r80 r81 dkJ bJ=>?_⟩;obtain⟨m2,hm2,em2⟩:=abr (xs:=[0,1,1,2,2,3,1,6]) r80 r81;refine⟨l8,_,r8,_,rfl,rfl,aAA (bJ _ _ n8p eF),em2,?_⟩;have hm6:m2<=6:=by
    simp only [adO,aet,agy] at hm2;lia
   have b2:But p HE HJ:=(b1.trans (aD sF)).trans bJ;refine⟨_,rfl,p,kl,m2,U,rfl,dkJ,by lia,b2 _ _ nklp hklE,neU,by lia,fun D2 ks2 HK nD2 eD2 kl2 kin2 dkK bK=>⟨lt_size (by decide:2<=1000),fun T nT=>?_⟩⟩;have sT:Same HK (upd HK T (.tup [.ref ls,.ref D2])):=ar nT;have eT:(upd HK T (.tup [.ref ls,.ref D2])) T=some (.tup [.ref ls,.ref D2]):=af;generalize upd HK T (.tup [.ref ls,.ref D2])=HL at *;have b3:But p HE HL:=(b2.trans bK).trans (aD sT);have dkL:=dkK.same sT;have vl:vs.length=rs.length:=hR.1;have hlrL:=b3 _ _ nlrp hlr;refine⟨lr,vs,.ref T,rfl,rfl,hlrL,adU (show vs.length < 1000 by lia) (lt_size (adL _)),?_⟩;have hlsL:HL ls=some (.lst (ss.map V.str)):=sT _ _ (bK _ _ nlsp (bJ _ _ nlsp (sF _ _ eS)));have hD2L:=sT _ _ eD2;have rmT:RoomAt (cQ lr HL) (.ref T) (ss,ks2):=by
    refine⟨T,ls,D2,rfl,?_,?_,?_⟩
    ·unfold cQ;rw [if_neg (fun z=>?_)]
     ·exact eT
     ·rw [z,hlrL] at eT;cases eT
    ·unfold cQ;rw [if_neg (fun z=>?_)]
     ·exact hlsL
     ·rw [z] at nls;rw [(bF.trans bG) _ _ nlrp hlr] at nls;cases nls
    ·unfold cQ;rw [if_neg (fun z=>?_)]
     ·exact hD2L
     ·rw [z] at nD2;rw [b2 _ _ nlrp hlr] at nD2;cases nD2
   have hR3:RoomsAt (cQ lr HL) vs rs:=hR.pool (xm dkE nlrp.symm.symm) (yo b3);refine .mk (vs++[.ref T]) (rs++[(ss,ks2)]) _ _ rfl af ?_ (by rw [adI,rl];rfl) (fun x hx=>?_) ?_ ?_ ?_
   ·rw [wd];exact hR3.snocD rmT
   ·rcases ad6.mp hx with h | h
    ·exact rm x h
    ·rw [adT] at h;rw [h];refine⟨fun k hk=>kin1 k (perm.mem_iff.mp hk),?_,?_,gF so,kin2,?_⟩
     ·show 1<=ss.length;rw [perm.length_eq];lia
     ·show ss.length<=4;rw [perm.length_eq];lia
     ·show ks2.length<=6;lia
   ·obtain⟨a,f',c,e⟩:=dkL;exact⟨a,f',c,by rw [aj (aeL nlrp)];exact e⟩
   ·exact (bE.trans b3).new nlr
   ·rw [aj nklr];exact b3 _ _ nklp hklE
abbrev rmD (rs:List Rm)(i:Nat):Rm:=(rs[i]?).getD ([],[])
theorem next_iffD {rs:List Rm}{hand:List Str}{o:List Nat}{i:Nat}:i∈jg rs hand o↔i < rs.length/\i ∉ o/\jV hand (rmD rs i).1=true:=by
 unfold jg;rw [aeA,ae1,aei,agI,decide_eq_false_iff_not]
theorem bX (ks:List Str)(rs:List Rm):cy ks rs []:=fun j i e=>by simp at e
theorem aI {ks:List Str}{rs:List Rm}{o:List Nat}{i:Nat}(g:cy ks rs o)(hi:i∈jg rs (aV ks rs o) o):cy ks rs (o++[i]):=by
 intro j k e;obtain⟨h1,h2,h3⟩:=next_iffD.mp hi;by_cases hj:j < o.length
 ·rw [ad0 hj] at e;rw [ae9 (by lia)];exact g j k e
 ·rw [ad1 (by lia)] at e;have:j - o.length=0:=by
   have:=(adF.mp e).1;simp at this;lia
  rw [this] at e;cases e;have ej:j=o.length:=by lia
  subst ej;rw [ae9 (adL _),aem];exact⟨h1,h2,h3⟩
theorem cF {ks:List Str}{rs:List Rm}{o:List Nat}{i:Nat}(g:cy ks rs (o++[i])):cy ks rs o/\i∈jg rs (aV ks rs o) o:=by
 constructor
 ·intro j k e;have hj:j < o.length:=(adF.mp e).1;have:=g j k (by rw [ad0 hj];exact e);rw [ae9 (by lia)] at this;exact this
 ·have:=g o.length i (by simp);rw [ae9 (adL _),aem] at this;exact next_iffD.mpr this
theorem mB {p:List Nat->Prop}(h0:p [])(hs:∀ o i,p o->p (o++[i]))(o:List Nat):p o:=by
 have go:∀ n (o:List Nat),o.length=n->p o:=fun n=>by
  induction n with
  | zero=>intro o e;rw [afx e];exact h0
  | succ n ih =>
   intro o e;rcases aga o with z | ⟨r,y,z⟩
   ·subst z;cases e
   ·rw [agb] at z;subst z;exact hs r y (ih r (by simpa using e))
 exact go _ o rfl
theorem bu {ks:List Str}{rs:List Rm}:∀ o,cy ks rs o->o.Nodup:=by
 refine mB (fun _=>.nil) fun o i ih g=>?_;obtain⟨g1,g2⟩:=cF g;rw [aeY];refine⟨ih g1,by simp,fun a ha b hb=>?_⟩;rw [adT] at hb;subst hb;exact fun z=>(next_iffD.mp g2).2.1 (z▸ha)
theorem ik {ks:List Str}{rs:List Rm}:∀ o,cy ks rs o->∀ i∈o,i < rs.length:=by
 refine mB (fun _ i z=>nomatch z) fun o i ih g k hk=>?_;obtain⟨g1,g2⟩:=cF g;rcases ad6.mp hk with z | z
 ·exact ih g1 k z
 ·rw [adT] at z;subst z;exact (next_iffD.mp g2).1
theorem eJ:∀ {n:Nat} {o:List Nat},o.Nodup->(∀ i∈o,i < n)->o.length<=n
 | 0,[],_,_=>adL _
 | 0,a::_,_,lt=>absurd (lt a (adV ..)) (by lia)
 | n+1,o,nd,lt=>by
  have ih:=eJ (n:=n) (o:=o.erase n) (nd.erase n) fun i hi=>by
   have:=lt i (List.mem_of_mem_erase hi);have:i≠n:=fun z=>by subst z;exact (nd.not_mem_erase) hi
   lia
  by_cases hn:n∈o
  ·rw [agL hn] at ih;lia
  ·rw [List.erase_of_not_mem hn] at ih;lia
theorem dF {ks:List Str}{rs:List Rm}{o:List Nat}(g:cy ks rs o):o.length<=rs.length:=eJ (bu o g) (ik o g)
theorem aaW {hand:List Str}{r:List Str}(m:jV hand r=true)(k:Str):r.count k<=hand.count k:=by
 by_cases hk:k∈r
 ·unfold jV at m;rw [aes] at m;exact aeZ (m _ hk)
 ·rw [ae8 hk];exact ad7 _
theorem lL {ks:List Str}{rs:List Rm}(k:Str):∀ o,cy ks rs o->(aV ks rs o).count k+(o.flatMap fun i=>(rmD rs i).1).count k=ks.count k+(o.flatMap fun i=>(rmD rs i).2).count k:=by
 refine mB (fun _=>by simp [aV]) fun o i ih g=>?_;obtain⟨g1,g2⟩:=cF g;have:=ih g1;have le:=aaW (next_iffD.mp g2).2.2 k;rw [iV,agq,agq,afG,afG];unfold kF;rw [afG,fw];simp only [afc,List.flatMap_nil,aew];show (aV ks rs o).count k - (rmD rs i).1.count k+(rmD rs i).2.count k+_=_;lia
theorem nv {ks:List Str}{rs:List Rm}{o o':List Nat}(g:cy ks rs o)(g':cy ks rs o')(p:o.Perm o'):(aV ks rs o).Perm (aV ks rs o'):=by
 rw [List.perm_iff_count];intro k;have a:=lL k o g;have b:=lL k o' g';have c:=(p.flatMap_right fun i=>(rmD rs i).1).count_eq k;have d:=(p.flatMap_right fun i=>(rmD rs i).2).count_eq k;lia
theorem om {rs:List Rm}{hd hd':List Str}{o o':List Nat}(p:hd.Perm hd')(q:o.Perm o'):jg rs hd o=jg rs hd' o':=by
 unfold jg;apply af4;intro i _;have e1:decide (i∈o)=decide (i∈o'):=aeV.mpr q.mem_iff;have e2:∀ l,jV hd l=jV hd' l:=fun l=>by
  unfold jV;congr 1;funext x;rw [p.count_eq]
 rw [e1,e2]
structure LevL (h:Hs)(n:Nat)(L:List (List Nat)):Prop where
 gone:∀ o∈L,cy h.1 h.2 o
 len:∀ o∈L,o.length=n
 nd:(L.map aU).Nodup
abbrev aZ (h:Hs)(o:List Nat):List Nat:=jg h.2 (aV h.1 h.2 o) o
theorem LevL.nil (h:Hs)(n:Nat):LevL h n []:=⟨fun o z=>absurd z aet,fun o z=>absurd z aet,ahD⟩
theorem LevL.snoc {h:Hs}{n:Nat}{M:List (List Nat)}(l:LevL h (n+1) M){o:List Nat}{i:Nat}(g:cy h.1 h.2 o)(e:o.length=n)(hi:i∈aZ h o)(no:aU (o++[i]) ∉ M.map aU):LevL h (n+1) (M++[o++[i]]):=by
 refine⟨fun x hx=>?_,fun x hx=>?_,?_⟩
 ·rcases ad6.mp hx with z | z
  ·exact l.gone x z
  ·rw [adT] at z;subst z;exact aI g hi
 ·rcases ad6.mp hx with z | z
  ·exact l.len x z
  ·rw [adT] at z;subst z;simp [e]
 ·rw [adW,aeY];refine⟨l.nd,by simp,fun a ha b hb=>?_⟩;rw [agz,adT] at hb;subst hb;exact fun z=>no (z▸ha)
def aa9 (h:Hs)(n:Nat)(L:List (List Nat)):Prop:=∀ o,cy h.1 h.2 o->o.length=n->aU o∈L.map aU
theorem wq (h:Hs):aa9 h 0 [[]]:=fun o g e=>by
 rw [afx e];simp
theorem wk {h:Hs}{n:Nat}{L M:List (List Nat)}(l:LevL h n L)(a:aa9 h n L)(k:∀ o∈L,∀ i∈aZ h o,aU (o++[i])∈M.map aU):aa9 h (n+1) M:=fun o' g e=>by
 rcases aga o' with z | ⟨o,i,z⟩
 ·subst z;cases e
 ·rw [agb] at z;subst z;obtain⟨g1,g2⟩:=cF g;obtain⟨o1,m1,e1⟩:=ad5.mp (a o g1 (by simpa using e));have p:=eA (bu o1 (l.gone o1 m1)) (bu o g1) e1;have g3:i∈aZ h o1:=by
   unfold aZ;rw [om (nv (l.gone o1 m1) g1 p) p];exact g2
  have:=k o1 m1 i g3;rw [cS,e1,← cS] at this;exact this
theorem vD {h:Hs}{n:Nat}{L:List (List Nat)}(l:LevL h n L)(ne:L≠[]):n<=h.2.length:=by
 cases L with
 | nil=>exact absurd rfl ne
 | cons o r=>rw [← l.len o (adV ..)];exact dF (l.gone o (adV ..))
theorem wA {h:Hs}{n:Nat}{L:List (List Nat)}(l:LevL h n L):L.length<=2 ^ h.2.length:=by
 have:(L.map aU).length<=2 ^ h.2.length:=eJ l.nd fun i hi=>by
  obtain⟨o,ho,rfl⟩:=ad5.mp hi;exact rA (ik o (l.gone o ho))
 simpa using this
def zW (C:Addr):Sp:=fun vs H Q _=>∃ (d dx:Addr) (v:V) (h:Hs),vs=[.ref d,v]/\HouseAt H v h/\cB h/\vm h/\H d=some (.ins C dx [])/\∀ ks H',acT h ks->But d H H'->DoorsAt C H' d h ks->Q .non H'
theorem rH {d:Addr}{H:Hp}{o:HO}:Same (cQ d H) (upd H d o):=fun b u e=>by
 unfold cQ at e;split at e
 ·cases e
 ·rename_i hb;rw [aj hb];exact e
theorem kY {d:Addr}{H H':Hp}(s:Same H H'):Same (cQ d H) (cQ d H'):=fun b u e=>by
 unfold cQ at e ⊢;split at e
 ·cases e
 ·rename_i hb;rw [if_neg hb];exact s _ _ e
theorem eV {d b:Addr}{H:Hp}{o:HO}(n:b≠d)(e:H b=some o):cQ d H b=some o:=by
 unfold cQ;rw [if_neg n];exact e
theorem aap {d:Addr}{H H':Hp}(s:Same (cQ d H) H'):But d H H':=fun b u n e=>s _ _ (eV n e)
theorem gG {d b C dx:Addr}{fs:List (Str×V)}{H:Hp}{o:HO}(hd:H d=some (.ins C dx fs))(e:H b=some o)(n:o≠.ins C dx fs):b≠d:=fun z=>by
 subst z;rw [hd] at e;cases e;exact n rfl
theorem PairsAt.off {d C dx:Addr}{fs:List (Str×V)}{H:Hp}{v:V}{cs:List (Nat×Int)}(hd:H d=some (.ins C dx fs))(p:PairsAt H v cs):PairsAt (cQ d H) v cs:=by
 obtain⟨a,vs,e,h,l,f⟩:=p;exact⟨a,vs,e,eV (gG hd h (fun z=>nomatch z)) h,l,fun i x c a b=>by
  obtain⟨t,e1,e2⟩:=f i x c a b;exact⟨t,e1,eV (gG hd e2 (fun z=>nomatch z)) e2⟩⟩
theorem RowsP.off {d C dx:Addr}{fs:List (Str×V)}{H:Hp}{a:Addr}{cs:List (List (Nat×Int))}(hd:H d=some (.ins C dx fs))(p:RowsP H a cs):RowsP (cQ d H) a cs:=by
 obtain⟨vs,h,l,f⟩:=p;exact⟨vs,eV (gG hd h (fun z=>nomatch z)) h,l,fun i x c a b=>(f i x c a b).off hd⟩
theorem RoomsAt.off {d C dx:Addr}{fs:List (Str×V)}{H:Hp}{vs:List V}{rs:List Rm}(hd:H d=some (.ins C dx fs))(h:RoomsAt H vs rs):RoomsAt (cQ d H) vs rs:=⟨h.1,fun i v r a b=>by
 obtain⟨t,x,y,e,h1,h2,h3⟩:=h.2 i v r a b;exact⟨t,x,y,e,eV (gG hd h1 (fun z=>nomatch z)) h1,eV (gG hd h2 (fun z=>nomatch z)) h2,eV (gG hd h3 (fun z=>nomatch z)) h3⟩⟩
theorem o3 (z:Str)(ks:List Str):inV (.str z) (ks.map V.str)=decide (z∈ks):=by
 unfold inV
 induction ks with
 | nil=>rfl
 | cons a r ih =>
  rw [adS,afS,ih];show (a == z || decide (z∈r))=_;by_cases e:a=z
  ·subst e;simp
  ·have e':¬ z=a:=fun x=>e x.symm;simp [e,e']
theorem jU (ks:List Str):(ks.map V.str).all oR=true:=by
 rw [af6,aes];intro _ _
 rfl
theorem tj {x y:V}:[x,y].length<=sizeLine:=show 2<=sizeLine by decide
def ads (keys:List Str):V->V:=fun v=>match v with
 | .str k=>.int ((keys.count k:Nat):Int)
 | v=>v
theorem eI:aA ["self","house","keys","rooms","kinds"] ["self","house"] (ai aM):=scM rfl rfl rfl rfl (by decide +kernel)
theorem fg:(["locks","within","kind"]:List Str).Nodup:=by decide +kernel
theorem lH:(["kind","keys"]:List Str).Nodup:=by decide +kernel
theorem dg:(["locks","within","kinds"]:List Str).Nodup:=by decide +kernel
theorem gS:(["place","kind","locks"]:List Str).Nodup:=by decide +kernel
theorem hZ:(["place","kind","within","locks"]:List Str).Nodup:=by decide +kernel
theorem yk {f:Addr}{fd:FuncData}{C:Addr}(F:Fun K "__init__" "Doors.__init__" aM f fd)(DC:qN K C)(gk:mg "sorted" = none)(bM:mg "enumerate" = none):FnOk P w K mg base CX0 1 f fd ["self","house"] (zW C):=by
 refine F.ok eI (fun vs H Q E h=>?_) (fun cdv A outer s H vs Q E hr h=>?_)
 ·obtain⟨d,dx,v,h,rfl,_⟩:=h
  rfl
 ·have hu:=dO hr;obtain⟨d,dx,v,h,rfl,⟨t,a,r,vs,rfl,ht,ha,hr',hR⟩,ok,few,hd,q⟩:=h;refine⟨_,(ag (nz (pv 1) (kh rfl (aF (au (i:=2) eI.nd rfl (.inr rfl)) (aF (au (i:=3) eI.nd rfl (.inl rfl)) c6))))
   (ag (ay (i:=4) eI.nd rfl (.inr rfl) (aw (mJ rfl) rfl gk boot_sorted (ae (aba (P:=P) (w:=w) (tg2:=.Name "kind" _) (outer:=ai (aM)) (N:=["self","house","keys","rooms","kinds"]) (N':=["locks","within","kind"]) (nl:=3) (ix:=[]) rfl rfl rfl (aX (pv 3))
    (fun _ _ _ _=>(i6 (K:=K) (n:=2) rfl rfl (aF (au (i:=0) fg rfl (.inl rfl) (.inr rfl)) (aF (au (i:=1) fg rfl (.inl rfl) (.inr rfl)) c6)))) (fun _ _ _ _=>(tu (K:=K) rfl (pv 0))) (fun _ _ _ _=>(au (i:=2) fg rfl (.inl rfl) (.inr rfl)))
    (fun _ _ _ _=>(pv 2))) ah)))
   (ag (xR (pv 0) (kI (tg:=.Name "kind" _) (outer:=ai (aM)) (N:=["self","house","keys","rooms","kinds"]) (N':=["kind","keys"]) (nl:=1) (ix:=[2]) rfl rfl rfl (aX (pv 4))
    (fun _ _ _ _=>(au (i:=0) lH rfl (.inl rfl) (.inr rfl))) (fun _ _ _ _=>dA)
    (fun _ _ _ _=>(nj (K:=K) rfl ad9 aeS aeT iu (pv 1) (ae (pv 0) ah)))) rfl)
   (ag (xR (pv 0) (wY ["locks"] (outer:=ai (aM)) (N:=["self","house","keys","rooms","kinds"]) (N':=["locks","within","kinds"]) (nl:=2) (ix:=[4]) rfl rfl rfl (aX (pv 3))
    (fun _ _ _ _=>(i6 (K:=K) (n:=2) rfl rfl (aF (au (i:=0) dg rfl (.inr rfl) (.inl rfl)) (aF (au (i:=1) dg rfl (.inl rfl) (.inr rfl)) c6)))) (fun _ _ _ _=>dA)
    (fun _ _ _ _=>(kI (outer:=wB (gj (ac4 ((bZ aM).getD 3 (.Pass ⟨0,0,0,0⟩)))) (ai (aM))) (N:=["locks","within","kinds"]) (N':=["place","kind","locks"]) (nl:=2) (ix:=[0]) (kq rfl) rfl rfl (um (K:=K) rfl rfl bM (ae (pv 2) ah))
    (fun _ _ _ _=>(i6 (K:=K) (n:=2) rfl rfl (aF (au (i:=0) gS rfl (.inl rfl) (.inr rfl)) (aF (au (i:=1) gS rfl (.inl rfl) (.inr rfl)) c6)))) (fun _ _ _ _=>(hE (aJ (jM (K:=K) rfl) (pv 1) (pv 2) rfl)))
    (fun _ _ _ _=>(oo (ae (pv 0) (ae (nj (K:=K) rfl ad9 aeS aeT iu (pv 2) (ae (pv 1) ah)) ah))))))) rfl)
   (ao (xR (pv 0) (wY ["locks","within"] (outer:=ai (aM)) (N:=["self","house","keys","rooms","kinds"]) (N':=["locks","within","kinds"]) (nl:=2) (ix:=[4]) rfl rfl rfl (aX (pv 3))
    (fun _ _ _ _=>(i6 (K:=K) (n:=2) rfl rfl (aF (au (i:=0) dg rfl (.inr rfl) (.inl rfl)) (aF (au (i:=1) dg rfl (.inr rfl) (.inl rfl)) c6)))) (fun _ _ _ _=>dA)
    (fun _ _ _ _=>(kI (outer:=wB (gj (ac4 ((bZ aM).getD 4 (.Pass ⟨0,0,0,0⟩)))) (ai (aM))) (N:=["locks","within","kinds"]) (N':=["place","kind","within","locks"]) (nl:=2) (ix:=[1,0]) (kq rfl) rfl rfl (um (K:=K) rfl rfl bM (ae (pv 2) ah))
    (fun _ _ _ _=>(i6 (K:=K) (n:=2) rfl rfl (aF (au (i:=0) hZ rfl (.inl rfl) (.inr rfl)) (aF (au (i:=1) hZ rfl (.inl rfl) (.inr rfl)) c6)))) (fun _ _ _ _=>(hE (PW.pt (lX (aJ (jM (K:=K) rfl) (pv 1) (pv 3) rfl) (jm (aJ (jM (K:=K) rfl) (pv 1) (pv 2) rfl))))))
    (fun _ _ _ _=>(oo (ae (pv 0) (ae (aP tG (nj (K:=K) rfl ad9 aeS aeT iu (pv 2) (ae (pv 1) ah)) (nj (K:=K) rfl ad9 aeS aeT iu (pv 3) (ae (pv 1) ah))) ah))))))) rfl)))))),?_⟩
  refine⟨_,rfl,t,_,rfl,aAB ht,rfl,_,_,rfl,_,_,rfl,rfl,?_⟩;unfold aa7 yg tCB iC rZ;dsimp only;refine rQ (te:=abu 3) (h:=h) (vs:=vs) (fun R e=>⟨_,rfl,e⟩) hr' hR few fun D1 ss H1 s1 nD1 hD1 nd1 mem1=>?_;have l1:=few ss nd1 fun k hk=>(mem1 k).mp hk;refine⟨D1,ss,rfl,hD1,by lia,fun l ks nl hp hs=>?_⟩;have s2:Same H1 (upd H1 l (.lst (ks.map V.str))):=ar nl;have e2:(upd H1 l (.lst (ks.map V.str))) l=some (.lst (ks.map V.str)):=af;generalize upd H1 l (.lst (ks.map V.str))=H2 at *;have KO:acT h ks:=⟨hp.nodup_iff.mpr nd1,fun k=>by rw [hp.mem_iff];exact mem1 k,by rw [hp.length_eq];lia⟩;rw [show cw 4=fun v σ H k=>k (σ.set 4 (some v)) H from rfl];dsimp only;unfold ac6;dsimp only;have d2:H2 d=some (.ins C dx []):=s2 _ _ (s1 _ _ hd);have sH2:Same H H2:=s1.trans s2;have G0:Same (cQ d H) (cQ d H2):=kY sH2;have a2:=G0 _ _ (eV (gG hd ha (fun z=>nomatch z)) ha);have r2:=G0 _ _ (eV (gG hd hr' (fun z=>nomatch z)) hr');have R2:=(RoomsAt.off hd hR).same G0;have k2:=eV (gG d2 e2 (fun z=>nomatch z)) e2;refine aQ _ _ _ _ _ _ _ _ _ ?_;refine⟨_,rfl,l,rfl,⟨_,aAA e2⟩,fun D3 nD3=>?_⟩;refine zp (F:=ads h.1) e2 nD3 (by rw [adG];have:=KO.few;lia) (fun x=>rfl) (fun H3 x R hx s3 hR3=>?_) (fun H3 s3 hD3=>?_)
  ·obtain⟨k,_,rfl⟩:=ad5.mp hx;have a3:=s3 _ _ (sH2 _ _ ha);exact⟨_,rfl,.inl ⟨rfl,_,aAA a3⟩,_,rfl,a,_,k,rfl,rfl,a3,hR3⟩
  ·have d3:=s3 _ _ d2;have D3':H3 D3=some (.lst ((fB ks h.1).map V.int)):=by
    rw [hD3];unfold fB;rw [ael,ael]
    rfl
   refine⟨_,rfl,d,C,dx,[],rfl,d3,DC.cls,DC.n1,by decide,?_⟩;have s4:Same (cQ d H3) (upd H3 d (.ins C dx (iK "at_first" (.ref D3) []))):=rH;have d4:(upd H3 d (.ins C dx (iK "at_first" (.ref D3) []))) d=some (.ins C dx (iK "at_first" (.ref D3) [])):=af;generalize upd H3 d (.ins C dx (iK "at_first" (.ref D3) []))=H4 at *;have G4:Same (cQ d H2) H4:=(kY s3).trans s4;have l4:=s4 _ _ (eV (gG d3 D3' (fun z=>nomatch z)) D3');have f4:(iK "at_first" (.ref D3) []).length<=1:=gx _ _ _;generalize ef4:iK "at_first" (.ref D3) []=fs4 at *;refine aQ _ _ _ _ _ _ _ _ _ ?_;refine⟨_,rfl,r,rfl,⟨_,aAA (G4 _ _ r2)⟩,fun D5 nD5=>?_⟩;refine oj (F:=dZ ks) (G4 _ _ r2) (R2.same G4) nD5 ok.rl (fun x y=>rfl) (fun H5 m la lb R hm hla hlb s5 k5=>?_) (fun H5 s5 RP=>?_)
   ·refine aQ _ _ _ _ _ _ _ _ _ ?_;have l5:=s5 _ _ (G4 _ _ k2);refine⟨_,rfl,l,rfl,⟨_,aAA l5⟩,fun D6 nD6=>?_⟩;refine og (pb:=fun p=>decide (kAt ks p∈m.1)) (gv:=fun p=>((m.1.count (kAt ks p):Nat):Int)) l5 nD6 KO.few (fun x y=>rfl) (fun H6 p R hp s6 k6=>?_) (fun H6 p R hp s6 k6=>?_) (fun H6 x s6 pa=>k5 H6 x s6 pa)
    ·refine⟨_,rfl,_,rfl,la,_,rfl,.inl (aAA (s6 _ _ hla)),rfl,jU _,_,rfl,?_⟩;have e:=o3 (kAt ks p) m.1;show R (inV _ _) H6;rw [e];exact k6
    ·exact⟨_,rfl,_,rfl,.inl ⟨rfl,_,aAA (s6 _ _ hla)⟩,_,rfl,la,_,_,rfl,rfl,s6 _ _ hla,tj,k6⟩
   ·have d5:=s5 _ _ d4;refine⟨_,rfl,d,C,dx,_,rfl,d5,DC.cls,DC.n2,by lia,?_⟩;have s6:Same (cQ d H5) (upd H5 d (.ins C dx (iK "wants" (.ref D5) fs4))):=rH;have d6:(upd H5 d (.ins C dx (iK "wants" (.ref D5) fs4))) d=some (.ins C dx (iK "wants" (.ref D5) fs4)):=af;generalize upd H5 d (.ins C dx (iK "wants" (.ref D5) fs4))=H6 at *;have G6:Same (cQ d H4) H6:=(kY s5).trans s6;have off4:Same (cQ d H2) (cQ d H4):=fun b u e=>by
     by_cases z:b=d
     ·subst z;unfold cQ at e;rw [if_pos rfl] at e;cases e
     ·exact eV z (G4 _ _ e)
    have G26:Same (cQ d H2) H6:=off4.trans G6;have l6:=G6 _ _ (eV (gG d4 l4 (fun z=>nomatch z)) l4);have W6:=(RP.off d5).same s6;have f6:(iK "wants" (.ref D5) fs4).length<=2:=adZ (gx _ _ _) (by lia);generalize ef6:iK "wants" (.ref D5) fs4=fs6 at *;refine aQ _ _ _ _ _ _ _ _ _ ?_;refine⟨_,rfl,r,rfl,⟨_,aAA (G26 _ _ r2)⟩,fun D7 nD7=>?_⟩;refine oj (F:=jz ks) (G26 _ _ r2) (R2.same G26) nD7 ok.rl (fun x y=>rfl) (fun H7 m la lb R hm hla hlb s7 k7=>?_) (fun H7 s7 RP7=>?_)
    ·refine aQ _ _ _ _ _ _ _ _ _ ?_;have l7:=s7 _ _ (G26 _ _ k2);refine⟨_,rfl,l,rfl,⟨_,aAA l7⟩,fun D8 nD8=>?_⟩;refine og (pb:=chB ks m) (gv:=fun p=>acJ m (kAt ks p)) l7 nD8 KO.few (fun x y=>rfl) (fun H8 p R hp s8 k8=>?_) (fun H8 p R hp s8 k8=>?_) (fun H8 x s8 pa=>k7 H8 x s8 pa)
     ·refine⟨_,rfl,_,rfl,la,_,rfl,.inl (aAA (s8 _ _ hla)),rfl,jU _,_,rfl,?_⟩;have e:=o3 (kAt ks p) m.1;have e2:=o3 (kAt ks p) m.2;unfold chB at k8;show if inV _ _=true then _ else _
      rw [e];by_cases z:kAt ks p∈m.1
      ·rw [adY z] at k8 ⊢;exact gI k8
      ·rw [ad4 z] at k8 ⊢;refine eP ?_;refine⟨_,rfl,_,rfl,lb,_,rfl,.inl (aAA (s8 _ _ hlb)),rfl,jU _,_,rfl,?_⟩;show R (inV _ _) H8;rw [e2];exact k8
     ·exact⟨_,rfl,_,rfl,.inl ⟨rfl,_,aAA (s8 _ _ hlb)⟩,_,rfl,lb,_,_,rfl,rfl,s8 _ _ hlb,_,rfl,.inl ⟨rfl,_,aAA (s8 _ _ hla)⟩,_,rfl,la,_,_,rfl,rfl,s8 _ _ hla,_,_,rfl,rfl,tj,k8⟩
    ·have d7:=s7 _ _ d6;refine⟨_,rfl,d,C,dx,_,rfl,d7,DC.cls,DC.n3,by lia,?_⟩;have s8:Same (cQ d H7) (upd H7 d (.ins C dx (iK "changes" (.ref D7) fs6))):=rH;have d8:(upd H7 d (.ins C dx (iK "changes" (.ref D7) fs6))) d=some (.ins C dx (iK "changes" (.ref D7) fs6)):=af;generalize upd H7 d (.ins C dx (iK "changes" (.ref D7) fs6))=H8 at *;have G8:Same (cQ d H6) H8:=(kY s7).trans s8;have l8:=G8 _ _ (eV (gG d6 l6 (fun z=>nomatch z)) l6);have W8:=(W6.off d6).same G8;have C8:=(RP7.off d7).same s8;refine q ks H8 KO (aap ?_) ⟨dx,D3,D5,D7,_,d8,?_,?_,?_,?_,?_,l8,W8,C8⟩
     ·refine G0.trans (Same.trans (fun b u e=>?_) G8);by_cases z:b=d
      ·subst z;unfold cQ at e;rw [if_pos rfl] at e;cases e
      ·exact eV z (G26 _ _ e)
     all_goals subst ef6 ef4;rw [fc,fc,fc];rfl
def abn:HO->Bool
 | .dK _=>false
 | .frz _ _=>false
 | _=>true
def ndH (H:Hp):Hp:=fun b=>(H b).filter abn
theorem jt {H:Hp}{b:Addr}{u:HO}(e:H b=some u)(n:abn u=true):ndH H b=some u:=by
 unfold ndH;rw [e];simp [Option.filter,n]
theorem gD {H:Hp}:Same (ndH H) H:=fun b u e=>by
 unfold ndH at e;cases z:H b with
 | none=>rw [z] at e;cases e
 | some x =>
  rw [z] at e;simp only [Option.filter] at e;split at e
  ·exact e
  ·cases e
theorem acN {H:Hp}{b:Addr}{u:HO}(e:ndH H b=some u):abn u=true:=by
 unfold ndH at e;cases z:H b with
 | none=>rw [z] at e;cases e
 | some x =>
  rw [z] at e;simp only [Option.filter] at e;split at e
  ·rename_i hx;cases e;exact hx
  ·cases e
theorem ug {G H:Hp}{D:Addr}{x o:HO}(s:Same (ndH G) H)(hD:H D=some x)(n:abn x=false):Same (ndH G) (upd H D o):=fun b u e=>by
 have:=s _ _ e;rw [aj (fun z=>by subst z;rw [hD] at this;cases this;rw [acN e] at n;cases n)];exact this
theorem sQ {H:Hp}{D:Addr}{x o:HO}(hD:H D=some x)(n:abn x=false):Same (ndH H) (upd H D o):=ug gD hD n
theorem DoorsAt.nd {C:Addr}{H:Hp}{d:Addr}{h:Hs}{ks:List Str}(p:DoorsAt C H d h ks):DoorsAt C (ndH H) d h ks:=by
 obtain⟨dx,l,w,c,fs,h1,h2,h3,h4,h5,h6,h7,⟨v8,a8,b8,c8⟩,⟨v9,a9,b9,c9⟩⟩:=p;have pa:∀ {v cs},PairsAt H v cs->PairsAt (ndH H) v cs:=fun ⟨a,vs,e,x,y,z⟩=>⟨a,vs,e,jt x rfl,y,fun i x c a b=>let ⟨t,e1,e2⟩:=z i x c a b;⟨t,e1,jt e2 rfl⟩⟩;exact⟨dx,l,w,c,fs,jt h1 rfl,h2,h3,h4,h5,h6,jt h7 rfl,⟨v8,jt a8 rfl,b8,fun i x c a b=>pa (c8 i x c a b)⟩,⟨v9,jt a9 rfl,b9,fun i x c a b=>pa (c9 i x c a b)⟩⟩
abbrev kB (o:List Nat):Key:=.inl ((aU o:Nat):Int)
structure DictL (F:List Nat->List V)(H:Hp)(kvs:List (Key×V))(os:List (List Nat)):Prop where
 keys:kvs.map (·.1)=os.map kB
 at_:∀ (i:Nat) (kv:Key×V) (o:List Nat),kvs[i]? = some kv->os[i]? = some o->∃ l:Addr,kv.2=.ref l/\H l=some (.lst (F o))
theorem DictL.nil {F:List Nat->List V}{H:Hp}:DictL F H [] []:=⟨rfl,fun i kv o e=>nomatch e⟩
theorem DictL.same {F:List Nat->List V}{H H':Hp}{kvs:List (Key×V)}{os:List (List Nat)}(d:DictL F H kvs os)(s:Same (ndH H) H'):DictL F H' kvs os :=
 ⟨d.keys,fun i kv o a b=>let ⟨l,e,x⟩:=d.at_ i kv o a b;⟨l,e,s _ _ (jt x rfl)⟩⟩
theorem DictL.len {F:List Nat->List V}{H:Hp}{kvs:List (Key×V)}{os:List (List Nat)}(d:DictL F H kvs os):kvs.length=os.length:=by
 have:=aeu List.length d.keys;simpa using this
theorem lM {o o':List Nat}(e:kB o=kB o'):aU o=aU o':=by
 cases o<;>cases o'<;>exact Int.ofNat.inj (Sum.inl.inj e)
theorem ub {o:List Nat}{os:List (List Nat)}:kB o∈os.map kB↔aU o∈os.map aU:=by
 rw [ad5,ad5];exact⟨fun ⟨x,m,e⟩=>⟨x,m,lM e⟩,fun ⟨x,m,e⟩=>⟨x,m,by unfold kB;rw [e]⟩⟩
theorem uv {kvs:List (Key×V)}{k:Key}:(fk kvs k).isSome=true↔k∈kvs.map (·.1):=by
 induction kvs with
 | nil=>simp [fk]
 | cons p r ih =>
  by_cases e:p.1=k
  ·rw [cn e];simp [e]
  ·rw [cm e,ih];have e':¬ k=p.1:=fun z=>e z.symm;simp [e']
theorem wD {kvs:List (Key×V)}{k:Key}{v:V}(n:k ∉ kvs.map (·.1)):fJ kvs k v=kvs++[(k,v)]:=by
 unfold fJ;rw [if_neg];intro z;rw [afw] at z;obtain⟨p,hp,e⟩:=z;exact n (ad5.mpr ⟨p,hp,aeZ e⟩)
theorem DictL.snoc {F:List Nat->List V}{H H':Hp}{kvs:List (Key×V)}{os:List (List Nat)}{o:List Nat}{l:Addr}(d:DictL F H kvs os)(s:Same (ndH H) H')(hl:H l=some (.lst (F o))):DictL F H' (kvs++[(kB o,.ref l)]) (os++[o]):=by
 refine⟨by rw [adW,adW,d.keys];rfl,fun i kv x a b=>?_⟩;have ln:=d.len;by_cases hi:i < kvs.length
 ·rw [ad0 hi] at a;rw [ad0 (by lia)] at b;exact (d.same s).at_ i kv x a b
 ·rw [ad1 (by lia)] at a;rw [ad1 (by lia),← ln] at b;have z:i - kvs.length=0:=by
   have:=(adF.mp a).1;simp at this;lia
  rw [z] at a b;cases a;cases b;exact⟨l,rfl,s _ _ (jt hl rfl)⟩
structure StepsM (h:Hs)(n:Nat)(os:List (List Nat)):Prop where
 gone:∀ o∈os,cy h.1 h.2 o
 lt:∀ o∈os,o.length < n
 nd:(os.map aU).Nodup
 all:∀ o,cy h.1 h.2 o->o.length < n->aU o∈os.map aU
 up:os.Pairwise fun a b=>a.length<=b.length
theorem StepsM.zero (h:Hs):StepsM h 0 []:=⟨fun o z=>absurd z aet,fun o z=>absurd z aet,ahD,fun o _ z=>absurd z (afU _),.nil⟩
theorem mi {h:Hs}{n:Nat}{os L:List (List Nat)}(s:StepsM h n os)(l:LevL h n L):∀ x∈L,aU x ∉ os.map aU:=fun x hx z=>by
 obtain⟨y,hy,e⟩:=ad5.mp z;have p:=eA (bu y (s.gone y hy)) (bu x (l.gone x hx)) e;have:=p.length_eq;have:=s.lt y hy;have:=l.len x hx;lia
theorem StepsM.next {h:Hs}{n:Nat}{os L:List (List Nat)}(s:StepsM h n os)(l:LevL h n L)(a:aa9 h n L):StepsM h (n+1) (os++L):=by
 refine⟨fun o ho=>?_,fun o ho=>?_,?_,fun o g ho=>?_,?_⟩
 ·rcases ad6.mp ho with z | z
  ·exact s.gone o z
  ·exact l.gone o z
 ·rcases ad6.mp ho with z | z
  ·exact aeN (s.lt o z)
  ·rw [l.len o z];exact afu n
 ·rw [adW,aeY];refine⟨s.nd,l.nd,fun x hx y hy e=>?_⟩;subst e;obtain⟨o,ho,rfl⟩:=ad5.mp hy;exact mi s l o ho hx
 ·rw [adW,ad6];by_cases e:o.length=n
  ·exact .inr (a o g e)
  ·exact .inl (s.all o g (by lia))
 ·rw [List.pairwise_append];refine⟨s.up,?_,fun x hx y hy=>?_⟩
  ·rw [List.pairwise_iff_forall_sublist];intro x y sl;have mx:x∈L:=sl.subset (by simp);have my:y∈L:=sl.subset (by simp);rw [l.len x mx,l.len y my];exact adL _
  ·have:=s.lt x hx;have:=l.len y hy;lia
structure dj (h:Hs)(os:List (List Nat)):Prop where
 gone:∀ o∈os,cy h.1 h.2 o
 nd:(os.map aU).Nodup
 all:∀ o,cy h.1 h.2 o->aU o∈os.map aU
 up:os.Pairwise fun a b=>a.length<=b.length
theorem f7 {ks:List Str}{rs:List Rm}{o:List Nat}(g:cy ks rs o)(n:Nat):cy ks rs (o.take n):=fun j i e=>by
 have hj:j < n:=by
  have:=(adF.mp e).1;rw [aeb] at this;lia
 rw [afB,if_pos hj] at e;have:=g j i e;rw [List.take_take,Nat.min_eq_left (by lia)];exact this
theorem StepsM.done {h:Hs}{n:Nat}{os:List (List Nat)}(s:StepsM h n os)(a:aa9 h n []):dj h os:=by
 refine⟨s.gone,s.nd,fun o g=>?_,s.up⟩;by_cases hn:o.length < n
 ·exact s.all o g hn
 ·have:=a (o.take n) (f7 g n) (by rw [aeb];lia);exact absurd this (by simp)
theorem xq {h:Hs}{n:Nat}{os:List (List Nat)}(s:StepsM h n os):os.length<=2 ^ h.2.length:=by
 have:(os.map aU).length<=2 ^ h.2.length:=eJ s.nd fun i hi=>by
  obtain⟨o,ho,rfl⟩:=ad5.mp hi;exact rA (ik o (s.gone o ho))
 simpa using this
def cY (l:List Nat):Nat:=l.foldr (· + ·) 0
theorem bV (x:Nat)(l:List Nat):cY (x::l)=x+cY l:=rfl
theorem oZ (a b:List Nat):cY (a++b)=cY a+cY b:=by
 induction a with
 | nil=>show cY b=0+cY b;lia
 | cons x a ih=>show x+cY (a++b)=x+cY a+cY b;lia
theorem jX {α:Type}{l:List α}{f g:α->Nat}(h:∀ x∈l,f x=g x):cY (l.map f)=cY (l.map g):=by
 rw [afe h]
def yA (h:Hs):Nat->List Nat->Nat
 | 0,_=>1
 | n+1,o=>cY ((aZ h o).map fun i=>yA h n (o++[i]))
def Ends (h:Hs)(o:List Nat):Nat:=yA h (h.2.length - o.length) o
def tq (h:Hs):Nat->List Nat->Nat
 | 0,_=>1
 | n+1,o=>if aZ h o=[] then 1 else cY ((aZ h o).map fun i=>tq h n (o++[i]))
def Stuck (h:Hs)(o:List Nat):Nat:=tq h (h.2.length - o.length) o
theorem xD {h:Hs}{o:List Nat}(g:cy h.1 h.2 o){i:Nat}(hi:i∈aZ h o):o.length < h.2.length:=by
 have:=dF (aI g hi);rw [adI,ad8] at this;lia
theorem Ends.all {h:Hs}{o:List Nat}(e:o.length=h.2.length):Ends h o=1:=by
 unfold Ends;rw [e,af9]
 rfl
theorem Ends.step {h:Hs}{o:List Nat}(l:o.length < h.2.length):Ends h o=cY ((aZ h o).map fun i=>Ends h (o++[i])):=by
 unfold Ends;obtain⟨n,e⟩:∃ n,h.2.length - o.length=n+1:=⟨h.2.length - o.length - 1,by lia⟩;rw [e];show cY _=_;refine jX fun i _=>?_;rw [adI,ad8,show h.2.length - (o.length+1)=n by lia]
theorem wC {h:Hs}{o:List Nat}(g:cy h.1 h.2 o)(e:o.length=h.2.length):aZ h o=[]:=by
 cases hn:aZ h o with
 | nil=>rfl
 | cons i r =>
  have:=xD g (i:=i) (by rw [hn];exact adV);lia
theorem Stuck.end_ {h:Hs}{o:List Nat}(e:aZ h o=[]):Stuck h o=1:=by
 unfold Stuck;cases h.2.length - o.length with
 | zero=>rfl
 | succ n=>show (if _ then _ else _)=_;rw [if_pos e]
theorem Stuck.step {h:Hs}{o:List Nat}(g:cy h.1 h.2 o)(ne:aZ h o≠[]):Stuck h o=cY ((aZ h o).map fun i=>Stuck h (o++[i])):=by
 have l:o.length < h.2.length:=by
  cases hn:aZ h o with
  | nil=>exact absurd hn ne
  | cons i r=>exact xD g (i:=i) (by rw [hn];exact adV)
 unfold Stuck;obtain⟨n,e⟩:∃ n,h.2.length - o.length=n+1:=⟨h.2.length - o.length - 1,by lia⟩;rw [e];show (if _ then _ else _)=_;rw [if_neg ne];refine jX fun i _=>?_;rw [adI,ad8,show h.2.length - (o.length+1)=n by lia]
theorem ir {h:Hs}{o o':List Nat}(g:cy h.1 h.2 o)(g':cy h.1 h.2 o')(p:o.Perm o'):aZ h o=aZ h o':=om (nv g g' p) p
theorem ny {h:Hs}:∀ n o o',cy h.1 h.2 o->cy h.1 h.2 o'->o.Perm o'->yA h n o=yA h n o'
 | 0,_,_,_,_,_=>rfl
 | n+1,o,o',g,g',p=>by
  show cY _=cY _;rw [ir g g' p];refine jX fun i hi=>?_;exact ny n _ _ (aI g (by rw [← ir g g' p] at hi;exact hi)) (aI g' hi) (p.append_right [i])
theorem Ends.perm {h:Hs}{o o':List Nat}(g:cy h.1 h.2 o)(g':cy h.1 h.2 o')(p:o.Perm o'):Ends h o=Ends h o':=by
 unfold Ends;rw [p.length_eq];exact ny _ _ _ g g' p
theorem lu {h:Hs}:∀ n o o',cy h.1 h.2 o->cy h.1 h.2 o'->o.Perm o'->tq h n o=tq h n o'
 | 0,_,_,_,_,_=>rfl
 | n+1,o,o',g,g',p=>by
  show (if _ then _ else _)=(if _ then _ else _);rw [ir g g' p];split
  ·rfl
  ·refine jX fun i hi=>?_;exact lu n _ _ (aI g (by rw [← ir g g' p] at hi;exact hi)) (aI g' hi) (p.append_right [i])
theorem Stuck.perm {h:Hs}{o o':List Nat}(g:cy h.1 h.2 o)(g':cy h.1 h.2 o')(p:o.Perm o'):Stuck h o=Stuck h o':=by
 unfold Stuck;rw [p.length_eq];exact lu _ _ _ g g' p
def gY (h:Hs)(o:List Nat)(i:Nat):Nat:=cY (((aZ h o).filter fun j=>decide (j < i)).map fun j=>Ends h (o++[j]))
def rkF (h:Hs):List Nat->List Nat->Nat
 | _,[]=>0
 | o,i::e=>gY h o i+rkF h (o++[i]) e
theorem rF (h:Hs)(i:Nat):∀ e o,rkF h o (e++[i])=rkF h o e+gY h (o++e) i
 | [],o=>by
  show gY h o i+0=0+gY h (o++[]) i;rw [aew];lia
 | j::e,o=>by
  show gY h o j+rkF h (o++[j]) (e++[i])=gY h o j+rkF h (o++[j]) e+_;rw [rF h i e (o++[j]),aer];show _=_+gY h (o++j::e) i;rw [show [j]++e=j::e from rfl];lia
theorem jn {l:List Nat}(nd:l.Nodup){f:Nat->Nat}{i:Nat}(hi:i∈l):cY ((l.filter fun j=>decide (j < i)).map f)+f i<=cY (l.map f):=by
 induction l with
 | nil=>cases hi
 | cons a l ih =>
  rw [aeK] at nd;rw [adS,bV];rcases adO.mp hi with e | e
  ·subst e;rw [aea,if_neg (by simp)];have:∀ l:List Nat,cY ((l.filter fun j=>decide (j < i)).map f)<=cY (l.map f):=fun l=>by
    induction l with
    | nil=>exact adL _
    | cons b l ihb =>
     rw [aea];split
     ·simp only [adS,bV];lia
     ·simp only [adS,bV];lia
   have:=this l;lia
  ·have:=ih nd.2 e;rw [aea];split
   ·simp only [adS,bV];lia
   ·lia
theorem uP {l:List Nat}(nd:l.Nodup){f:Nat->Nat}{i k:Nat}(hi:i∈l)(lt:i < k):cY ((l.filter fun j=>decide (j < i)).map f)+f i<=cY ((l.filter fun j=>decide (j < k)).map f):=by
 have:=jn (l:=l.filter fun j=>decide (j < k)) (nd.filter _) (f:=f) (i:=i) (aeA.mpr ⟨hi,by simpa using lt⟩);rw [List.filter_filter] at this;rw [show (l.filter fun j=>decide (j < i))=l.filter fun a=>decide (a < i) && decide (a < k) from af4 fun x _=>by
  by_cases h1:x < i
  ·simp [h1,air h1 lt]
  ·simp [h1]]
 exact this
theorem pL (h:Hs)(o:List Nat):(aZ h o).Nodup:=ag0.filter _
theorem abH {h:Hs}:∀ e o,cy h.1 h.2 (o++e)->(o++e).length=h.2.length->rkF h o e < Ends h o
 | [],o,_,l=>by
  rw [aew] at l;rw [Ends.all l];exact Nat.zero_lt_one
 | i::e,o,g,l=>by
  have g1:cy h.1 h.2 ((o++[i])++e):=by rw [aer];exact g
  have l1:((o++[i])++e).length=h.2.length:=by rw [aer];exact l
  have:=abH e (o++[i]) g1 l1;have g2:cy h.1 h.2 (o++[i]):=by
   have:=f7 g1 (o++[i]).length
   rwa [ahE] at this
  have hi:=(cF g2).2;have lo:o.length < h.2.length:=xD (cF g2).1 hi;rw [Ends.step lo];show gY h o i+_ < _;have:=jn (pL h o) (f:=fun j=>Ends h (o++[j])) hi;unfold gY;lia
def ltL:List Nat->List Nat->Prop
 | [],[]=>False
 | [],_::_=>True
 | _::_,[]=>False
 | a::x,b::y=>a < b\/(a=b/\ltL x y)
theorem ab6:∀ x y:List Nat,x.length=y.length->x=y\/ltL x y\/ltL y x
 | [],[],_=>.inl rfl
 | [],_::_,h=>by cases h
 | _::_,[],h=>by cases h
 | a::x,b::y,h=>by
  rcases Nat.lt_trichotomy a b with l | e | l
  ·exact .inr (.inl (.inl l))
  ·subst e;rcases ab6 x y (by simpa using h) with e | l | l
   ·subst e;exact .inl rfl
   ·exact .inr (.inl (.inr ⟨rfl,l⟩))
   ·exact .inr (.inr (.inr ⟨rfl,l⟩))
  ·exact .inr (.inr (.inl l))
theorem sh {h:Hs}:∀ e e' o,cy h.1 h.2 (o++e)->(o++e).length=h.2.length->cy h.1 h.2 (o++e')->(o++e').length=h.2.length->ltL e e'->rkF h o e < rkF h o e'
 | [],[],_,_,_,_,_,l=>l.elim
 | [],_::_,o,_,l1,_,l2,_=>by
  rw [aew] at l1;rw [adI,aef] at l2;lia
 | _::_,[],_,_,_,_,_,l=>l.elim
 | i::e,j::e',o,g,l,g',l',lt=>by
  have g1:cy h.1 h.2 ((o++[i])++e):=by rw [aer];exact g
  have l1:((o++[i])++e).length=h.2.length:=by rw [aer];exact l
  have g1':cy h.1 h.2 ((o++[j])++e'):=by rw [aer];exact g'
  have l1':((o++[j])++e').length=h.2.length:=by rw [aer];exact l'
  show gY h o i+_ < gY h o j+_;rcases lt with lt | ⟨e0,lt⟩
  ·have:=abH e (o++[i]) g1 l1;have g2:cy h.1 h.2 (o++[i]):=by
    have:=f7 g1 (o++[i]).length
    rwa [ahE] at this
   have:=uP (pL h o) (f:=fun j=>Ends h (o++[j])) (cF g2).2 lt;unfold gY;lia
  ·subst e0;have:=sh e e' (o++[i]) g1 l1 g1' l1' lt;lia
theorem abp {h:Hs}{e e':List Nat}(g:cy h.1 h.2 e)(l:e.length=h.2.length)(g':cy h.1 h.2 e')(l':e'.length=h.2.length)(q:rkF h [] e=rkF h [] e'):e=e':=by
 rcases ab6 e e' (l.trans l'.symm) with z | z | z
 ·exact z
 ·have:=sh e e' [] g l g' l' z;lia
 ·have:=sh e' e [] g' l' g l z;lia
theorem vK (h:Hs)(o:List Nat):(aZ h o).Pairwise (· < ·):=List.pairwise_lt_range.filter _
def upB (b c:Nat)(wf:List Nat->Nat):List Nat->Nat:=fun x=>if aU x=b then wf x+c else wf x
theorem abc {x:List Nat}{c:Nat}{wf:List Nat->Nat}:upB (aU x) c wf x=wf x+c:=if_pos rfl
theorem qm {x:List Nat}{b c:Nat}{wf:List Nat->Nat}(h:aU x≠b):upB b c wf x=wf x:=if_neg h
theorem rK {c:Nat}{wf g:List Nat->Nat}{x:List Nat}:∀ {os:List (List Nat)},(os.map aU).Nodup->x∈os->cY (os.map fun y=>upB (aU x) c wf y * g y)=cY (os.map fun y=>wf y * g y)+c * g x
 | [],_,hx=>by cases hx
 | y::os,nd,hx=>by
  rw [adS,aeK] at nd;rw [adS,adS,bV,bV];rcases adO.mp hx with e | e
  ·subst e;rw [abc,jX (f:=fun y=>upB (aU x) c wf y * g y) (g:=fun y=>wf y * g y) fun z hz=>by
    rw [qm fun q=>nd.1 (by rw [← q];exact ae0 hz)],Nat.add_mul]
   lia
  ·rw [rK nd.2 e,qm fun q=>nd.1 (by rw [q];exact ae0 e)];lia
def stop (h:Hs):List Nat->Bool:=fun o=>(aZ h o).isEmpty
def Tot (h:Hs)(os:List (List Nat))(i:Nat)(wf:List Nat->Nat):Nat:=cY (((os.take i).filter (stop h)).map wf)+cY ((os.drop i).map fun o=>wf o * Stuck h o)
def zV (h:Hs)(os:List (List Nat))(i:Nat)(o:List Nat)(j:Nat)(wf:List Nat->Nat):Nat:=cY (((os.take (i+1)).filter (stop h)).map wf)+wf o * cY (((aZ h o).drop j).map fun n=>Stuck h (o++[n]))+cY ((os.drop (i+1)).map fun o=>wf o * Stuck h o)
theorem abJ {h:Hs}{os:List (List Nat)}{i:Nat}{o:List Nat}{wf:List Nat->Nat}(e:os[i]? = some o)(g:cy h.1 h.2 o):Tot h os i wf=zV h os i o 0 wf:=by
 unfold Tot zV;rw [aee,e,aen,adW,oZ,ahF];have d:os.drop i=o::os.drop (i+1):=by
  obtain⟨hi,rfl⟩:=adF.mp e;exact (afL hi)
 rw [d,adS,bV];by_cases hn:aZ h o=[]
 ·rw [hn,Stuck.end_ hn];rw [show (some o).toList.filter (stop h)=[o] from by
   show [o].filter (stop h)=_;rw [aea,if_pos (by unfold stop;rw [hn];rfl)];rfl]
  show _+(wf o * 1+_)=_+(wf o+0)+wf o * 0+_;lia
 ·rw [Stuck.step g hn];rw [show (some o).toList.filter (stop h)=[] from by
   show [o].filter (stop h)=_;rw [aea,if_neg (by unfold stop;rw [List.isEmpty_iff];exact hn)];rfl]
  show _=_+0+_+_;lia
theorem aa4 {h:Hs}{os:List (List Nat)}{i:Nat}{o:List Nat}{wf:List Nat->Nat}:zV h os i o (aZ h o).length wf=Tot h os (i+1) wf:=by
 unfold Tot zV;rw [List.drop_length];show _+wf o * 0+_=_;lia
theorem aae {b c:Nat}{wf:List Nat->Nat}{l:List (List Nat)}(h:∀ y∈l,aU y≠b):l.map (upB b c wf)=l.map wf:=afe fun y hy=>qm (h y hy)
theorem ab7 {h:Hs}{os:List (List Nat)}{i k j n:Nat}{o x:List Nat}{wf:List Nat->Nat}(nd:(os.map aU).Nodup)(e:os[i]? = some o)(ek:os[k]? = some x)(lt:i < k)(en:(aZ h o)[j]? = some n)(eS:Stuck h x=Stuck h (o++[n])):zV h os i o (j+1) (upB (aU x) (wf o) wf)=zV h os i o j wf:=by
 have ndp:=nd;rw [← af8 (i+1) os,adW,aeY] at ndp;have hx:x∈os.drop (i+1):=adR (i:=k - (i+1)) (by rw [List.getElem?_drop,← ek];congr 1;lia);have no:∀ y∈os.take (i+1),aU y≠aU x:=fun y hy=>ndp.2.2 _ (ae0 hy) _ (ae0 hx);have hot:o∈os.take (i+1):=adR (i:=i) (by rw [afB,if_pos (by lia)];exact e);unfold zV;rw [aae fun y hy=>no y (aeA.mp hy).1,qm (no o hot),rK ndp.2.1 hx,eS];have d:(aZ h o).drop j=n::(aZ h o).drop (j+1):=by
  obtain⟨hj,rfl⟩:=adF.mp en;exact afL hj
 rw [d,adS,bV,Nat.mul_add];lia
theorem acV {h:Hs}{os:List (List Nat)}(s:dj h os):Tot h os 0 (upB 0 1 fun _=>0)=Stuck h []:=by
 obtain⟨x,hx,ex⟩:=ad5.mp (s.all [] (bX _ _));have p:=eA (bu x (s.gone x hx)) .nil ex;unfold Tot;show 0+_=_;rw [ahF,show (0:Nat)=aU x from ex.symm,rK s.nd hx,Stuck.perm (s.gone x hx) (bX _ _) p];rw [show cY (os.map fun y=>aU x * Stuck h y)=0 from ?_]
 ·rw [show aU x=0 from ex];lia
 ·rw [show aU x=0 from ex];have:∀ l:List (List Nat),cY (l.map fun y=>0 * Stuck h y)=0:=fun l=>by
   induction l with
   | nil=>rfl
   | cons a l ih=>rw [adS,bV,ih];lia
  exact this os
theorem aao {h:Hs}{os:List (List Nat)}{wf:List Nat->Nat}:Tot h os os.length wf=cY ((os.filter (stop h)).map wf):=by
 unfold Tot;rw [aem,List.drop_length]
 rfl
def wX (C:Addr):Sp:=fun vs H Q _=>∃ (d a:Addr) (o:List Nat) (h:Hs) (ks hand:List Str),vs=[.ref d,.int ((aU o:Nat):Int),.ref a]/\DoorsAt C H d h ks/\acT h ks/\H a=some (.lst ((fB ks hand).map V.int))/\h.2.length<=1000 ∧
 ∀ b H',Same H H'->H b=none->H' b=some (.lst ((jg h.2 hand o).map fun i=>V.int ((i:Nat):Int)))->Q (.ref b) H'
def nbB (h:Hs)(hand:List Str)(o:List Nat)(i:Nat):Bool:=!decide (i∈o) && jV hand ((h.2[i]?).getD ([],[])).1
inductive NbI (D:Addr)(h:Hs)(hand:List Str)(o:List Nat)(H:Hp)(i:Nat)(ys:List V)(H':Hp):Prop
 | mk:ys=((List.range i).filter (nbB h hand o)).map (fun i=>V.int ((i:Nat):Int))->H' D=some (.lst ys)->Same H H'->NbI D h hand o H i ys H'
inductive NwI (D:Addr)(ks hand:List Str)(r:Rm)(H:Hp)(i:Nat)(ys:List V)(H':Hp):Prop
 | mk:ys=((dZ ks r).take i).map (fun c=>V.bl (decide (c.2<=((hand.count (kAt ks c.1):Nat):Int))))->H' D=some (.lst ys)->Same H H'->NwI D ks hand r H i ys H'
theorem iD:aA ["self","opened","hand"] ["self","opened","hand"] (ai aN):=scM rfl rfl rfl rfl (by decide +kernel)
theorem dr:(["number","wants","opened","hand"]:List Str).Nodup:=by decide +kernel
theorem dq:(["place","many","hand"]:List Str).Nodup:=by decide +kernel
theorem yH {f fH:Addr}{fd fdH:FuncData}{C:Addr}(F:Fun K "next_behind" "Doors.next_behind" aN f fd)(DC:qN K C)(uH:FnOk P w K mg base CX0 1 fH fdH ["opened","number"] aca)(jY:Cal K mg "has_room" ["opened","number"] fH fdH)(bM:mg "enumerate" = none)(vN:mg "all" = none):FnOk P w K mg base CX0 2 f fd ["self","opened","hand"] (wX C):=by
 refine F.ok iD (fun vs H Q E h=>?_) (fun cdv A outer s H vs Q E hr h=>?_)
 ·obtain⟨d,a,o,h,ks,hand,rfl,_⟩:=h
  rfl
 ·have hu:=dO hr;obtain⟨d,a,o,h,ks,hand,rfl,D,ok,ha,hl,q⟩:=h;refine⟨_,(ao (aH (kI (outer:=ai (aN)) (N:=["self","opened","hand"]) (N':=["number","wants","opened","hand"]) (nl:=2) (ix:=[1,2]) rfl rfl rfl (rL rfl bM (ae (vZ (pv 0) rfl) ah))
   (fun _ _ _ _=>(i6 (K:=K) (n:=2) rfl rfl (aF (au (i:=0) dr rfl (.inl rfl) (.inr rfl)) (aF (au (i:=1) dr rfl (.inl rfl) (.inr rfl)) c6)))) (fun _ _ _ _=>(hE (PW.pt (zC (fu (fb (pcl uH jY hr rfl (ae (pv 2) (ae (pv 0) ah))))) (v7 (fb (aw (vR (K:=K) rfl rfl) rfl vN (by decide +kernel) (ae (kI (outer:=wB (gj (o5 ((bZ aN).getD 0 (.Pass ⟨0,0,0,0⟩)))) (ai (aN))) (N:=["number","wants","opened","hand"]) (N':=["place","many","hand"]) (nl:=2) (ix:=[3]) (uG rfl) rfl rfl (tu (K:=K) rfl (pv 1))
   (fun _ _ _ _=>(i6 (K:=K) (n:=2) rfl rfl (aF (au (i:=0) dq rfl (.inl rfl) (.inr rfl)) (aF (au (i:=1) dq rfl (.inl rfl) (.inr rfl)) c6)))) (fun _ _ _ _=>dA)
   (fun _ _ _ _=>(gW aaZ (bW (pE (K:=K) rfl) (pv 2) (pv 0) (fun _ _=>rfl)) (pv 1) (bo _)))) ah))))))))
   (fun _ _ _ _=>(pv 0))))),?_⟩
  obtain⟨dx,l,w',c,fs,h1,h2,h3,h4,h5,h6,h7,⟨vs,h8,hvl,hvs⟩,h9⟩:=D;have lim:1000000 < sizeLine:=by decide
  refine aQ _ _ _ _ _ _ _ _ _ ?_;refine⟨_,rfl,d,C,dx,fs,_,rfl,h1,DC.cls,DC.n2,h3,w',rfl,⟨_,aAA h8⟩,fun D nD=>?_⟩;have vl:vs.length=h.2.length:=by rw [hvl,adG]
  refine qW (xs:=vs) (NbI D h hand o H) (.mk rfl af (ar nD)) (fun i ys H' ⟨_,e,_⟩=>e) (fun i ys H' ⟨_,_,s⟩=>aAA (s _ _ h8)) ?_ ?_
  ·rintro i ys H1 x T hx ⟨rfl,hD,s1⟩ nT;have hi:i < vs.length:=(adF.mp hx).1;have hri:i < h.2.length:=by lia
   obtain⟨wa,us,rfl,hwa,ul,hus⟩:=hvs i x (dZ ks h.2[i]) hx (by rw [adK,adD hri];rfl);have s2:Same H1 (upd H1 T (.tup [.int (i:Int),.ref wa])):=ar nT;have e2:(upd H1 T (.tup [.int (i:Int),.ref wa])) T=some (.tup [.int (i:Int),.ref wa]):=af;generalize upd H1 T (.tup [.int (i:Int),.ref wa])=H2 at *;have lf:((List.range i).filter (nbB h hand o)).length<=i:=adZ (aeF _ _) (by rw [aeB];exact adL _);have rb:nbB h hand o i=(!decide (i∈o) && jV hand (h.2[i]).1):=by unfold nbB;rw [adD hri];rfl
   refine⟨T,_,rfl,aAB e2,rfl,?_⟩;refine⟨_,_,rfl,_,_,rfl,rfl,⟨rfl,rfl⟩,?_⟩;refine⟨_,rfl,_,rfl,o,i,rfl,fun H3 s3=>⟨_,rfl,?_⟩⟩;have s13:Same H1 H3:=s2.trans s3;by_cases ho:i∈o
   ·rw [adY ho] at rb ⊢;refine eP ?_;refine eP ?_;refine nx hi (.mk ?_ (s13 _ _ hD) (s1.trans s13));rw [afg,aen,adW];simp [rb]
   ·rw [ad4 ho] at rb ⊢;refine gI ?_;unfold tB tCB iC rZ;refine aQ _ _ _ _ _ _ _ _ _ ?_;have s3':=s1.trans s13;refine⟨_,rfl,wa,rfl,⟨_,aAA (s3' _ _ hwa)⟩,fun D2 nD2=>?_⟩;refine di (xs:=us) (NwI D2 ks hand (h.2[i]) H3) (.mk rfl af (ar nD2)) (fun j ys H' ⟨_,e,_⟩=>e) (fun j ys H' ⟨_,_,s⟩=>aAA (s _ _ (s3' _ _ hwa))) ?_ ?_
    ·rintro j ys H4 y hy ⟨rfl,hD2,s4⟩;have hj:j < (dZ ks h.2[i]).length:=by rw [← ul];exact (adF.mp hy).1
     obtain⟨t,rfl,ht⟩:=hus j y _ hy (adD hj);generalize ec:(dZ ks h.2[i])[j]=cc at *;have hp:cc.1 < ks.length/\(dZ ks h.2[i]).length<=63:=by
      refine⟨?_,?_⟩
      ·have:cc∈dZ ks h.2[i]:=by rw [← ec];exact aeo hj
       obtain⟨p,hp,rfl⟩:=ad5.mp this;exact ae1.mp (aeA.mp hp).1
      ·unfold dZ;rw [adG];refine adZ (aeF _ _) ?_;rw [aeB];exact ok.few
     have s4':=s3'.trans s4;refine⟨t,_,rfl,aAB (s4' _ _ ht),rfl,?_⟩;refine⟨_,_,rfl,_,_,rfl,rfl,⟨rfl,rfl⟩,?_⟩;unfold tZ;dsimp only;refine gI (B:=False) ?_;refine⟨_,rfl,_,rfl,a,_,_,_,rfl,rfl,aAA (s4' _ _ ha),cC (by rw [adK,rh hp.1];rfl),_,rfl,_,_,rfl,rfl,hD2,?_,nx (by rw [ul];exact hj) (.mk ?_ af fun b u e=>by rw [aj (aq e nD2)];exact s4 _ _ e)⟩
     ·rw [adG,aeb];lia
     ·rw [aee,adD hj,ec];simp
    ·rintro ys H4 ⟨rfl,hD2,s4⟩;rw [ul,aem] at hD2;refine⟨D2,(dZ ks h.2[i]).map fun c=>decide (c.2<=((hand.count (kAt ks c.1):Nat):Int)),rfl,aAA (by rw [hD2,ael];rfl),_,rfl,?_⟩;have eb:((dZ ks h.2[i]).map fun c=>decide (c.2<=((hand.count (kAt ks c.1):Nat):Int))).all id=jV hand (h.2[i]).1:=by
      rw [aeR,← vC (fun k hk=>(ok.mem k).mpr ⟨_,aeo hri,hk⟩),af6,aes];simp
     rw [eb];have rb':nbB h hand o i=jV hand (h.2[i]).1:=by rw [rb];rfl
     rw [← rb'];have s14:=s13.trans s4;cases eb2:nbB h hand o i with
     | true =>
      refine gI ?_;refine⟨_,rfl,s14 _ _ hD,?_,nx hi (.mk ?_ af fun b u e=>by rw [aj (aq e nD)];exact s14 _ _ (s1 _ _ e))⟩
      ·rw [adG];lia
      ·rw [afg,aen,adW];simp [eb2]
     | false =>
      refine eP ?_;refine nx hi (.mk ?_ (s14 _ _ hD) (s1.trans s14));rw [afg,aen,adW];simp [eb2]
  ·rintro ys H1 ⟨rfl,hD,s1⟩;rw [vl] at hD;exact q D H1 s1 nD hD
abbrev nxV (h:Hs)(o:List Nat):List V:=(aZ h o).map fun i=>V.int ((i:Nat):Int)
abbrev hdV (h:Hs)(ks:List Str)(o:List Nat):List V:=(fB ks (aV h.1 h.2 o)).map V.int
def mq:Sp:=fun vs H Q _=>∃ (v:V) (h:Hs),vs=[v]/\HouseAt H v h/\cB h/\vm h/\h.2.length<=12/\∀ S kvs os H',Same H H'->H S=none->H' S=some (.dK kvs)->DictL (nxV h) H' kvs os->dj h os->Q (.ref S) H'
inductive EnI (v:V)(d S:Addr)(h:Hs)(H0:Hp)(σ:L2.St)(H':Hp):Prop
 | mk (os:List (List Nat)) (kvs:List (Key×V)) (x3 x4 x5 x6 x7 x8 x9:Option V):σ=[some v,some (.ref d),some (.ref S),x3,x4,x5,x6,x7,x8,x9]->H' S=some (.dK kvs)->DictL (nxV h) H' kvs os->dj h os->Same H0 H'->EnI v d S h H0 σ H'
inductive WhI (v:V)(d S:Addr)(h:Hs)(ks:List Str)(H0 H1:Hp)(n:Nat)(σ:L2.St)(H':Hp):Prop
 | mk (os L:List (List Nat)) (kvsS kvsL:List (Key×V)) (Lv:Addr) (x4 x5 x6 x7 x8 x9:Option V):σ=[some v,some (.ref d),some (.ref S),some (.ref Lv),x4,x5,x6,x7,x8,x9]->H' S=some (.dK kvsS)->H' Lv=some (.dK kvsL)->S≠Lv->H0 Lv=none →
  Same H0 H'->Same (ndH H1) H'->DictL (nxV h) H' kvsS os->DictL (hdV h ks) H' kvsL L->LevL h n L->aa9 h n L->StepsM h n os->WhI v d S h ks H0 H1 n σ H'
inductive FoI (v:V)(d S Lv Fu:Addr)(h:Hs)(ks:List Str)(H0 H1:Hp)(kvsL:List (Key×V))(ob:Obj)(os L:List (List Nat))(n i:Nat)(σ:L2.St)(H':Hp):Prop
 | mk (kvsS:List (Key×V)) (M:List (List Nat)) (kvsM:List (Key×V)) (x5 x6 x7 x8 x9:Option V):σ=[some v,some (.ref d),some (.ref S),some (.ref Lv),some (.ref Fu),x5,x6,x7,x8,x9]->H' S=some (.dK kvsS)->H' Lv=some (.frz ob (.dK kvsL))->H' Fu=some (.dK kvsM) →
  Same H0 H'->Same (ndH H1) H'->DictL (nxV h) H' kvsS (os++L.take i)->DictL (hdV h ks) H' kvsL L->DictL (hdV h ks) H' kvsM M->LevL h (n+1) M->(∀ o∈L.take i,∀ k∈aZ h o,aU (o++[k])∈M.map aU)->FoI v d S Lv Fu h ks H0 H1 kvsL ob os L n i σ H'
inductive InI (v:V)(d S Lv Fu:Addr)(h:Hs)(ks:List Str)(H0 H1:Hp)(kvsL kvsS:List (Key×V))(ob:Obj)(os L:List (List Nat))(n i:Nat)(o:List Nat)(lh ln:Addr)(j:Nat)(σ:L2.St)(H':Hp):Prop
 | mk (M:List (List Nat)) (kvsM:List (Key×V)) (x8 x9:Option V):σ=[some v,some (.ref d),some (.ref S),some (.ref Lv),some (.ref Fu),some (.int ((aU o:Nat):Int)),some (.ref lh),some (.ref ln),x8,x9]->H' S=some (.dK kvsS)->H' Lv=some (.frz ob (.dK kvsL))->H' Fu=some (.dK kvsM) →
  Same H0 H'->Same (ndH H1) H'->H' lh=some (.lst (hdV h ks o))->H' ln=some (.lst (nxV h o))->DictL (nxV h) H' kvsS (os++L.take (i+1))->DictL (hdV h ks) H' kvsL L->DictL (hdV h ks) H' kvsM M->LevL h (n+1) M->(∀ o∈L.take i,∀ k∈aZ h o,aU (o++[k])∈M.map aU)->(∀ k∈(aZ h o).take j,aU (o++[k])∈M.map aU) →
  InI v d S Lv Fu h ks H0 H1 kvsL kvsS ob os L n i o lh ln j σ H'
theorem bT {H H':Hp}{D:Addr}{o:HO}(s:Same H H')(n:H D=none):Same H (upd H' D o):=fun b u e=>by rw [aj (aq e n)];exact s _ _ e
theorem bt:aA ["house","doors","steps","level","further","opened","hand","numbers","number","behind"] ["house"] (ai iS):=scM rfl rfl rfl rfl (by decide +kernel)
theorem yv {f fI fN fH fW:Addr}{fd fdI fdN fdH fdW:FuncData}{C:Addr}(F:Fun K "steps_of" "steps_of" iS f fd)(DC:qN K C)(C_Doors:Cls K C)(M_Doors:Mk K C fI)(mg_Doors:mg "Doors" = some (.ref C))(pR:FnOk P w K mg base CX0 1 fI fdI ["self","house"] (zW C))(pW:Binds K fdI ["self","house"] [])
 (i7:abg K C "next_behind" fN)(i8:FnOk P w K mg base CX0 2 fN fdN ["self","opened","hand"] (wX C))(iU:Binds K fdN ["self","opened","hand"] [])
 (jO:abg K C "hand_with" fH)(jS:FnOk P w K mg base CX0 1 fH fdH ["self","hand","number"] (vI C))(j9:Binds K fdH ["self","hand","number"] [])
 (bq:FnOk P w K mg base CX0 1 fW fdW ["opened","number"] oy)(aG:Cal K mg "with_room" ["opened","number"] fW fdW):FnOk P w K mg base CX0 3 f fd ["house"] mq:=by
 refine F.ok bt (fun vs H Q E h=>?_) (fun cdv A outer s H vs Q E hr h=>?_)
 ·obtain⟨v,h,rfl,_⟩:=h
  rfl
 ·have hu:=dO hr;obtain⟨v,h,rfl,hh,ok,few,small,q⟩:=h;refine⟨_,(ag (ay (i:=1) bt.nd rfl (.inl rfl) (aa6 M_Doors pR hr rfl mg_Doors pW .nil iT (ae (pv 0) ah)))
   (ag (ay (i:=2) bt.nd rfl (.inl rfl) px)
   (ag (ay (i:=3) bt.nd rfl (.inl rfl) (zd ak (vZ (pv 1) rfl)))
   (ag (bc (kQ aeh (tS (pv 3) (by intro _;rfl))
    (ag (ay (i:=4) bt.nd rfl (.inl rfl) px)
    (ag (bc (cX aeh rfl (uo (H₀:=H) rfl (pv 3)) (kh rfl (aF (au (i:=5) bt.nd rfl (.inl rfl)) (aF (au (i:=6) bt.nd rfl (.inl rfl)) c6)))
     (ag (ay (i:=7) bt.nd rfl (.inl rfl) (wt (pv 1) C_Doors i7 i8 hr iU .nil iT (ae (pv 5) (ae (pv 6) ah))))
     (ag (lG hu (pv 2) (pv 5) (pv 7) rfl)
     (ao (bc (cX aeh rfl (aX (pv 7)) (au (i:=8) bt.nd rfl (.inl rfl))
      (ag (ay (i:=9) bt.nd rfl (.inl rfl) (pcl bq aG (hr.mono (by decide:1<=2)) rfl (ae (pv 5) (ae (pv 8) ah))))
      (ao (bc (dN (abB (wN hu (pv 9) (pv 4)))
       (ao (lG hu (pv 4) (pv 9) (wt (pv 1) C_Doors jO jS (hr.mono (by decide:1<=2)) j9 .nil iT (ae (pv 6) (ae (pv 8) ah))) rfl)) aS)))))))))))
    (ao (ay (i:=3) bt.nd rfl (.inl rfl) (pv 4)))))))
   (ao (aH (pv 2))))))),?_⟩
  refine⟨_,rfl,fun d dx nd ndx ne=>?_⟩;have sM:Same H (upd (upd H dx (.own d)) d (.ins C dx [])):=bT (ar ndx) nd;have dM:(upd (upd H dx (.own d)) d (.ins C dx [])) d=some (.ins C dx []):=af;generalize upd (upd H dx (.own d)) d (.ins C dx [])=HM at *;refine⟨d,dx,v,h,rfl,hh.same sM,ok,few,dM,fun ks H1 KO b1 DA=>⟨rfl,?_⟩⟩;have s1:Same H H1:=fun b u e=>b1 b u (aq e nd) (sM _ _ e);have DA':=DA.nd;obtain⟨dx',l,_,_,fs,h1,h2,_,_,h5,h6,h7,_,_⟩:=DA;intro S nS;intro Lv nLv;have nL1:H1 Lv=none:=(ar (o:=.dK []) nS).free nLv;have neSL:S≠Lv:=fun z=>by subst z;rw [af] at nLv;cases nLv
  have nS0:H S=none:=s1.free nS;have nL0:H Lv=none:=s1.free nL1;have d2:(upd (upd H1 S (.dK [])) Lv (.dK [])) d=some (.ins C dx' fs):=bT (ar nS) nL1 _ _ h1;refine⟨_,rfl,d,C,dx',fs,_,rfl,d2,DC.cls,DC.n1,h2,.inl 0,rfl,af,?_⟩;have s2:Same H1 (upd (upd (upd H1 S (.dK [])) Lv (.dK [])) Lv (.dK [(.inl 0,.ref l)])):=bT (bT (ar nS) nL1) nL1;have eS2:(upd (upd (upd H1 S (.dK [])) Lv (.dK [])) Lv (.dK [(.inl 0,.ref l)])) S=some (.dK []):=by rw [aj neSL,aj neSL,af]
  have eL2:(upd (upd (upd H1 S (.dK [])) Lv (.dK [])) Lv (.dK [(.inl 0,.ref l)])) Lv=some (.dK [(.inl 0,.ref l)]):=af;generalize upd (upd (upd H1 S (.dK [])) Lv (.dK [])) Lv (.dK [(.inl 0,.ref l)])=H2 at *;have p12:2 ^ h.2.length<=4096:=adZ (afk (by decide) small) (by decide);have lim:1000000 < sizeLine:=by decide
  refine⟨EnI v d S h H,?_,?_⟩
  ·rintro σ H3 ⟨os,kvs,x3,x4,x5,x6,x7,x8,x9,rfl,e3,d3,a3,s3⟩;exact⟨_,rfl,q S kvs os H3 s3 nS0 e3 d3 a3⟩
  ·refine⟨fun m σ H'=>∃ n,m=h.2.length+1 - n/\n<=h.2.length+1/\WhI v d S h ks H H1 n σ H',⟨_,0,rfl,ad7 _,?_⟩,?_⟩
   ·refine .mk [] [[]] [] [(.inl 0,.ref l)] Lv none none none none none none rfl eS2 eL2 neSL nL0 (s1.trans s2) (gD.trans s2) .nil ⟨rfl,fun i kv o a b=>?_⟩ ⟨fun o ho=>?_,fun o ho=>?_,by simp⟩ (wq h) (.zero h)
    ·match i,a,b with
     | 0,a,b =>
      cases a;cases b;exact⟨l,rfl,s2 _ _ h7⟩
    ·rw [adT] at ho;subst ho;exact bX _ _
    ·rw [adT] at ho;subst ho
     rfl
   ·rintro m σ H3 ⟨n,rfl,hn,os,L,kvsS,kvsL,Lv,x4,x5,x6,x7,x8,x9,rfl,eS,eL,neSL,nL0,s3,g3,dS,dL,lev,al,st⟩;refine⟨_,rfl,_,.inr (.inr ⟨kvsL,eL,rfl⟩),?_⟩;cases hk:kvsL with
    | nil =>
     subst hk;have:L=[]:=afx dL.len.symm;subst this;exact eP ⟨os,kvsS,_,_,_,_,_,_,_,rfl,eS,dS,st.done al,s3⟩
    | cons p r =>
     refine gI ?_;have neL:L≠[]:=fun z=>by
      have:=dL.len;rw [z,hk] at this;cases this
     have hnl:=vD lev neL;refine⟨fun σ' H'=>WhI v d S h ks H H1 (n+1) σ' H',fun σ' H' w=>⟨_,?_,n+1,rfl,by lia,w⟩,?_⟩
     ·lia
     ·intro Fu nFu;have nF0:H Fu=none:=s3.free nFu;have neSF:S≠Fu:=fun z=>by subst z;rw [eS] at nFu;cases nFu
      have neLF:Lv≠Fu:=fun z=>by subst z;rw [eL] at nFu;cases nFu
      have s4:Same H3 (upd H3 Fu (.dK [])):=ar nFu;have eF4:(upd H3 Fu (.dK [])) Fu=some (.dK []):=af;generalize upd H3 Fu (.dK [])=H4 at *;have eL4:=s4 _ _ eL;have eS4:=s4 _ _ eS;refine⟨fun σ' H'=>∃ ob,FoI v d S Lv Fu h ks H H1 kvsL ob os L n kvsL.length σ' H',?_,?_⟩
      ·rintro σ' H5 ⟨ob,kS,M,kM,y5,y6,y7,y8,y9,rfl,fS,fL,fF,s5,g5,dS5,dL5,dM5,lev5,kid5⟩;rw [dL.len,aem] at dS5 kid5;exact⟨_,rfl,.mk (os++L) M kS kM Fu _ _ _ _ _ _ rfl fS fF neSF nF0 s5 g5 dS5 dM5 lev5 (wk lev al kid5) (st.next lev al)⟩
      ·refine⟨_,rfl,Lv,kvsL,rfl,eL4,fun ob nf=>?_⟩;have ndL:Same (ndH H4) (upd H4 Lv (.frz ob (.dK kvsL))):=sQ eL4 rfl;refine qp (FoI v d S Lv Fu h ks H H1 kvsL ob os L n) (.mk kvsS [] [] _ _ _ _ _ rfl (by rw [aj neSL];exact eS4) af (by rw [aj (fun z=>neLF z.symm)];exact eF4) (bT (s3.trans s4) nL0) (ug (g3.trans s4) eL4 rfl) ?_ ((dL.same (gD.trans s4)).same ndL) .nil (.nil h _) (fun o ho=>absurd ho (by simp))) (fun i σ H' _ ⟨_,_,_,_,_,_,_,_,_,_,e,_,_,_,_,_,_,_,_⟩=>e) ?_ (fun σ H' z=>⟨ob,z⟩)
       ·rw [List.take_zero,aew];exact (dS.same (gD.trans s4)).same ndL
       ·rintro i k vv σ H5 T hkv ⟨kS,M,kM,y5,y6,y7,y8,y9,rfl,fS,fL,fF,s5,g5,dS5,dL5,dM5,lev5,kid5⟩ nT;have hiL:i < L.length:=by rw [← dL.len];exact (adF.mp hkv).1
        have hoL:L[i]? = some L[i]:=adD hiL;have hom:L[i]∈L:=aeo hiL;obtain⟨lh,ev,elh⟩:=dL5.at_ i (k,vv) L[i] hkv hoL;have ekk:k=kB L[i]:=by
         have a:(kvsL.map (·.1))[i]? = some k:=by rw [adK,hkv];rfl
         rw [dL5.keys,adK,hoL] at a;exact (aev a).symm
        dsimp only at ev;subst ev ekk;have tk:L.take (i+1)=L.take i++[L[i]]:=by rw [aee,hoL];rfl
        generalize eo:L[i]=o at *;have gO:=lev.gone o hom;have s6:Same H5 (upd H5 T (.tup [kV (kB o),.ref lh])):=ar nT;have e6:(upd H5 T (.tup [kV (kB o),.ref lh])) T=some (.tup [kV (kB o),.ref lh]):=af;generalize upd H5 T (.tup [kV (kB o),.ref lh])=H6 at *;refine⟨T,_,rfl,aAB e6,rfl,?_⟩;refine⟨_,_,rfl,_,_,rfl,rfl,?_⟩;have DA6:=DA'.same (g5.trans s6);have hd6:=(g5.trans s6) _ _ (jt h1 rfl);refine⟨_,rfl,d,dx',fs,rfl,hd6,h6,_,rfl,_,rfl,d,lh,o,h,ks,aV h.1 h.2 o,rfl,DA6,KO,s6 _ _ elh,by lia,fun ln H7 s7 nln eln=>?_⟩;have s67:=s6.trans s7;have noS:kB o ∉ kS.map (·.1):=by
         rw [dS5.keys,ub,adW,ad6];rintro (z | z)
         ·exact mi st lev o hom z
         ·have nd:=lev.nd;rw [← af8 (i+1) L,tk,adW,adW,aeY] at nd;exact (aeY.mp nd.1).2.2 _ z _ (by simp) rfl
        have lenS:kS.length < sizeLine:=by
         rw [dS5.len,adI,aeb];have:=xq st;have:=wA lev;lia
        refine⟨_,rfl,_,rfl,_,rfl,S,_,rfl,DPut.k (k:=kB o) (s67 _ _ fS) lenS,?_⟩;rw [wD noS];have fS7:=s67 _ _ fS;have ndS:Same (ndH H7) (upd H7 S (.dK (kS++[(kB o,.ref ln)]))):=sQ fS7 rfl;have neLS:Lv≠S:=fun z=>neSL z.symm;have sF7:=s5.trans s67;have g7:=g5.trans s67;have k7:Same (ndH H5) H7:=gD.trans s67;have s8:Same H (upd H7 S (.dK (kS++[(kB o,.ref ln)]))):=bT sF7 nS0;have g8:Same (ndH H1) (upd H7 S (.dK (kS++[(kB o,.ref ln)]))):=ug g7 fS7 rfl;have fS8:(upd H7 S (.dK (kS++[(kB o,.ref ln)]))) S=some (.dK (kS++[(kB o,.ref ln)])):=af;have fL8:(upd H7 S (.dK (kS++[(kB o,.ref ln)]))) Lv=some (.frz ob (.dK kvsL)):=by rw [aj neLS];exact s67 _ _ fL
        have fF8:(upd H7 S (.dK (kS++[(kB o,.ref ln)]))) Fu=some (.dK kM):=by rw [aj (fun z=>neSF z.symm)];exact s67 _ _ fF
        have lh8:=ndS _ _ (jt (s67 _ _ elh) rfl);have ln8:=ndS _ _ (jt eln rfl);have dS8:DictL (nxV h) (upd H7 S (.dK (kS++[(kB o,.ref ln)]))) (kS++[(kB o,.ref ln)]) (os++L.take (i+1)):=by
         rw [tk,← aer];exact (dS5.same k7).snoc ndS eln
        have dL8:=(dL5.same k7).same ndS;have dM8:=(dM5.same k7).same ndS;generalize upd H7 S (.dK (kS++[(kB o,.ref ln)]))=H8 at *;generalize kS++[(kB o,.ref ln)]=kS' at *;refine⟨InI v d S Lv Fu h ks H H1 kvsL kS' ob os L n i o lh ln (aZ h o).length,?_,?_⟩
        ·rintro σ' H9 ⟨M',kM',z8,z9,rfl,a1,a2,a3,a4,a5,a6,a7,a8,a9,a10,a11,a12,a13⟩;rw [aem] at a13;refine .mk kS' M' kM' _ _ _ _ _ rfl a1 a2 a3 a4 a5 a8 a9 a10 a11 fun x hx k hk=>?_;rw [tk,ad6,adT] at hx;rcases hx with hx | hx
         ·exact a12 x hx k hk
         ·subst hx;exact a13 k hk
        ·refine⟨_,rfl,ln,rfl,⟨_,aAA ln8⟩,?_⟩;refine dJ (xs:=nxV h o) (fun j σ' H'=>InI v d S Lv Fu h ks H H1 kvsL kS' ob os L n i o lh ln j σ' H') (.mk M kM _ _ rfl fS8 fL8 fF8 s8 g8 lh8 ln8 dS8 dL8 dM8 lev5 kid5 (fun k hk=>absurd hk (by simp))) (fun j σ H' _ ⟨_,_,_,_,_,_,_,_,_,_,_,e,_,_,_,_,_,_⟩=>aAA e) ?_ (fun σ H' z=>by rw [adG] at z;exact z);rintro j x σ H9 hx ⟨M',kM',z8,z9,rfl,a1,a2,a3,a4,a5,a6,a7,a8,a9,a10,a11,a12,a13⟩;have hj:j < (aZ h o).length:=by have:=(adF.mp hx).1;rwa [adG] at this
         rw [adK,adD hj] at hx;have tkj:(aZ h o).take (j+1)=(aZ h o).take j++[(aZ h o)[j]]:=by rw [aee,adD hj];rfl
         have hnm:(aZ h o)[j]∈aZ h o:=aeo hj;generalize (aZ h o)[j]=nm at *;cases hx;obtain⟨nlt,nno,nmay⟩:=next_iffD.mp hnm;refine⟨_,rfl,_,rfl,aU o,nm,rfl,by lia,fun H10 t10=>?_⟩;rw [← cS];have c3:=t10 _ _ a3;refine⟨fun σ' H'=>InI v d S Lv Fu h ks H H1 kvsL kS' ob os L n i o lh ln (j+1) σ' H',fun σ' H' z=>z,?_⟩;refine⟨_,rfl,_,rfl,Fu,_,rfl,DGet.k (k:=kB (o++[nm])) c3,_,rfl,?_⟩;have n10:Same (ndH H9) H10:=gD.trans t10;by_cases hin:aU (o++[nm])∈M'.map aU
         ·have e1:(fk kM' (kB (o++[nm]))).isSome=true:=by rw [uv,a10.keys,ub];exact hin
          rw [e1];refine eP ?_;refine .mk M' kM' _ _ rfl (t10 _ _ a1) (t10 _ _ a2) c3 (a4.trans t10) (a5.trans t10) (t10 _ _ a6) (t10 _ _ a7) (a8.same n10) (a9.same n10) (a10.same n10) a11 a12 fun k hk=>?_;rw [tkj,ad6,adT] at hk;rcases hk with hk | hk
          ·exact a13 k hk
          ·subst hk;exact hin
         ·have e1:(fk kM' (kB (o++[nm]))).isSome=false:=by
           rw [afE];intro z;rw [uv,a10.keys,ub] at z;exact hin z
          rw [e1];refine gI ?_;have g10:=a5.trans t10;have DA10:=DA'.same g10;have hd10:=g10 _ _ (jt h1 rfl);have rg:h.2[nm]? = some (rmD h.2 nm):=by
           unfold rmD;rw [adD nlt]
           rfl
          refine⟨_,rfl,d,dx',fs,rfl,hd10,h5,_,rfl,_,rfl,d,lh,nm,h,ks,aV h.1 h.2 o,rmD h.2 nm,rfl,DA10,rg,t10 _ _ a6,nmay,by lia,KO.few,fun bh H11 t11 nbh ebh=>?_⟩;have t911:=t10.trans t11;have c11:=t911 _ _ a3;have levM:=a11.snoc gO (lev.len o hom) hnm hin;have lenM:kM'.length < sizeLine:=by
           rw [a10.len];have:=wA a11;lia
          have nof:kB (o++[nm]) ∉ kM'.map (·.1):=by
           rw [a10.keys,ub];exact hin
          refine⟨_,rfl,_,rfl,Fu,_,rfl,DPut.k (k:=kB (o++[nm])) c11 lenM,?_⟩;rw [wD nof];have ndF:Same (ndH H11) (upd H11 Fu (.dK (kM'++[(kB (o++[nm]),.ref bh)]))):=sQ c11 rfl;have n11:Same (ndH H9) H11:=gD.trans t911;have ehv:H11 bh=some (.lst (hdV h ks (o++[nm]))):=by
           unfold hdV;rw [iV];exact ebh
          refine .mk (M'++[o++[nm]]) _ _ _ rfl (by rw [aj neSF];exact t911 _ _ a1) (by rw [aj neLF];exact t911 _ _ a2) af (bT (a4.trans t911) nF0) (ug (a5.trans t911) c11 rfl) (ndF _ _ (jt (t911 _ _ a6) rfl)) (ndF _ _ (jt (t911 _ _ a7) rfl)) ((a8.same n11).same ndF) ((a9.same n11).same ndF) ((a10.same n11).snoc ndF ehv) levM (fun x hx k hk=>?_) fun k hk=>?_
          ·rw [adW,ad6];exact .inl (a12 x hx k hk)
          ·rw [adW,ad6];rw [tkj,ad6,adT] at hk;rcases hk with hk | hk
           ·exact .inl (a13 k hk)
           ·subst hk;exact .inr (by simp)
def lg:Sp:=fun vs H Q _=>∃ (v:V) (h:Hs) (m:Nat),vs=[v,.int (m:Int)]/\HouseAt H v h/\cB h/\h.2.length<=m/\∀ H',Same H H'->Q .non H'
def uy:Sp:=fun vs H Q _=>∃ (v:V) (h:Hs),vs=[v]/\HouseAt H v h/\h.2.length<=12/\∀ H',Same H H'->Q (.int ((2 ^ h.2.length - 1:Nat):Int)) H'
theorem tw:∀ n,aU (List.range n)=2 ^ n - 1
 | 0=>rfl
 | n+1=>by
  rw [afg,cS,tw n];apply Nat.eq_of_testBit_eq;intro i;rw [Nat.testBit_or,agr,Nat.testBit_two_pow,agr];by_cases h1:i < n
  ·rw [adY h1,adY (show i < n+1 by lia)]
   rfl
  ·rw [ad4 h1,Bool.false_or];apply aeV.mpr;lia
def sV (F:List Nat->Nat)(es:List (Key×V))(o:List Nat):Prop:=fk es (kB o)=some (.int ((F o:Nat):Int))
theorem vG {n:Nat}{o:List Nat}(nd:o.Nodup)(lt:∀ i∈o,i < n)(e:o.length=n):o.Perm (List.range n) :=
 (agv nd ag0).mpr fun i=>⟨fun hi=>ae1.mpr (lt i hi),fun hi=>agC fun no=>by
  have:=eJ (n:=n) (o:=i::o) (aeK.mpr ⟨no,nd⟩) fun j hj=>by
   rcases adO.mp hj with e | e
   ·subst e;exact ae1.mp hi
   ·exact lt j e
  rw [aef] at this;lia⟩
theorem eZ {h:Hs}{o:List Nat}(g:cy h.1 h.2 o):aU o=2 ^ h.2.length - 1↔o.length=h.2.length:=by
 rw [← tw];constructor
 ·intro e;rw [(eA (bu o g) ag0 e).length_eq,aeB]
 ·exact fun e=>qf (vG (bu o g) (ik o g) e)
theorem rS {h:Hs}{os:List (List Nat)}(s:dj h os):os.length<=2 ^ h.2.length:=by
 have:(os.map aU).length<=2 ^ h.2.length:=eJ s.nd fun i hi=>by
  obtain⟨o,ho,rfl⟩:=ad5.mp hi;exact rA (ik o (s.gone o ho))
 simpa using this
theorem kT {α:Type}(f:α->Nat):∀ l:List α,(l.map fun i=>((f i:Nat):Int)).sum=((cY (l.map f):Nat):Int)
 | []=>rfl
 | a::l=>by
  rw [adS,List.sum_cons,kT f l,adS,bV];lia
theorem zD:∀ {kvs:List (Key×V)} {os:List (List Nat)} {j:Nat} {kv:Key×V} {o:List Nat},kvs.map (·.1)=os.map kB->(os.map aU).Nodup->kvs[j]? = some kv->os[j]? = some o->fk kvs (kB o)=some kv.2
 | p::kvs,q::os,0,_,_,hk,_,e1,e2=>by
  cases e1;cases e2;rw [adS,adS] at hk;injection hk with h1 _
  exact cn h1
 | p::kvs,q::os,j+1,kv,o,hk,nd,e1,e2=>by
  rw [adS,adS] at hk;injection hk with h1 h2
  rw [adS,aeK] at nd;simp only [aft] at e1 e2;rw [cm (fun z=>nd.1 ?_)]
  ·exact zD h2 nd.2 e1 e2
  ·have:kB q=kB o:=h1.symm.trans z;rw [lM this];exact ae0 (adR e2)
 | [],_,_,_,_,_,_,e1,_=>by simp at e1
 | _::_,[],_,_,_,hk,_,_,_=>by simp at hk
theorem DictL.get {F:List Nat->List V}{H:Hp}{kvs:List (Key×V)}{os:List (List Nat)}(d:DictL F H kvs os)(nd:(os.map aU).Nodup){j:Nat}{o:List Nat}(e:os[j]? = some o):∃ l:Addr,fk kvs (kB o)=some (.ref l)/\H l=some (.lst (F o)):=by
 have hj:j < kvs.length:=by rw [d.len];exact (adF.mp e).1
 obtain⟨l,e1,e2⟩:=d.at_ j _ o (adD hj) e;exact⟨l,by rw [zD d.keys nd (adD hj) e,e1],e2⟩
theorem abk {h:Hs}{os:List (List Nat)}(s:dj h os){j:Nat}{o:List Nat}(e:os[j]? = some o){i:Nat}(hi:i∈aZ h o):∃ k o',os[k]? = some o'/\j < k/\aU o'=aU (o++[i])/\o'.Perm (o++[i]):=by
 have ho:=adR e;have g:=aI (s.gone o ho) hi;obtain⟨o',ho',eb⟩:=ad5.mp (s.all _ g);have p:=eA (bu o' (s.gone o' ho')) (bu _ g) eb;obtain⟨k,hk⟩:=aeH ho';refine⟨k,o',hk,?_,eb,p⟩;have l:=p.length_eq;rw [adI,ad8] at l;refine agC fun nlt=>?_;rcases Nat.lt_or_eq_of_le (Nat.le_of_not_lt nlt) with lt | eq
 ·obtain⟨hk1,ek⟩:=adF.mp hk;obtain⟨hj1,ej⟩:=adF.mp e;have:=List.pairwise_iff_getElem.mp s.up k j hk1 hj1 lt;rw [ek,ej] at this;lia
 ·subst eq;rw [hk] at e;cases e;lia
theorem iY {H:Hp}{a:Addr}{kvs:List (Key×V)}{k:Key}{v:V}(e:H a=some (.dK kvs))(hv:fk kvs k=some v):DGet H a (kV k) (some v):=by
 rw [← hv];exact DGet.k e
inductive EdI (S E l:Addr)(h:Hs)(os:List (List Nat))(ks:List V)(H:Hp)(i:Nat)(σ:L2.St)(H':Hp):Prop
 | mk (x3:Option V) (es:List (Key×V)):σ=[some (.ref S),some (.int ((2 ^ h.2.length - 1:Nat):Int)),some (.ref E),x3]->H' E=some (.dK es)->H' l=some (.lst ks)->es.length<=2 * i->(∀ j o,os.length - i<=j->os[j]? = some o->sV (Ends h) es o)->Same H H'->EdI S E l h os ks H i σ H'
def acQ (h:Hs)(o:List Nat):V->V
 | .int n=>.int ((Ends h (o++[n.toNat]):Nat):Int)
 | v=>v
def tK:Sp:=fun vs H Q _=>∃ (S:Addr) (kvs:List (Key×V)) (h:Hs) (os:List (List Nat)),vs=[.ref S,.int ((2 ^ h.2.length - 1:Nat):Int)]/\h.2.length<=12/\H S=some (.dK kvs)/\DictL (nxV h) H kvs os/\dj h os/\∀ (E:Addr) (es:List (Key×V)) (H':Hp),Same H H'->H E=none->H' E=some (.dK es)->(∀ o∈os,sV (Ends h) es o)->Q (.ref E) H'
theorem kH:aA ["thing","most"] ["thing","most"] (ai cU):=scM rfl rfl rfl rfl (by decide +kernel)
theorem vh {T f:Addr}{fd:FuncData}{oc d:Value}{od:Option Addr}{n:Nat}{sl:Array (Option Value)}(F:FunD K "require_small" "require_small" cU T f fd)(hT:K.lookup T=some ⟨oc,od,.seq #[d] n,sl⟩):Binds K fd ["thing","most"] [d]:=by
 obtain⟨_,_,kV,doc,pm,an,cdv,ct,osl,rfl,lk,hcd⟩:=F.ex;intro s us KX hl;have l1:us.length=1:=by simpa using hl
 match us,l1 with
 | [x],_=>exact BindsTo.of_defaults rfl (KX _ _ hT) rfl rfl rfl
theorem zb {T f fR:Addr}{fd fdR:FuncData}(F:FunD K "require_small" "require_small" cU T f fd)(lR:FnOk P w K mg base CX0 6 fR fdR ["thing"] ab3)(eU:Cal K mg "require_house" ["thing"] fR fdR)(cI:mg "len" = none):FnOk P w K mg base CX0 7 f fd ["thing","most"] lg:=by
 refine F.ok kH (fun vs H Q E h=>?_) (fun cdv A outer s H vs Q E hr h=>?_)
 ·obtain⟨v,h,m,rfl,_⟩:=h
  rfl
 ·have hu:=dO hr;obtain⟨v,h,m,rfl,hh,ok,le,q⟩:=h;refine⟨_,(ag (dy (pcl lR eU hr rfl (ae (pv 0) ah)))
   (ao (dN (aJ acU (aw aB rfl cI aep (ae (bW eY (pv 0) ak (fun _ _=>rfl)) ah)) (pv 1) (bo _))
    qy aS))),?_⟩
  refine⟨_,rfl,v,h,rfl,hh,ok,fun H1 s1=>?_⟩;obtain⟨t,a,r,vs,rfl,h1,h2,h3,h4⟩:=hh;refine⟨_,rfl,t,_,_,_,rfl,rfl,aAB (s1 _ _ h1),rfl,r,_,rfl,.inl (aAA (s1 _ _ h3)),_,rfl,_,_,rfl,rfl,_,rfl,?_⟩;rw [ad4 (by have:=h4.1;lia)];exact eP (q H1 s1)
theorem pB:aA ["house"] ["house"] (ai gz):=scM rfl rfl rfl rfl (by decide +kernel)
theorem aad {f:Addr}{fd:FuncData}(F:Fun K "set_of_all" "set_of_all" gz f fd)(cI:mg "len" = none):FnOk P w K mg base CX0 1 f fd ["house"] uy:=by
 refine F.ok pB (fun vs H Q E h=>?_) (fun cdv A outer s H vs Q E hr h=>?_)
 ·obtain⟨v,h,rfl,_⟩:=h
  rfl
 ·have hu:=dO hr;obtain⟨v,h,rfl,⟨t,a,r,vs,rfl,h1,h2,h3,h4⟩,l12,q⟩:=h;refine⟨_,(ao (aH (aP tG (aP zw ak (aw aB rfl cI aep (ae (bW eY (pv 0) ak (fun _ _=>rfl)) ah))) ak))),?_⟩;refine⟨_,rfl,t,_,1,.ref r,rfl,rfl,aAB h1,rfl,r,_,rfl,.inl (aAA h3),?_⟩;refine⟨1,_,rfl,rfl,?_,_,1,rfl,rfl,?_⟩
  ·have:=h4.1;constructor<;>lia
  ·rw [aek,h4.1,Int.one_mul];have e:((2:Int) ^ h.2.length - 1)=((2 ^ h.2.length - 1:Nat):Int):=by
    have:=Nat.one_le_two_pow (n:=h.2.length);rw [Int.ofNat_sub this,Int.natCast_pow]
    rfl
   show Q (V.int ((2:Int) ^ h.2.length - 1)) H;rw [e];exact q H (Same.refl H)
theorem jG:aA ["steps","whole","ends","opened"] ["steps","whole"] (ai iA):=scM rfl rfl rfl rfl (by decide +kernel)
theorem qI:(["number","ends","opened"]:List Str).Nodup:=by decide +kernel
theorem aak {f fW:Addr}{fd fdW:FuncData}(F:Fun K "ends_of" "ends_of" iA f fd)(bq:FnOk P w K mg base CX0 1 fW fdW ["opened","number"] oy)(aG:Cal K mg "with_room" ["opened","number"] fW fdW)(bj:mg "list" = none)(jI:mg "reversed" = none)(oY:mg "sum" = none):FnOk P w K mg base CX0 2 f fd ["steps","whole"] tK:=by
 refine F.ok jG (fun vs H Q E h=>?_) (fun cdv A outer s H vs Q E hr h=>?_)
 ·obtain⟨S,kvs,h,os,rfl,_⟩:=h
  rfl
 ·have hu:=dO hr;obtain⟨S,kvs,h,os,rfl,l12,hS,dl,sa,q⟩:=h;refine⟨_,(ag (ay (i:=2) jG.nd rfl (.inr rfl) px)
   (ag (bc (cX aeh rfl (abb rfl jI (ae (dU (mU rfl) rfl bj (by decide +kernel) (ae (pv 0) ah)) ah)) (au (i:=3) jG.nd rfl (.inr rfl))
    (ag (lG hu (pv 2) (pv 3) (aw (mj rfl) rfl oY (by decide +kernel) (ae (kI (tg:=.Name "number" _) (outer:=ai (iA)) (N:=["steps","whole","ends","opened"]) (N':=["number","ends","opened"]) (nl:=1) (ix:=[2,3]) rfl rfl rfl (aX (cV hu (pv 0) (pv 3) (fun _ _=>rfl)))
    (fun _ _ _ _=>(au (i:=0) qI rfl (.inl rfl) (.inr rfl))) (fun _ _ _ _=>dA)
    (fun _ _ _ _=>(cV (by exact hu) (pv 1) (pcl bq aG hr rfl (ae (pv 2) (ae (pv 0) ah))) (fun _ _=>rfl)))) ah)) rfl)
    (ao (bc (dN (aJ vg (pv 3) (pv 1) (bo _))
     (ao (lG hu (pv 2) (pv 3) ak rfl)) aS))))))
   (ao (aH (pv 2))))),?_⟩
  intro E nE;have s0:Same H (upd H E (.dK [])):=ar nE;have e0:(upd H E (.dK [])) E=some (.dK []):=af;generalize upd H E (.dK [])=H0 at *;have few:=rS sa;have p12:2 ^ h.2.length<=4096:=adZ (afk (by decide) l12) (by decide);have kl:=dl.len;have lim:1000000 < sizeLine:=by decide
  refine⟨fun σ H'=>∃ l,EdI S E l h os (kvs.map fun p=>kV p.1) H os.length σ H',?_,?_⟩
  ·rintro σ H1 ⟨l,x3,es,rfl,eE,_,_,all,s1⟩;exact⟨_,rfl,q E es H1 s1 nE eE fun o ho=>by
    obtain⟨j,hj⟩:=aeH ho;exact all j o (by lia) hj⟩
  ·refine⟨_,rfl,S,kvs,rfl,s0 _ _ hS,by lia,fun l nl=>?_⟩;have s1:Same H (upd H0 l (.lst (kvs.map fun p=>kV p.1))):=s0.trans (ar nl);have el:E≠l:=fun z=>by rw [z] at e0;rw [e0] at nl;cases nl
   refine⟨l,_,rfl,aAA af,?_⟩;have kll:(kvs.map fun p=>kV p.1).length=os.length:=by rw [adG,kl]
   refine aaM (xs:=kvs.map fun p=>kV p.1) (EdI S E l h os (kvs.map fun p=>kV p.1) H) ⟨_,[],rfl,by rw [aj el];exact e0,af,ad7 _,fun j o hj e=>?_,s1⟩ (fun i σ H' _ ⟨_,_,_,_,hl,_,_,_⟩=>aAA hl) ?_ ?_
   ·have:=(adF.mp e).1;lia
   ·rw [kll];rintro i x σ H2 hx hi ⟨x3,es,rfl,eE,hl,len,all,s2⟩;have hj:os.length - 1 - i < os.length:=by lia
    obtain⟨o,ho⟩:∃ o,os[os.length - 1 - i]? = some o:=⟨_,adD hj⟩;obtain⟨ln,vn,hn⟩:=dl.get sa.nd ho;have hom:=adR ho;have g:=sa.gone o hom;have ex:x=.int ((aU o:Nat):Int):=by
     have e1:(kvs.map (·.1))[os.length - 1 - i]? = some (kB o):=by rw [dl.keys,adK,ho];rfl
     rw [adK] at e1 hx;cases hk:kvs[os.length - 1 - i]? with
     | none=>rw [hk] at hx;cases hx
     | some kv =>
      rw [hk] at e1 hx;cases hx;injection e1 with e1
      have e2:kv.1=kB o:=e1;show kV kv.1=_;rw [e2]
      rfl
    subst ex;dsimp only [cw,aa7,aav,tCB,iC,rZ];refine aQ _ _ _ _ _ _ _ _ _ ?_;refine⟨_,rfl,_,rfl,S,.ref ln,rfl,iY (s2 _ _ hS) vn,ln,rfl,⟨_,aAA (s2 _ _ hn)⟩,fun D nD=>?_⟩;have lx:(nxV h o).length<=1000000:=by
     rw [adG];have:=eJ (pL h o) fun i hi=>(next_iffD.mp hi).1;lia
    refine wQ (F:=acQ h o) (s2 _ _ hn) nD lx (fun x=>rfl) (fun G x R hx sG r=>?_) (fun G sG hD=>?_)
    ·obtain⟨n,hn',rfl⟩:=ad5.mp hx;obtain⟨k2,o2,e2,lt2,eb,pm⟩:=abk sa ho hn';have nd2:=all k2 o2 (by lia) e2;refine⟨_,rfl,_,rfl,_,rfl,aU o,n,rfl,by have:=(next_iffD.mp hn').1;lia,fun G' s'=>⟨E,_,rfl,iY (k:=.inl ((aU o ||| 2 ^ n:Nat):Int)) (s' _ _ (sG _ _ eE)) (v:=.int ((Ends h (o++[n]):Nat):Int)) ?_,r G' s'⟩⟩;unfold sV at nd2;rw [← cS,← eb];rw [nd2,Ends.perm (sa.gone o2 (adR e2)) (aI g hn') pm]
    ·refine⟨D,(aZ h o).map fun n=>((Ends h (o++[n]):Nat):Int),rfl,aAA (by rw [hD,ael,ael];rfl),_,rfl,_,rfl,E,_,rfl,.k (k:=kB o) (sG _ _ eE) (by lia),?_⟩;rw [kT fun n=>Ends h (o++[n])];have sE:Same H (upd G E (.dK (fJ es (kB o) (.int ((cY ((aZ h o).map fun n=>Ends h (o++[n])):Nat):Int))))):=bT (s2.trans sG) nE;have e2:(upd G E (.dK (fJ es (kB o) (.int ((cY ((aZ h o).map fun n=>Ends h (o++[n])):Nat):Int))))) E=some (.dK (fJ es (kB o) (.int ((cY ((aZ h o).map fun n=>Ends h (o++[n])):Nat):Int)))):=af;have l2:(upd G E (.dK (fJ es (kB o) (.int ((cY ((aZ h o).map fun n=>Ends h (o++[n])):Nat):Int))))) l=some (.lst (kvs.map fun p=>kV p.1)):=by rw [aj (aeL el)];exact sG _ _ hl
     generalize upd G E (.dK (fJ es (kB o) (.int ((cY ((aZ h o).map fun n=>Ends h (o++[n])):Nat):Int))))=G2 at *;have pl:∀ v,(fJ es (kB o) v).length<=es.length+1:=fun v=>fi _ _ _;have oth:∀ (es':List (Key×V)) (v:V),fk es' (kB o)=some (.int ((Ends h o:Nat):Int))->(∀ k,k≠kB o->fk es' k=fk es k)->∀ j' o',os.length - (i+1)<=j'->os[j']? = some o'->sV (Ends h) es' o':=fun es' v h1 h2 j' o' hj' ho'=>by
      by_cases ej:j'=os.length - 1 - i
      ·subst ej;rw [ho] at ho';cases ho';exact h1
      ·unfold sV;rw [h2 _ fun z=>ej ?_]
       ·exact all j' o' (by lia) ho'
       ·have eb:=lM z;have ha:(os.map aU)[j']? = some (aU o'):=by rw [adK,ho'];rfl
        have hb:(os.map aU)[os.length - 1 - i]? = some (aU o):=by rw [adK,ho];rfl
        exact (List.getElem?_inj (adF.mp ha).1 sa.nd).mp (by rw [ha,hb,eb])
     refine⟨EdI S E l h os (kvs.map fun p=>kV p.1) H (i+1),fun σ H h=>h,?_⟩;refine⟨_,rfl,_,rfl,rfl,_,rfl,acg (fun e=>?_) (fun e=>?_)⟩
     ·have ew:o.length=h.2.length:=(eZ g).mp (by
       have:=aeZ e;injection this with this
       lia)
      refine⟨_,rfl,_,rfl,E,_,rfl,.k (k:=kB o) e2 (by have:=pl (.int ((cY ((aZ h o).map fun n=>Ends h (o++[n])):Nat):Int));lia),?_⟩;refine⟨_,_,rfl,af,by rw [aj (aeL el)];exact l2,?_,oth _ .non ?_ fun k hk=>?_,bT sE nE⟩
      ·have h1:=pl (.int ((cY ((aZ h o).map fun n=>Ends h (o++[n])):Nat):Int));have h2:=fi (fJ es (kB o) (.int ((cY ((aZ h o).map fun n=>Ends h (o++[n])):Nat):Int))) (kB o) (.int 1);lia
      ·rw [gB,if_pos rfl,Ends.all ew];rfl
      ·rw [gB,if_neg hk,gB,if_neg hk]
     ·have lt:o.length < h.2.length:=by
       have h1:=dF g;refine Nat.lt_of_le_of_ne h1 fun z=>e ?_;rw [(eZ g).mpr z];exact adY rfl
      refine⟨_,_,rfl,e2,l2,by have:=pl (.int ((cY ((aZ h o).map fun n=>Ends h (o++[n])):Nat):Int));lia,oth _ .non ?_ fun k hk=>?_,sE⟩
      ·rw [gB,if_pos rfl,Ends.step lt]
      ·rw [gB,if_neg hk]
   ·rw [kll];exact fun σ H' z=>⟨l,z⟩
def zJ:Sp:=fun vs H Q _=>∃ (S:Addr) (kvs:List (Key×V)) (h:Hs) (os:List (List Nat)),vs=[.ref S]/\h.2.length<=12/\H S=some (.dK kvs)/\DictL (nxV h) H kvs os/\dj h os/\∀ (E:Addr) (es:List (Key×V)) (wf:List Nat->Nat) (H':Hp),Same H H'->H E=none->H' E=some (.dK es)->(∀ o∈os,sV wf es o)->cY ((os.filter fun o=>(aZ h o).isEmpty).map wf)=Stuck h []->Q (.ref E) H'
theorem l9 {h:Hs}{os:List (List Nat)}(sa:dj h os):∃ z∈os,kB z=.inl 0/\z.Perm []:=by
 obtain⟨z,hz,ez⟩:=ad5.mp (sa.all [] (bX _ _));refine⟨z,hz,?_,eA (bu z (sa.gone z hz)) .nil ez⟩;unfold kB;rw [ez]
 rfl
def u9 (h:Hs)(os:List (List Nat))(k:Key):Bool:=os.any fun o=>decide (kB o=k) && stop h o
theorem wj:∀ (kvs:List (Key×V)) (k:Key),k∈kvs.map (·.1)->fk (kvs.map fun p=>(p.1,V.int 0)) k=some (.int 0)
 | [],_,hk=>by cases hk
 | p::r,k,hk=>by
  show fk ((p.1,V.int 0)::r.map fun p=>(p.1,V.int 0)) k=_;by_cases e:p.1=k
  ·exact cn e
  ·rw [cm (p:=(p.1,V.int 0)) e];refine wj r k ?_;rcases adO.mp hk with z | z
   ·exact absurd z.symm e
   ·exact z
inductive WaI (S W:Addr)(h:Hs)(os:List (List Nat))(kvs:List (Key×V))(ob:Obj)(H:Hp)(i:Nat)(σ:L2.St)(H':Hp):Prop
 | mk (es:List (Key×V)) (wf:List Nat->Nat) (x2 x3 x4:Option V):σ=[some (.ref S),some (.ref W),x2,x3,x4]->H' W=some (.dK es)->H' S=some (.frz ob (.dK kvs))->es.map (·.1)=os.map kB->(∀ o∈os,sV wf es o)->Tot h os i wf=Stuck h []->Same (cQ S H) H'->WaI S W h os kvs ob H i σ H'
inductive WbI (S W:Addr)(h:Hs)(os:List (List Nat))(kvs:List (Key×V))(ob:Obj)(H:Hp)(i:Nat)(o:List Nat)(ln:Addr)(j:Nat)(σ:L2.St)(H':Hp):Prop
 | mk (es:List (Key×V)) (wf:List Nat->Nat) (x4:Option V):σ=[some (.ref S),some (.ref W),some (.int ((aU o:Nat):Int)),some (.ref ln),x4]->H' W=some (.dK es)->H' S=some (.frz ob (.dK kvs))->es.map (·.1)=os.map kB->(∀ o∈os,sV wf es o)->zV h os i o j wf=Stuck h []->Same (cQ S H) H'->WbI S W h os kvs ob H i o ln j σ H'
theorem fY:aA ["steps","ways","opened","numbers","number"] ["steps"] (ai iy):=scM rfl rfl rfl rfl (by decide +kernel)
theorem qi:(["opened"]:List Str).Nodup:=by decide +kernel
theorem aaI {f fW:Addr}{fd fdW:FuncData}(F:Fun K "ways_of" "ways_of" iy f fd)(bq:FnOk P w K mg base CX0 1 fW fdW ["opened","number"] oy)(aG:Cal K mg "with_room" ["opened","number"] fW fdW):FnOk P w K mg base CX0 2 f fd ["steps"] zJ:=by
 refine F.ok fY (fun vs H Q E h=>?_) (fun cdv A outer s H vs Q E hr h=>?_)
 ·obtain⟨S,kvs,h,os,rfl,_⟩:=h
  rfl
 ·have hu:=dO hr;obtain⟨S,kvs,h,os,rfl,l12,hS,dl,sa,q⟩:=h;refine⟨_,(ag (yP (i:=1) (tg:=.Name "opened" _) (outer:=ai (iy)) (N:=["steps","ways","opened","numbers","number"]) (N':=["opened"]) (nl:=1) (ix:=[]) fY.nd rfl (.inl rfl) rfl rfl rfl (wG (H₀:=H) rfl (pv 0))
   (fun _ _ _ _=>(au (i:=0) qi rfl (.inl rfl) (.inr rfl))) (fun _ _ _ _=>dA)
   (fun _ _ _ _=>(pv 0)) (fun _ _ _ _=>ak))
   (uf (H₀:=H) rfl (ag (lG hu (pv 1) ak ak rfl)
   (ag (bc (cX aeh rfl (uo (H₀:=H) rfl (pv 0)) (kh rfl (aF (au (i:=2) fY.nd rfl (.inl rfl)) (aF (au (i:=3) fY.nd rfl (.inl rfl)) c6)))
    (ao (bc (cX aeh rfl (aX (pv 3)) (au (i:=4) fY.nd rfl (.inl rfl))
     (ao (aam hu (pv 1) (pcl bq aG hr rfl (ae (pv 2) (ae (pv 4) ah))) (cV hu (pv 1) (pv 2) (fun _ _=>rfl)) abA (by intros;rfl))))))))
   (uf (H₀:=H) rfl (ao (aH (pv 1)))))))),?_⟩
  have few:=rS sa;have p12:2 ^ h.2.length<=4096:=adZ (afk (by decide) l12) (by decide);have kl:=dl.len;have lim:1000000 < sizeLine:=by decide
  have kn:(kvs.map (·.1)).Nodup:=by
   rw [dl.keys];have:=sa.nd;rw [List.nodup_iff_pairwise_ne,List.pairwise_map] at this ⊢;exact this.imp fun n z=>n (lM z)
  obtain⟨z0,hz0,kz,pz⟩:=l9 sa;have ez0:aU z0=aU []:=qf pz;dsimp only [cw,aa7,aav,tCB,iC,rZ];refine yn _ _ _ _ _ _ _ _ _ _ ?_;refine⟨_,rfl,S,kvs,rfl,hS,fun ob nf D nD=>?_⟩;have neSD:S≠D:=fun z=>by subst z;rw [af] at nD;cases nD
  have nD0:H D=none:=by rw [aj (aeL neSD)] at nD;exact nD
  refine rW (F:=fun _=>.int 0) (a:=S) (o:=ob) (kvs:=kvs) af kn nD (by lia) (fun x=>rfl) (fun G k R r=>⟨_,rfl,r⟩) (fun G k R hk sG r=>r G (Same.refl G)) fun G sG hG=>?_;have sO:Same (cQ S H) (upd H S (.frz ob (.dK kvs))):=fun b u e=>by
   unfold cQ at e;split at e
   ·cases e
   ·rename_i hb;rw [aj hb];exact e
  have nDo:cQ S H D=none:=by
   unfold cQ;rw [if_neg (aeL neSD)];exact nD0
  refine⟨S,ob,kvs,sG _ _ af,nf,?_⟩;have hD1:(upd G S (.dK kvs)) D=some (.dK (kvs.map fun p=>(p.1,V.int 0))):=by rw [aj (aeL neSD)];exact hG
  have zk:∀ k,k∈kvs.map (·.1)->fk (kvs.map fun p=>(p.1,V.int 0)) k=some (.int 0):=fun k hk=>wj kvs k hk;refine⟨_,rfl,D,_,rfl,.k (k:=.inl 0) hD1 (by rw [adG];lia),?_⟩;have kp:∀ (es:List (Key×V)) (x:List Nat) (v:V),x∈os->es.map (·.1)=os.map kB->(fJ es (kB x) v).map (·.1)=os.map kB:=fun es x v hx he=>by
   rcases yK es (kB x) v with ⟨e,_⟩ | ⟨_,n⟩
   ·rw [e,he]
   ·exact absurd (ae0 hx) (by rw [← he];exact n)
  have s1:Same (cQ S H) (upd (upd G S (.dK kvs)) D (.dK (fJ (kvs.map fun p=>(p.1,V.int 0)) (.inl 0) (.int 1)))):=by
   refine bT (fun b u e=>?_) nDo;have e1:=sG _ _ (sO _ _ e);unfold cQ at e;split at e
   ·cases e
   ·rename_i hb;rw [aj hb];exact e1
  have hS1:(upd (upd G S (.dK kvs)) D (.dK (fJ (kvs.map fun p=>(p.1,V.int 0)) (.inl 0) (.int 1)))) S=some (.dK kvs):=by rw [aj neSD,af]
  have hD2:(upd (upd G S (.dK kvs)) D (.dK (fJ (kvs.map fun p=>(p.1,V.int 0)) (.inl 0) (.int 1)))) D=some (.dK (fJ (kvs.map fun p=>(p.1,V.int 0)) (.inl 0) (.int 1))):=af;generalize upd (upd G S (.dK kvs)) D (.dK (fJ (kvs.map fun p=>(p.1,V.int 0)) (.inl 0) (.int 1)))=G1 at *;have k1:(fJ (kvs.map fun p=>(p.1,V.int 0)) (.inl 0) (.int 1)).map (·.1)=os.map kB:=by
   rw [← kz];exact kp _ z0 _ hz0 (by rw [ael,← dl.keys];rfl)
  have n1:∀ o∈os,sV (upB 0 1 fun _=>0) (fJ (kvs.map fun p=>(p.1,V.int 0)) (.inl 0) (.int 1)) o:=fun o ho=>by
   unfold sV upB;rw [gB];by_cases e:aU o=0
   ·rw [if_pos (by unfold kB;rw [e];rfl),if_pos e];rfl
   ·rw [if_neg (fun z=>e ?_),if_neg e]
    ·exact zk _ (by rw [dl.keys];exact ae0 ho)
    ·rw [← kz] at z;exact (lM z).trans ez0
  generalize fJ (kvs.map fun p=>(p.1,V.int 0)) (.inl 0) (.int 1)=es1 at *;refine⟨fun σ H'=>∃ o',WaI S D h os kvs o' H os.length σ H'/\∀ o'' u,H S≠some (.frz o'' u),?_,?_⟩
  ·rintro σ H3 ⟨o',⟨es,wf,x2,x3,x4,rfl,e1,e2,e3,e4,e5,e6⟩,nf3⟩;refine⟨S,o',kvs,e2,nf3,_,rfl,q D es wf _ (fun b u e=>?_) nD0 (by rw [aj (aeL neSD)];exact e1) e4 ?_⟩
   ·by_cases hb:b=S
    ·subst hb;rw [hS] at e;cases e;exact af
    ·rw [aj hb];exact e6 _ _ (by unfold cQ;rw [if_neg hb];exact e)
   ·rw [aao] at e5;exact e5
  ·refine⟨_,rfl,S,kvs,rfl,hS1,fun o' nf'=>?_⟩;refine qp (WaI S D h os kvs o' H) (.mk es1 _ none none none rfl (by rw [aj (aeL neSD)];exact hD2) af k1 n1 (acV sa) (fun b u e=>?_)) (fun i σ H' _ ⟨_,_,_,_,_,_,_,e,_,_,_,_⟩=>e) ?_ (fun σ H' z=>⟨o',by rw [← kl];exact z,nf⟩)
   ·have e1:=s1 _ _ e;unfold cQ at e;split at e
    ·cases e
    ·rename_i hb;rw [aj hb];exact e1
   ·rintro i k vv σ H5 T hkv ⟨es,wf,x2,x3,x4,rfl,e1,e2,e3,e4,e5,e6⟩ nT;have hi:i < os.length:=by rw [← kl];exact (adF.mp hkv).1
    obtain⟨o,ho⟩:∃ o,os[i]? = some o:=⟨_,adD hi⟩;have hom:=adR ho;have g:=sa.gone o hom;obtain⟨ln,ev,eln⟩:=dl.at_ i (k,vv) o hkv ho;have ekk:k=kB o:=by
     have a:(kvs.map (·.1))[i]? = some k:=by rw [adK,hkv];rfl
     rw [dl.keys,adK,ho] at a;exact (aev a).symm
    dsimp only at ev;subst ev ekk;have s6:Same H5 (upd H5 T (.tup [kV (kB o),.ref ln])):=ar nT;have e7:(upd H5 T (.tup [kV (kB o),.ref ln])) T=some (.tup [kV (kB o),.ref ln]):=af;generalize upd H5 T (.tup [kV (kB o),.ref ln])=H6 at *;refine⟨T,_,rfl,aAB e7,rfl,?_⟩;refine⟨_,_,rfl,_,_,rfl,rfl,?_⟩;have nlS:ln≠S:=fun z=>by subst z;rw [hS] at eln;cases eln
    have hln:∀ {G},Same (cQ S H) G->G ln=some (.lst (nxV h o)):=fun s=>s _ _ (by unfold cQ;rw [if_neg nlS];exact eln);refine⟨WbI S D h os kvs o' H i o ln (aZ h o).length,?_,?_⟩
    ·rintro σ' H9 ⟨es,wf,x4,rfl,a1,a2,a3,a4,a5,a6⟩;exact .mk es wf _ _ _ rfl a1 a2 a3 a4 (by rw [← aa4];exact a5) a6
    ·refine⟨_,rfl,ln,rfl,⟨_,aAA (hln (e6.trans s6))⟩,?_⟩;refine dJ (xs:=nxV h o) (fun j σ' H'=>WbI S D h os kvs o' H i o ln j σ' H') (.mk es wf _ rfl (s6 _ _ e1) (s6 _ _ e2) e3 e4 (by rw [← abJ ho g];exact e5) (e6.trans s6)) (fun j σ H' _ ⟨_,_,_,_,_,_,_,_,_,s⟩=>aAA (hln s)) ?_ (fun σ H' z=>by rw [adG] at z;exact z);rintro j x σ H9 hx ⟨es,wf,x4,rfl,a1,a2,a3,a4,a5,a6⟩;obtain⟨n,en,ex⟩:∃ n,(aZ h o)[j]? = some n/\x=.int ((n:Nat):Int):=by
      rw [adK] at hx;cases hq:(aZ h o)[j]? with
      | none=>rw [hq] at hx;cases hx
      | some n=>rw [hq] at hx;cases hx;exact⟨n,rfl,rfl⟩
     subst ex;have hn':=adR en;obtain⟨k2,y,ey,lt2,eb,pm⟩:=abk sa ho hn';have hym:=adR ey;have ekey:(Sum.inl ((aU o ||| 2 ^ n:Nat):Int):Key)=kB y:=by
      unfold kB;rw [eb,cS]
     have ly:es.length=os.length:=by simpa using aeu List.length a3
     refine⟨_,rfl,_,rfl,_,rfl,aU o,n,rfl,by have:=(next_iffD.mp hn').1;lia,fun G' s'=>⟨D,_,rfl,iY (k:=.inl ((aU o ||| 2 ^ n:Nat):Int)) (s' _ _ a1) (by rw [ekey];exact a4 y hym),?_⟩⟩;refine⟨_,rfl,_,rfl,D,_,rfl,iY (k:=kB o) (s' _ _ a1) (a4 o hom),?_⟩;refine⟨_,_,rfl,rfl,_,.k (k:=.inl ((aU o ||| 2 ^ n:Nat):Int)) (s' _ _ a1) (by lia),?_⟩;rw [ekey];refine .mk _ (upB (aU y) (wf o) wf) _ rfl af (by rw [aj neSD];exact s' _ _ a2) (kp _ y _ hym a3) (fun z hz=>?_) (by rw [ab7 sa.nd ho ey lt2 en (Stuck.perm (sa.gone y hym) (aI g hn') pm)];exact a5) (bT (a6.trans s') nDo);have hz':=a4 z hz;have hy':=a4 y hym;unfold sV at hz' hy' ⊢;rw [gB];by_cases eq:aU z=aU y
     ·have ek:kB z=kB y:=by unfold kB;rw [eq]
      rw [ek] at hz' ⊢;rw [hy'] at hz';injection hz' with hz'
      injection hz' with hz'
      rw [if_pos rfl];unfold upB;rw [if_pos eq];congr 2;lia
     ·rw [if_neg (fun q=>eq (lM q)),qm eq];exact hz'
def zF:Sp:=fun vs H Q _=>∃ (v:V) (h:Hs),vs=[v]/\HouseAt H v h/\cB h/\vm h/\h.2.length<=12/\∀ H',Same H H'->Q (.int ((Ends h []:Nat):Int)) H'
def vw:Sp:=fun vs H Q _=>∃ (v:V) (h:Hs),vs=[v]/\HouseAt H v h/\cB h/\vm h/\h.2.length<=12/\∀ H',Same H H'->Q (.int ((Stuck h []:Nat):Int)) H'
theorem jh:aA ["house"] ["house"] (ai cZ):=scM rfl rfl rfl rfl (by decide +kernel)
theorem aa0 {f fS fT fE fA:Addr}{fd fdS fdT fdE fdA:FuncData}{tk:Nat}(F:Fun K "how_many_orders" "how_many_orders" cZ f fd)(br:FnOk P w K mg base CX0 7 fS fdS ["thing","most"] lg)(mS:mg "require_small" = some (.ref fS))(kS:keepIn K (.ref fS)=true)(bS:Binds K fdS ["thing","most"] [.int 12 tk])
 (dz:FnOk P w K mg base CX0 3 fT fdT ["house"] mq)(bw:Cal K mg "steps_of" ["house"] fT fdT)(dP:FnOk P w K mg base CX0 1 fA fdA ["house"] uy)(bz:Cal K mg "set_of_all" ["house"] fA fdA)(gM:FnOk P w K mg base CX0 2 fE fdE ["steps","whole"] tK)(df:Cal K mg "ends_of" ["steps","whole"] fE fdE):FnOk P w K mg base CX0 8 f fd ["house"] zF:=by
 refine F.ok jh (fun vs H Q E h=>?_) (fun cdv A outer s H vs Q E hr h=>?_)
 ·obtain⟨v,h,rfl,_⟩:=h
  rfl
 ·have hu:=dO hr;obtain⟨v,h,rfl,hh,ok,few,l12,q⟩:=h;refine⟨_,(ag (dy (d9 br hr rfl mS kS bS (dvs:=[.int 12]) (.cons ⟨tk,rfl⟩ .nil) iT (ae (pv 0) ah)))
   (ao (aH (cV hu (pcl gM df (hr.mono (by decide:2<=7)) rfl (ae (pcl dz bw (hr.mono (by decide:3<=7)) rfl (ae (pv 0) ah)) (ae (pcl dP bz (hr.mono (by decide:1<=7)) rfl (ae (pv 0) ah)) ah))) ak (fun _ _=>rfl))))),?_⟩
  refine⟨_,rfl,v,h,12,rfl,hh,ok,l12,fun H1 s1=>?_⟩;refine⟨_,rfl,v,h,rfl,hh.same s1,ok,few,l12,fun S kvs os H2 s2 nS eS dl sa=>?_⟩;refine⟨_,rfl,v,h,rfl,(hh.same s1).same s2,l12,fun H3 s3=>?_⟩;refine⟨S,kvs,h,os,rfl,l12,s3 _ _ eS,dl.same (gD.trans s3),sa,fun E es H4 s4 nE eE all=>?_⟩;obtain⟨z0,hz0,ez0,ks⟩:=l9 sa;refine⟨E,_,rfl,iY (k:=.inl 0) eE (by rw [← ez0];exact all z0 hz0),?_⟩;rw [Ends.perm (sa.gone z0 hz0) (bX _ _) ks];exact q H4 (((s1.trans s2).trans s3).trans s4)
theorem dB:aA ["house","steps","ways"] ["house"] (ai cJ):=scM rfl rfl rfl rfl (by decide +kernel)
theorem iM:(["opened","ways","steps"]:List Str).Nodup:=by decide +kernel
theorem zh {f fS fT fW:Addr}{fd fdS fdT fdW:FuncData}{tk:Nat}(F:Fun K "how_many_stuck" "how_many_stuck" cJ f fd)(br:FnOk P w K mg base CX0 7 fS fdS ["thing","most"] lg)(mS:mg "require_small" = some (.ref fS))(kS:keepIn K (.ref fS)=true)(bS:Binds K fdS ["thing","most"] [.int 12 tk])
 (dz:FnOk P w K mg base CX0 3 fT fdT ["house"] mq)(bw:Cal K mg "steps_of" ["house"] fT fdT)(wc:FnOk P w K mg base CX0 2 fW fdW ["steps"] zJ)(mF:Cal K mg "ways_of" ["steps"] fW fdW)(oY:mg "sum" = none):FnOk P w K mg base CX0 8 f fd ["house"] vw:=by
 refine F.ok dB (fun vs H Q E h=>?_) (fun cdv A outer s H vs Q E hr h=>?_)
 ·obtain⟨v,h,rfl,_⟩:=h
  rfl
 ·have hu:=dO hr;obtain⟨v,h,rfl,hh,ok,few,l12,q⟩:=h;refine⟨_,(ag (dy (d9 br hr rfl mS kS bS (dvs:=[.int 12]) (.cons ⟨tk,rfl⟩ .nil) iT (ae (pv 0) ah)))
   (ag (ay (i:=1) dB.nd rfl (.inr rfl) (pcl dz bw (hr.mono (by decide:3<=7)) rfl (ae (pv 0) ah)))
   (ag (ay (i:=2) dB.nd rfl (.inr rfl) (pcl wc mF (hr.mono (by decide:2<=7)) rfl (ae (pv 1) ah)))
   (ao (aH (aw (mj rfl) rfl oY (by decide +kernel) (ae (aa5 (H₀:=H) rfl (kI (tg:=.Name "opened" _) (outer:=ai (cJ)) (N:=["house","steps","ways"]) (N':=["opened","ways","steps"]) (nl:=1) (ix:=[2,1]) rfl rfl rfl (wG (H₀:=H) rfl (pv 1))
    (fun _ _ _ _=>(au (i:=0) iM rfl (.inl rfl) (.inr rfl))) (fun _ _ _ _=>(hE (fu (vV (K:=K) rfl (cV (by exact hu) (pv 2) (pv 0) (fun _ _=>rfl)) (by intro _;rfl)))))
    (fun _ _ _ _=>(cV (by exact hu) (pv 1) (pv 0) (fun _ _=>rfl))))) ah))))))),?_⟩
  refine⟨_,rfl,v,h,12,rfl,hh,ok,l12,fun H1 s1=>?_⟩;refine⟨_,rfl,v,h,rfl,hh.same s1,ok,few,l12,fun S kvs os H2 s2 nS eS dl sa=>?_⟩;refine⟨_,rfl,S,kvs,h,os,rfl,l12,eS,dl,sa,fun W es wf H3 s3 nW eW all tot=>?_⟩;have few:=rS sa;have p12:2 ^ h.2.length<=4096:=adZ (afk (by decide) l12) (by decide);have kl:=dl.len;dsimp only [zK,tCB,iC,rZ,zz,cw];refine aQ _ _ _ _ _ _ _ _ _ ?_;refine⟨_,rfl,S,kvs,rfl,s3 _ _ eS,fun ob nf D nD=>?_⟩;have neSD:S≠D:=fun z=>by subst z;rw [af] at nD;cases nD
  have neSW:S≠W:=fun z=>by subst z;rw [eS] at nW;cases nW
  have pk:∀ o∈os,u9 h os (kB o)=stop h o:=fun o ho=>by
   unfold u9;rw [aeR,afw];constructor
   ·rintro⟨o',ho',e⟩;rw [aei,aeD] at e;unfold stop;rw [← ir (sa.gone o' ho') (sa.gone o ho) (eA (bu o' (sa.gone o' ho')) (bu o (sa.gone o ho)) (lM e.1))];exact e.2
   ·exact fun e=>⟨o,ho,by rw [aei,aeD];exact⟨rfl,e⟩⟩
  refine uO (F:=fun k=>(fk es k).getD .non) (pb:=u9 h os) (a:=S) (o:=ob) (kvs:=kvs) af nD (by lia) (fun x=>rfl) (fun G k R hk sG r=>?_) (fun G k R hk _ sG r=>?_) fun G sG hG=>?_
  ·rw [dl.keys] at hk;obtain⟨o,ho,rfl⟩:=ad5.mp hk;obtain⟨j,hj⟩:=aeH ho;obtain⟨l,e1,e2⟩:=dl.get sa.nd hj;have neSl:l≠S:=fun z=>by subst z;rw [eS] at e2;cases e2
   have el:G l=some (.lst (nxV h o)):=sG _ _ (by rw [aj neSl];exact s3 _ _ e2);refine⟨_,rfl,_,rfl,S,.ref l,rfl,.inl ⟨kvs,kB o,.inr ⟨ob,sG _ _ af⟩,rfl,e1.symm⟩,(!u9 h os (kB o)),?_,?_⟩
   ·rw [pk o ho];refine .inl ⟨_,aAA el,?_⟩;show (!(aZ h o).isEmpty)=!((aZ h o).map _).isEmpty;rw [List.isEmpty_map]
   ·show R (!!u9 h os (kB o)) G;rw [Bool.not_not];exact r G (Same.refl G)
  ·rw [dl.keys] at hk;obtain⟨o,ho,rfl⟩:=ad5.mp hk;have e:=all o ho;unfold sV at e;refine⟨_,rfl,_,rfl,W,_,rfl,iY (k:=kB o) (sG _ _ (by rw [aj (aeL neSW)];exact eW)) e,?_⟩;have:=r G (Same.refl G);rw [e] at this;exact this
  ·have eS2:=sG _ _ af;refine⟨S,ob,kvs,eS2,?_,?_⟩
   ·exact nf
   ·refine⟨D,(os.filter (stop h)).map fun o=>((wf o:Nat):Int),rfl,aAA (by
     rw [aj (aeL neSD),hG,dl.keys,ahn,ael,ael];congr 2;rw [af4 fun o ho=>show (u9 h os ∘ kB) o=stop h o from pk o ho];refine afe fun o ho=>?_;have e:=all o (aeA.mp ho).1;unfold sV at e;show (fk es (kB o)).getD .non=_;rw [e]
     rfl),?_⟩
    rw [kT wf];have ft:cY ((os.filter (stop h)).map wf)=Stuck h []:=tot;rw [ft];refine q _ (((s1.trans s2).trans s3).trans fun b u e=>?_);by_cases hb:b=S
    ·subst hb;rw [s3 _ _ eS] at e;cases e;exact af
    ·rw [aj hb];exact sG _ _ (by rw [aj hb];exact e)
end
abbrev gq (ns:List Nat):List PyData:=ns.map fun i=>PyData.int ((i:Nat):Int)
theorem jb:∀ ns:List Nat,PyData.canLayAll0 (gq ns)=true
 | []=>rfl
 | n::ns=>by rw [gq,adS];simp only [PyData.canLayAll0,PyData.canLay0,afF];exact jb ns
theorem lF:∀ ns:List Nat,PyData.depthAll (gq ns)=0
 | []=>rfl
 | n::ns=>by
  rw [gq,adS];have:=lF ns;unfold gq at this;simp only [PyData.depthAll,PyData.depth,this]
  rfl
theorem mv:∀ a b:List Nat,PyData.eqvAll (gq a) (gq b)=true↔a=b
 | [],[]=>by simp [PyData.eqvAll]
 | [],y::b=>by simp [PyData.eqvAll]
 | x::a,[]=>by simp [PyData.eqvAll]
 | x::a,y::b=>by
  have:=mv a b;unfold gq at this ⊢;simp only [adS,PyData.eqvAll,PyData.eqv,aei,this,List.cons.injEq,afh];constructor
  ·rintro⟨p,q⟩;exact⟨Int.ofNat.inj p,q⟩
  ·rintro⟨p,q⟩;exact⟨by rw [p],q⟩
theorem iz {H:Hp}:∀ ns:List Nat,SeesAll H (ns.map fun i=>V.int ((i:Nat):Int)) (gq ns)
 | []=>.nil
 | n::ns=>.cons (.int _) (iz ns)
theorem sW (ns:List Nat):(PyData.list (gq ns)).depth<=1:=by simp only [PyData.depth,lF];decide
theorem oS {A:Around}{neg:Bool}{H:Hp}{x y:Addr}{a b:List Nat}{Q:VK}(hx:H x=some (.lst (a.map fun i=>V.int ((i:Nat):Int))))(hy:H y=some (.lst (b.map fun i=>V.int ((i:Nat):Int))))(hu:A.units+1 < cLine)(q:Q (.bl (if neg then !decide (a=b) else decide (a=b))) H):zP A neg (.ref x) (.ref y) H Q:=by
 refine⟨.list (gq a),.list (gq b),.lst hx (iz a),.lst hy (iz b),by simp only [PyData.canLay0,jb],by simp only [PyData.canLay0,jb],aeg (aeq (adZ (afV _ _) (sW a)) _) hu,?_⟩;have e:PyData.eqv (.list (gq a)) (.list (gq b))=decide (a=b):=by
  simp only [PyData.eqv];by_cases z:a=b
  ·rw [adY z];exact (mv a b).mpr z
  ·rw [ad4 z];cases e:PyData.eqvAll (gq a) (gq b)
   ·rfl
   ·exact absurd ((mv a b).mp e) z
 rw [e];exact q
theorem qe {A:Around}{H:Hp}{x y:Addr}{ss:List Str}{Q:VK}(hx:H x=some (.lst (ss.map V.str)))(hy:H y=some (.lst []))(kk:∀ k∈ss,dW k)(hu:A.units+1 < cLine)(q:Q (.bl ss.isEmpty) H):zP A false (.ref x) (.ref y) H Q:=by
 refine⟨.list (ss.map PyData.str),.list [],.lst hx (SeesAll.strs _),.lst hy .nil,by simp only [PyData.canLay0,iw kk],rfl,aeg (aeq (Nat.min_le_right _ _) _) hu,?_⟩;cases ss<;>exact q
theorem k9 {H:Hp}:∀ {vs:List V} {ls:List (List Nat)},vs.length=ls.length->(∀ (i:Nat) v l,vs[i]? = some v->ls[i]? = some l->∃ a:Addr,v=.ref a/\H a=some (.lst (l.map fun n=>V.int ((n:Nat):Int))))->SeesAll H vs (ls.map fun l=>.list (gq l))
 | [],[],_,_=>.nil
 | v::vs,l::ls,e,h=>by
  obtain⟨a,rfl,ha⟩:=h 0 v l rfl rfl;exact .cons (.lst ha (iz l)) (k9 (by simpa using e) fun i v' l' p q=>h (i+1) v' l' p q)
theorem nq:∀ ls:List (List Nat),PyData.canLayAll0 (ls.map fun l=>.list (gq l))=true
 | []=>rfl
 | l::ls=>by rw [adS];simp only [PyData.canLayAll0,PyData.canLay0,jb,afF];exact nq ls
abbrev zs (o:List Nat):List Int:=o.map fun n=>((n:Nat):Int)
theorem qc {a b:List Nat}(e:zs a=zs b):a=b:=List.map_inj_right (fun x y h=>by lia) |>.mp e
def ldF (h:Hs)(Wp:List Nat->Bool):Nat->List Nat->Bool
 | 0,o=>Wp o
 | n+1,o=>Wp o || (aZ h o).any fun i=>ldF h Wp n (o++[i])
def zS (h:Hs):Nat->List Nat->List (List Nat)
 | 0,o=>[o]
 | n+1,o=>o::(aZ h o).flatMap fun i=>zS h n (o++[i])
def Every (h:Hs)(o:List Nat):List (List Nat):=zS h (h.2.length - o.length) o
theorem Every.step {h:Hs}{o:List Nat}(g:cy h.1 h.2 o):Every h o=o::(aZ h o).flatMap fun i=>Every h (o++[i]):=by
 unfold Every;have le:=dF g;by_cases e:o.length=h.2.length
 ·rw [wC g e,e,af9]
  rfl
 ·obtain⟨n,en⟩:∃ n,h.2.length - o.length=n+1:=⟨h.2.length - o.length - 1,by lia⟩;rw [en];show o::_=_;congr 1;refine aeu (fun f=>(aZ h o).flatMap f) (funext fun i=>?_);rw [adI,ad8,show h.2.length - (o.length+1)=n by lia]
theorem mC {h:Hs}:∀ n o,cy h.1 h.2 o->∀ x∈zS h n o,cy h.1 h.2 x
 | 0,o,g,x,hx=>by rw [adT.mp hx];exact g
 | n+1,o,g,x,hx=>by
  rcases adO.mp hx with e | e
  ·rw [e];exact g
  ·obtain⟨i,hi,e⟩:=ag1.mp e;exact mC n _ (aI g hi) x e
theorem j7 {h:Hs}{x:List Nat}(hx:x∈Every h []):cy h.1 h.2 x:=mC _ _ (bX _ _) x hx
theorem tJ {h:Hs}:∀ e o,cy h.1 h.2 (o++e)->o++e∈Every h o
 | [],o,g=>by
  rw [aew] at g ⊢;rw [Every.step g];exact adV
 | i::e,o,g=>by
  have g1:cy h.1 h.2 ((o++[i])++e):=by rw [aer];exact g
  have ih:=tJ e (o++[i]) g1;have g2:cy h.1 h.2 (o++[i]):=by
   have:=f7 g1 (o++[i]).length
   rwa [ahE] at this
  obtain⟨g3,hi⟩:=cF g2;rw [Every.step g3];refine adN _ (ag1.mpr ⟨i,hi,?_⟩);rw [aer] at ih;exact ih
theorem vE {h:Hs}{x:List Nat}:x∈Every h []↔cy h.1 h.2 x:=⟨j7,fun g=>tJ x [] g⟩
def xI:Nat->Nat
 | 0=>1
 | n+1=>1+(n+1) * xI n
theorem vF {α:Type}{f:Nat->List α}{b:Nat}:∀ {l:List Nat},(∀ i∈l,(f i).length<=b)->(l.flatMap f).length<=l.length * b
 | [],_=>ad7 _
 | a::l,h=>by
  have h1:=h a adV;have h2:=vF (l:=l) fun i hi=>h i (adN _ hi);rw [afc,adI,aef,Nat.succ_mul];lia
theorem tD {h:Hs}{o:List Nat}(g:cy h.1 h.2 o):(aZ h o).length+o.length<=h.2.length:=by
 have:=eJ (n:=h.2.length) (o:=aZ h o++o) (aeY.mpr ⟨pL h o,bu o g,fun a ha b hb e=>by
  subst e;exact (next_iffD.mp ha).2.1 hb⟩) fun i hi=>by
   rcases ad6.mp hi with z | z
   ·exact (next_iffD.mp z).1
   ·exact ik o g i z
 rwa [adI] at this
theorem nU {h:Hs}:∀ n o,cy h.1 h.2 o->o.length+n=h.2.length->(zS h n o).length<=xI n
 | 0,_,_,_=>adL _
 | n+1,o,g,l=>by
  show (_::_:List _).length<=1+(n+1) * xI n;have h1:=vF (l:=aZ h o) (b:=xI n) (f:=fun i=>zS h n (o++[i])) fun i hi=>nU n _ (aI g hi) (by rw [adI,ad8];lia);have h2:=tD g;have h3:(aZ h o).length * xI n<=(n+1) * xI n:=Nat.mul_le_mul_right _ (by lia);rw [aef];lia
theorem wu:∀ {a b:Nat},a<=b->xI a<=xI b:=fun {a b} h=>by
 induction h with
 | refl=>exact adL _
 | step h ih =>
  rename_i m;have:xI m<=(m+1) * xI m:=Nat.le_mul_of_pos_left _ (Nat.succ_pos _);show _<=1+_;lia
theorem qh {h:Hs}(l:h.2.length<=6):(Every h []).length<=1957:=by
 have:=nU (h:=h) h.2.length [] (bX _ _) (by simp);have:=wu l;unfold Every;rw [ahd,Nat.sub_zero];have e:xI 6=1957:=by decide
 lia
end K7
namespace L2
open PySem PySem.Spec PyProof.Rows
theorem qL (K:PySem.W.Frag):kitOne K (.type "str") (.type "list")=some false:=by
 first
  | rfl
  | (with_unfolding_all rfl)
theorem rD (K:PySem.W.Frag):kitOne K (.type "str") (.type "tuple")=some false:=by
 first
  | rfl
  | (with_unfolding_all rfl)
theorem qR (K:PySem.W.Frag):kitOne K (.type "tuple") (.type "list")=some false:=by
 first
  | rfl
  | (with_unfolding_all rfl)
end L2
namespace K7
open PySem L2 PyProof.Rows
def cD (r:Rm):PyData:=.tuple [.list (r.1.map PyData.str),.list (r.2.map PyData.str)]
theorem nK {H:Hp}:∀ {vs:List V} {rs:List Rm},RoomsAt H vs rs->SeesAll H vs (rs.map cD)
 | [],[],_=>.nil
 | [],_::_,h=>absurd h.1 (by simp)
 | _::_,[],h=>absurd h.1 (by simp)
 | v::vs,r::rs,h=>by
  obtain⟨t,a,b,rfl,h1,h2,h3⟩:=h.2 0 v r rfl rfl;refine .cons (.tup h1 (.cons (.lst h2 (SeesAll.strs _)) (.cons (.lst h3 (SeesAll.strs _)) .nil))) (nK ⟨by simpa using h.1,fun i v' r' e1 e2=>h.2 (i+1) v' r' (by simpa using e1) (by simpa using e2)⟩)
theorem qC:∀ {rs:List Rm},(∀ r∈rs,(∀ k∈r.1,dW k)/\∀ k∈r.2,dW k)->PyData.canLayAll0 (rs.map cD)=true
 | [],_=>rfl
 | r::rs,h=>by
  obtain⟨h1,h2⟩:=h r adV;have e1:=iw h1;have e2:=iw h2;have e3:=qC fun q hq=>h q (adN _ hq);rw [adS];simp only [PyData.canLayAll0,PyData.canLay0,cD,e1,e2,e3,ah4]
def bx (h:Hs):PyData:=.tuple [.list (h.1.map PyData.str),.list (h.2.map cD)]
theorem j8 {H:Hp}{v:V}{h:Hs}(x:HouseAt H v h):Sees H v (bx h):=by
 obtain⟨t,a,r,vs,rfl,h1,h2,h3,h4⟩:=x;exact .tup h1 (.cons (.lst h2 (SeesAll.strs _)) (.cons (.lst h3 (nK h4)) .nil))
theorem pS {h:Hs}(ok:cB h):(bx h).canLay0=true:=by
 have e1:=iw ok.kk;have e2:=qC (rs:=h.2) fun r hr=>⟨(ok.rs r hr).lk,(ok.rs r hr).kk⟩;simp only [bx,PyData.canLay0,PyData.canLayAll0,e1,e2,ah4]
theorem qu:∀ rs:List Rm,PyData.eqvAll (rs.map cD) (rs.map cD)=true
 | []=>rfl
 | r::rs=>by
  rw [adS];simp only [PyData.eqvAll,cD,PyData.eqv,kX,afF];exact qu rs
theorem wo (h:Hs):PyData.eqv (bx h) (bx h)=true:=by
 simp only [bx,PyData.eqv,PyData.eqvAll,kX,qu,ah4]
theorem lK:∀ rs:List Rm,PyData.depthAll (rs.map cD)<=2
 | []=>ad7 _
 | r::rs=>by
  rw [adS];simp only [PyData.depthAll,cD,PyData.depth,ig];exact Nat.max_le.mpr ⟨by decide,lK rs⟩
theorem qZ (h:Hs):(bx h).depth<=4:=by
 have:=lK h.2;simp only [bx,PyData.depth,PyData.depthAll,ig];lia
inductive Cpy:Nat->PyData->Prop
 | str (n:Nat) (x:Str):Cpy n (.str x)
 | lst {n:Nat} {ds:List PyData}:ds.length<=1000000->(∀ d∈ds,Cpy n d)->Cpy (n+1) (.list ds)
 | tup {n:Nat} {ds:List PyData}:ds.length<=1000000->(∀ d∈ds,Cpy n d)->Cpy (n+1) (.tuple ds)
theorem Cpy.strs {ks:List Str}(h:ks.length<=1000000)(n:Nat):Cpy (n+1) (.list (ks.map PyData.str)):=.lst (by rw [adG];exact h) fun d hd=>by
 obtain⟨k,_,rfl⟩:=ad5.mp hd;exact .str _ _
theorem Cpy.room {r:Rm}(h1:r.1.length<=1000000)(h2:r.2.length<=1000000):Cpy 2 (cD r):=.tup (by show 2<=1000000;decide) fun d hd=>by
 rcases adO.mp hd with rfl | hd
 ·exact .strs h1 0
 ·rw [adT.mp hd];exact .strs h2 0
theorem Cpy.house {h:Hs}(h1:h.1.length<=1000000)(h2:h.2.length<=1000000)(hr:∀ r∈h.2,r.1.length<=1000000/\r.2.length<=1000000):Cpy 4 (bx h):=.tup (by show 2<=1000000;decide) fun d hd=>by
 rcases adO.mp hd with rfl | hd
 ·exact .strs h1 2
 ·rw [adT.mp hd];refine .lst (by rw [adG];exact h2) fun d hd=>?_;obtain⟨r,hr',rfl⟩:=ad5.mp hd;exact .room (hr r hr').1 (hr r hr').2
theorem jo {H:Hp}:∀ {vs:List V} {ks:List Str},SeesAll H vs (ks.map PyData.str)->vs=ks.map V.str
 | [],[],_=>rfl
 | v::vs,k::ks,s=>by
  cases s with
  | cons a b =>
   cases a;rw [jo b]
   rfl
 | [],_::_,s=>by cases s
 | _::_,[],s=>by cases s
theorem xj {H:Hp}{v:V}{r:Rm}(s:Sees H v (cD r)):RoomAt H v r:=by
 unfold cD at s;cases s with
 | tup e a =>
  cases a with
  | cons x b =>
   cases b with
   | cons y c =>
    cases c;cases x with
    | lst e1 s1 =>
     cases y with
     | lst e2 s2 =>
      exact⟨_,_,_,rfl,e,by rw [e1,jo s1],by rw [e2,jo s2]⟩
theorem ou {H:Hp}:∀ {vs:List V} {rs:List Rm},SeesAll H vs (rs.map cD)->RoomsAt H vs rs
 | [],[],_=>⟨rfl,fun i v r e=>nomatch e⟩
 | v::vs,r::rs,s=>by
  cases s with
  | cons a b =>
   have ih:=ou b;refine⟨by rw [aef,aef,ih.1],fun i v' r' e1 e2=>?_⟩;cases i with
   | zero=>cases e1;cases e2;exact xj a
   | succ i=>exact ih.2 i v' r' e1 e2
 | [],_::_,s=>by cases s
 | _::_,[],s=>by cases s
theorem vf {H:Hp}{v:V}{h:Hs}(s:Sees H v (bx h)):HouseAt H v h:=by
 unfold bx at s;cases s with
 | tup e a =>
  cases a with
  | cons x b =>
   cases b with
   | cons y c =>
    cases c;cases x with
    | lst e1 s1 =>
     cases y with
     | lst e2 s2 =>
      exact⟨_,_,_,_,rfl,e,by rw [e1,jo s1],e2,ou s2⟩
theorem Sees.same {H H':Hp}(st:Same H H'):∀ {d:PyData} {v:V},Sees H v d->Sees H' v d:=fun {d v} s=>by
 refine Sees.rec (motive_1:=fun v d _=>Sees H' v d) (motive_2:=fun vs ds _=>SeesAll H' vs ds) .non (fun b=>.bl b) (fun i=>.int i) (fun x=>.str x) (fun e _ ih=>.lst (st _ _ e) ih) (fun e _ ih=>.tup (st _ _ e) ih) .nil (fun _ _ a b=>.cons a b) s
theorem SeesAll.of {H:Hp}:∀ {vs:List V} {ds:List PyData},vs.length=ds.length->(∀ (i:Nat) v d,vs[i]? = some v->ds[i]? = some d->Sees H v d)->SeesAll H vs ds
 | [],[],_,_=>.nil
 | v::vs,d::ds,l,h=>.cons (h 0 v d rfl rfl) (SeesAll.of (by simpa using l) fun i v' d' e1 e2=>h (i+1) v' d' e1 e2)
 | [],_::_,l,_=>by simp at l
 | _::_,[],l,_=>by simp at l
theorem SeesAll.get {H:Hp}:∀ {vs:List V} {ds:List PyData},SeesAll H vs ds->vs.length=ds.length/\∀ (i:Nat) v d,vs[i]? = some v->ds[i]? = some d->Sees H v d
 | [],[],_=>⟨rfl,fun i v d e=>nomatch e⟩
 | v::vs,d::ds,s=>by
  cases s with
  | cons a b =>
   have ih:=SeesAll.get b;refine⟨by rw [aef,aef,ih.1],fun i v' d' e1 e2=>?_⟩;cases i with
   | zero=>cases e1;cases e2;exact a
   | succ i=>exact ih.2 i v' d' e1 e2
 | [],_::_,s=>by cases s
 | _::_,[],s=>by cases s
inductive CqI (D:Addr)(H1:Hp)(ds:List PyData)(i:Nat)(ys:List V)(H:Hp):Prop
 | mk:ys.length=i->H D=some (.lst ys)->Same H1 H->(∀ (j:Nat) y d,ys[j]? = some y->ds[j]? = some d->Sees (cQ D (mW H1 H)) y d)->CqI D H1 ds i ys H
theorem ya {nl:Nat}{ix:List Nat}{te:TE}{σ:L2.St}{H1 H:Hp}{D:Addr}{ds:List PyData}{i n:Nat}{ys:List V}{x:V}{d:PyData}(nD:H1 D=none)(hi:i < n)(hn:n<=1000000)(ed:ds[i]? = some d)(c:CqI D H1 ds i ys H)(hc:∀ x,((cz nl ix σ).set 0 (some x)).drop nl=ix.map fun j=>(σ[j]?).join)
 (ht:∀ C:VK,(∀ y H',Same H H'->Sees (mW H H') y d->C y H')->te ((cz nl ix σ).set 0 (some x)) H C):cE nl ix (cw 0) tZ te σ D ys H x fun ys' H'=>Nx n i (CqI D H1 ds (i+1) ys' H'):=by
 obtain⟨yl,hD,s,al⟩:=c;have lim:1000000 < sizeLine:=by decide
 refine fh (hc x) (ht _ fun y H' s' sy=>⟨s' _ _ hD,by lia,nx hi ⟨by rw [adI,yl];rfl,af,fun b u e=>?_,fun j z d' e1 e2=>?_⟩⟩)
 ·rw [aj (aq e nD)];exact s' _ _ (s b u e)
 ·have to:∀ {G:Hp} {z:V} {d:PyData},Same G (cQ D (mW H1 (upd H' D (.lst (ys++[y])))))->Sees G z d->Sees (cQ D (mW H1 (upd H' D (.lst (ys++[y]))))) z d:=fun st q=>Sees.same st q;by_cases hj:j < ys.length
  ·rw [ad0 hj] at e1;refine to (fun b u e=>?_) (al j z d' e1 e2);unfold cQ at e ⊢;split at e
   ·cases e
   ·rename_i nb;rw [if_neg nb];unfold mW at e ⊢;split at e
    ·cases e
    ·rename_i n0;rw [aj nb];exact s' _ _ e
  ·have:=(adF.mp e1).1;rw [adI,ad8] at this;have ej:j=i:=by lia
   subst ej;rw [ad1 (by lia),yl,af9] at e1;cases e1;rw [ed] at e2;cases e2;refine to (fun b u e=>?_) sy;unfold mW at e;split at e
   ·cases e
   ·rename_i n0;have nb:b≠D:=fun z=>by subst z;rw [hD] at n0;cases n0
    unfold cQ;rw [if_neg nb];unfold mW;rw [s.free n0];show upd H' D _ b=_;rw [aj nb];exact e
theorem zM {H1:Hp}{D:Addr}{ds:List PyData}(nD:H1 D=none):CqI D H1 ds 0 [] (upd H1 D (.lst [])):=⟨rfl,af,fun b u e=>by rw [aj (aq e nD)];exact e,fun j y d e=>nomatch e⟩
theorem zZ {K:PySem.W.Frag}{nl:Nat}{ix:List Nat}{te:TE}{σ:L2.St}{H1:Hp}{D a:Addr}{Q:VK}{xs:List V}{ds:List PyData}(ha:H1 a=some (.lst xs))(sa:SeesAll H1 xs ds)(nD:H1 D=none)(hl:xs.length<=1000000)(hc:∀ x,((cz nl ix σ).set 0 (some x)).drop nl=ix.map fun j=>(σ[j]?).join)
 (ht:∀ (H:Hp) (x:V) (d:PyData) (C:VK),d∈ds->Sees H x d->(∀ y H',Same H H'->Sees (mW H H') y d->C y H')->te ((cz nl ix σ).set 0 (some x)) H C)
 (hd:∀ (H:Hp) (ys:List V),Same H1 H->H D=some (.lst ys)->ys.length=xs.length->SeesAll (cQ D (mW H1 H)) ys ds->Q (.ref D) H):gQ nl ix (cw 0) tZ te σ (Itl K a) H1 D Q:=by
 obtain⟨l,at_⟩:=SeesAll.get sa;refine di (xs:=xs) (CqI D H1 ds) (zM nD) (fun i ys H ⟨_,h,_,_⟩=>h) (fun i ys H ⟨_,_,s,_⟩=>aAA (s a _ ha)) (fun i ys H x hx c=>?_) (fun ys H ⟨yl,h,s,al⟩=>hd H ys s h yl (SeesAll.of (by lia) al));have hi:=(adF.mp hx).1;have ed:ds[i]? = some (ds[i]'(by lia)):=adD _;have s:Same H1 H:=by obtain⟨_,_,s,_⟩:=c;exact s
 exact ya nD hi hl ed c hc fun C q=>ht H x _ C (adR ed) (Sees.same s (at_ i x _ hx ed)) q
theorem acf {K:PySem.W.Frag}{nl:Nat}{ix:List Nat}{te:TE}{σ:L2.St}{H1:Hp}{D a:Addr}{Q:VK}{xs:List V}{ds:List PyData}(ha:H1 a=some (.tup xs))(sa:SeesAll H1 xs ds)(nD:H1 D=none)(hl:xs.length<=1000000)(hc:∀ x,((cz nl ix σ).set 0 (some x)).drop nl=ix.map fun j=>(σ[j]?).join)
 (ht:∀ (H:Hp) (x:V) (d:PyData) (C:VK),d∈ds->Sees H x d->(∀ y H',Same H H'->Sees (mW H H') y d->C y H')->te ((cz nl ix σ).set 0 (some x)) H C)
 (hd:∀ (H:Hp) (ys:List V),Same H1 H->H D=some (.lst ys)->ys.length=xs.length->SeesAll (cQ D (mW H1 H)) ys ds->Q (.ref D) H):gQ nl ix (cw 0) tZ te σ (Itt K a) H1 D Q:=by
 obtain⟨l,at_⟩:=SeesAll.get sa;refine yJ (xs:=xs) (CqI D H1 ds) (zM nD) (fun i ys H ⟨_,h,_,_⟩=>h) (fun i ys H ⟨_,_,s,_⟩=>aAB (s a _ ha)) (fun i ys H x hx c=>?_) (fun ys H ⟨yl,h,s,al⟩=>hd H ys s h yl (SeesAll.of (by lia) al));have hi:=(adF.mp hx).1;have ed:ds[i]? = some (ds[i]'(by lia)):=adD _;have s:Same H1 H:=by obtain⟨_,_,s,_⟩:=c;exact s
 exact ya nD hi hl ed c hc fun C q=>ht H x _ C (adR ed) (Sees.same s (at_ i x _ hx ed)) q
theorem ko {H H':Hp}(st:Same H H'){vs:List V}{ds:List PyData}(s:SeesAll H vs ds):SeesAll H' vs ds:=by
 obtain⟨l,a⟩:=SeesAll.get s;exact SeesAll.of l fun i v d e1 e2=>Sees.same st (a i v d e1 e2)
theorem iF:∀ {l:List Nat} {j y:Nat},l.Pairwise (· < ·)->l[j]? = some y->l.filter (fun i=>decide (i < y))=l.take j
 | [],_,_,_,e=>by simp at e
 | a::l,0,y,p,e=>by
  rw [ae6] at p;cases e;rw [aea,if_neg (by simp),List.take_zero,afY];intro b hb;have:=p.1 b hb;simp;lia
 | a::l,j+1,y,p,e=>by
  rw [ae6] at p;rw [aft] at e;rw [aea,if_pos (by simpa using p.1 y (adR e)),iF p.2 e,List.take_succ_cons]
theorem vS {h:Hs}{o:List Nat}{j y:Nat}(e:(aZ h o)[j]? = some y):gY h o y=cY (((aZ h o).take j).map fun i=>Ends h (o++[i])):=by
 unfold gY;rw [iF (vK h o) e]
theorem xU {h:Hs}{o:List Nat}{j y:Nat}(e:(aZ h o)[j]? = some y):cY (((aZ h o).take (j+1)).map fun i=>Ends h (o++[i]))=cY (((aZ h o).take j).map fun i=>Ends h (o++[i]))+Ends h (o++[y]):=by
 rw [aee,e,adW,oZ]
 rfl
theorem qU {h:Hs}{o:List Nat}{j a a':Nat}(lt:o.length < h.2.length)(ha:a < Ends h o)(e:a=cY (((aZ h o).take j).map fun i=>Ends h (o++[i]))+a'):∃ y,(aZ h o)[j]? = some y:=by
 by_cases hj:j < (aZ h o).length
 ·exact⟨_,adD hj⟩
 ·rw [ag6 (by lia),← Ends.step lt] at e;lia
def rY (h:Hs)(x:List Nat):Bool:=decide (x.length=h.2.length)
def aa8 (h:Hs)(x:List Nat):Bool:=decide (aZ h x=[])
def Due (h:Hs):List (List Nat):=(Every h []).filter (rY h)
theorem yy {h:Hs}{o pre l:List Nat}{i:Nat}(e:aZ h o=pre++i::l):gY h o i=cY (pre.map fun j=>Ends h (o++[j])):=by
 have a:=vK h o;rw [e,List.pairwise_append] at a;unfold gY;rw [e,aen,List.filter_eq_self.mpr fun j hj=>adY (a.2.2 j hj i adV),afY.mpr,aew];intro j hj;rcases adO.mp hj with z | z
 ·rw [z];simp
 ·have:=(ae6.mp a.2.1).1 j z;simp;lia
theorem qA {h:Hs}:∀ n o,cy h.1 h.2 o->o.length+n=h.2.length->∃ es:List (List Nat),(zS h n o).filter (rY h)=es.map (o++·)/\es.map (rkF h o)=List.range (Ends h o)
 | 0,o,g,e=>by
  have e:o.length=h.2.length:=e;refine⟨[[]],?_,by rw [Ends.all e];rfl⟩;show List.filter _ [o]=[o++[]];rw [aew,aea,if_pos (by unfold rY;rw [adY e]),ago]
 | n+1,o,g,e=>by
  have key:∀ (l pre:List Nat),aZ h o=pre++l->∃ es:List (List Nat),(l.flatMap fun i=>(zS h n (o++[i])).filter (rY h))=es.map (o++·)/\es.map (rkF h o)=(List.range (cY (l.map fun i=>Ends h (o++[i])))).map (cY (pre.map fun i=>Ends h (o++[i])) + ·):=by
   intro l
   induction l with
   | nil=>exact fun pre _=>⟨[],rfl,rfl⟩
   | cons i l ih =>
    intro pre ep;obtain⟨es,e1,e2⟩:=ih (pre++[i]) (by rw [ep,aer];rfl);obtain⟨fs,f1,f2⟩:=qA n (o++[i]) (aI g (show i∈aZ h o by rw [ep];simp)) (by rw [adI,ad8];lia);refine⟨fs.map (i::·)++es,?_,?_⟩
    ·rw [afc,e1,f1,adW,ael];congr 1;refine afe fun x _=>?_;show o++[i]++x=o++i::x;rw [aer];rfl
    ·have e3:(fun x=>cY ((pre++[i]).map fun i=>Ends h (o++[i]))+x)=(fun r=>cY (pre.map fun j=>Ends h (o++[j]))+r) ∘ (fun x=>Ends h (o++[i])+x):=funext fun x=>by
      rw [adW,oZ,agz,bV];show _+(_+0)+x=_+(_+x);lia
     rw [adW,e2,e3,ael,adS,bV,List.range_add,adW,← ael,← f2,ael];congr 1
     ·rw [ael];refine afe fun x _=>?_;show gY h o i+rkF h (o++[i]) x=_;rw [yy ep]
      rfl
     ·rw [ael]
  obtain⟨es,e1,e2⟩:=key (aZ h o) [] rfl;refine⟨es,?_,?_⟩
  ·show List.filter _ (o::_)=_;rw [aea,if_neg (by unfold rY;rw [ad4 (by lia)];exact adM),List.filter_flatMap,← e1]
  ·rw [e2,Ends.step (by lia)];rw [show (fun x=>cY ([].map fun i=>Ends h (o++[i]))+x)=id from funext fun x=>aiu x,af2]
theorem zI (h:Hs):(Due h).map (rkF h [])=List.range (Ends h []):=by
 obtain⟨es,e1,e2⟩:=qA h.2.length [] (bX h.1 h.2) (aiu _);have:Due h=es:=by
  unfold Due Every;rw [show h.2.length - ([]:List Nat).length=h.2.length from rfl,e1];exact af2 es
 rw [this,e2]
theorem vA (h:Hs):(Due h).length=Ends h []:=by
 have:=aeu List.length (zI h)
 rwa [adG,aeB] at this
theorem uh {h:Hs}{k:Nat}{o:List Nat}(e:(Due h)[k]? = some o):rkF h [] o=k:=by
 have:=aeu (·[k]?) (zI h);simp only [adK,e,Option.map] at this;have hk:=(adF.mp this.symm).1;rw [adD hk,List.getElem_range] at this;injection this
theorem due_iff {h:Hs}{o:List Nat}:o∈Due h↔cy h.1 h.2 o/\o.length=h.2.length:=by
 unfold Due;rw [aeA,vE];unfold rY;rw [aeD]
theorem tR {α:Type}{f:Nat->List α}:∀ l:List Nat,(l.flatMap f).length=cY (l.map fun i=>(f i).length)
 | []=>rfl
 | a::l=>by rw [afc,adI,adS,bV,tR l]
theorem pU {h:Hs}:∀ n o,cy h.1 h.2 o->o.length+n=h.2.length->((zS h n o).filter (aa8 h)).length=Stuck h o
 | 0,o,g,e=>by
  have e:o.length=h.2.length:=e;have z:=wC g e;rw [Stuck.end_ z];show (List.filter _ [o]).length=1;rw [aea,if_pos (by unfold aa8;rw [adY z])]
  rfl
 | n+1,o,g,e=>by
  show (List.filter _ (o::_)).length=_;by_cases z:aZ h o=[]
  ·rw [Stuck.end_ z,z,aea,if_pos (by unfold aa8;rw [adY z])]
   rfl
  ·rw [Stuck.step g z,aea,if_neg (by unfold aa8;rw [ad4 z];exact adM),List.filter_flatMap,tR];exact jX fun i hi=>pU n _ (aI g hi) (by rw [adI,ad8];lia)
theorem wJ (h:Hs):((Every h []).filter (aa8 h)).length=Stuck h []:=pU h.2.length [] (bX h.1 h.2) (aiu _)
def rT:Sp:=fun vs H Q _=>∃ n:Int,vs=[.int n]/\∀ H',Same H H'->Q (.bl true) H'
def aaN (cN:Addr):Sp:=fun vs H Q E=>∃ (v:V) (h:Hs) (k:Int),vs=[v,.int k]/\HouseAt H v h/\cB h/\vm h/\h.2.length<=12/\(∀ kn:Nat,k=((kn:Nat):Int)->kn < Ends h []->∀ (l:Addr) (o:List Nat) (H':Hp),Same H H'->H l=none->H' l=some (.lst (o.map fun n=>V.int ((n:Nat):Int)))->cy h.1 h.2 o->o.length=h.2.length->rkF h [] o=kn->Q (.ref l) H')/\(¬ (0<=k/\k < ((Ends h []:Nat):Int))->∀ H',Same H H'->E (.ref cN) none H')
def aaL (cO:Addr):Sp:=fun vs H Q E=>∃ (v:V) (h:Hs) (l:Addr) (o:List Int),vs=[v,.ref l]/\HouseAt H v h/\cB h/\vm h/\h.2.length<=12/\H l=some (.lst (o.map V.int))/\o.length<=1000000/\(∀ on:List Nat,o=on.map (fun n=>((n:Nat):Int))->cy h.1 h.2 on->on.length=h.2.length->∀ H',Same H H'->Q (.int ((rkF h [] on:Nat):Int)) H')/\((∀ on:List Nat,o=on.map (fun n=>((n:Nat):Int))->¬ (cy h.1 h.2 on/\on.length=h.2.length))->∀ H',Same H H'->E (.ref cO) none H')
theorem rN {h:Hs}{es:List (Key×V)}{os:List (List Nat)}(sa:dj h os)(all:∀ o∈os,sV (Ends h) es o){o:List Nat}(g:cy h.1 h.2 o):fk es (kB o)=some (.int ((Ends h o:Nat):Int)):=by
 obtain⟨y,hy,ey⟩:=ad5.mp (sa.all _ g);have p:=eA (bu y (sa.gone y hy)) (bu _ g) ey;have:=all y hy;unfold sV at this;rw [show kB o=kB y by unfold kB;rw [ey],this,Ends.perm (sa.gone y hy) g p]
theorem uu {h:Hs}{H:Hp}{kvs:List (Key×V)}{os:List (List Nat)}(dl:DictL (nxV h) H kvs os)(sa:dj h os){o:List Nat}(g:cy h.1 h.2 o):∃ l:Addr,fk kvs (kB o)=some (.ref l)/\H l=some (.lst (nxV h o)):=by
 obtain⟨y,hy,ey⟩:=ad5.mp (sa.all _ g);have p:=eA (bu y (sa.gone y hy)) (bu _ g) ey;obtain⟨j,hj⟩:=aeH hy;obtain⟨l,e1,e2⟩:=dl.get sa.nd hj;refine⟨l,by rw [show kB o=kB y by unfold kB;rw [ey]];exact e1,?_⟩;rw [e2];unfold nxV;rw [ir (sa.gone y hy) g p]
theorem xr (i:Nat)(ns:List Nat):inV (.int ((i:Nat):Int)) (ns.map fun n=>V.int ((n:Nat):Int))=decide (i∈ns):=by
 unfold inV;rw [aeR,aiv,afw,aeD];constructor
 ·rintro⟨n,hn,e⟩;have e:eqV (.int ((n:Nat):Int)) (.int ((i:Nat):Int))=true:=e;have:((n:Nat):Int)=((i:Nat):Int):=by simpa [eqV] using e
  have:n=i:=by lia
  exact this▸hn
 ·intro h;refine⟨i,h,?_⟩;show eqV (.int ((i:Nat):Int)) (.int ((i:Nat):Int))=true;simp [eqV]
def ack (n:Nat):V->Bool
 | .int m=>decide (m < ((n:Nat):Int))
 | _=>false
abbrev cf (o:List Nat):List V:=o.map fun n=>V.int ((n:Nat):Int)
inductive NoI (v:V)(k:Nat)(S E L:Addr)(h:Hs)(H4:Hp)(o:List Nat)(σ:L2.St)(H':Hp):Prop
 | mk (a:Nat) (x8 x9:Option V):σ=[some v,some (.int ((k:Nat):Int)),some (.ref S),some (.int ((2 ^ h.2.length - 1:Nat):Int)),some (.ref E),some (.ref L),some (.int ((aU o:Nat):Int)),some (.int ((a:Nat):Int)),x8,x9]->H' L=some (.lst (cf o))->cy h.1 h.2 o->k=rkF h [] o+a->a < Ends h o->Same H4 H'->NoI v k S E L h H4 o σ H'
theorem acX {n:Int}{ns:List Nat}(h:∀ m∈ns,n≠((m:Nat):Int)):inV (.int n) (ns.map fun n=>V.int ((n:Nat):Int))=false:=by
 unfold inV;rw [afE];intro z;rw [aiv,afw] at z;obtain⟨m,hm,e⟩:=z;have e:eqV (.int ((m:Nat):Int)) (.int n)=true:=e;have:((m:Nat):Int)=n:=by simpa [eqV] using e
 exact h m hm this.symm
inductive NuI (v:V)(l S E:Addr)(h:Hs)(H4:Hp)(o:List Int)(i:Nat)(σ:L2.St)(H':Hp):Prop
 | mk (x7:Option V) (p:List Nat):o.take i=p.map (fun n=>((n:Nat):Int))->σ=[some v,some (.ref l),some (.ref S),some (.int ((2 ^ h.2.length - 1:Nat):Int)),some (.ref E),some (.int ((aU p:Nat):Int)),some (.int ((rkF h [] p:Nat):Int)),x7]->cy h.1 h.2 p->Same H4 H'->NuI v l S E h H4 o i σ H'
inductive NjI (v:V)(k:Nat)(S E L:Addr)(h:Hs)(H4:Hp)(o:List Nat)(a0:Nat)(j a y:Nat)(σ:L2.St)(H':Hp):Prop
 | mk:σ=[some v,some (.int ((k:Nat):Int)),some (.ref S),some (.int ((2 ^ h.2.length - 1:Nat):Int)),some (.ref E),some (.ref L),some (.int ((aU o:Nat):Int)),some (.int ((a:Nat):Int)),some (.int ((j:Nat):Int)),some (.int ((aU (o++[y]):Nat):Int))]->H' L=some (.lst (cf o))->(aZ h o)[j]? = some y->a0=cY (((aZ h o).take j).map fun i=>Ends h (o++[i]))+a->Same H4 H'->NjI v k S E L h H4 o a0 j a y σ H'
section
variable {P:Program}{w:World}{K:PySem.W.Frag}{mg:Str->Option Value}{base:Heap}
theorem se:aA ["thing"] ["thing"] (ai iP):=scM rfl rfl rfl rfl (by decide +kernel)
theorem yj {f:Addr}{fd:FuncData}(F:Fun K "is_whole" "is_whole" iP f fd)(nB:mg "bool" = none)(mX:mg "int" = none)(av:mg "isinstance" = none):FnOk P w K mg base CX0 1 f fd ["thing"] rT:=by
 refine F.ok se (fun vs H Q E h=>?_) (fun cdv A outer s H vs Q E hr h=>?_)
 ·obtain⟨n,rfl,_⟩:=h
  rfl
 ·obtain⟨n,rfl,k⟩:=h;refine⟨_,(ao (aH (jk (aw aO rfl av (by decide +kernel) (ae (pv 0) (ae (dv (v:=.ty "int") (u:=.type "int") rfl mX (by decide +kernel) rfl) ah))) (qj (abS (aw aO rfl av (by decide +kernel) (ae (pv 0) (ae (dv (v:=.ty "bool") (u:=.type "bool") rfl nB (by decide +kernel) rfl) ah)))))))),?_⟩;refine⟨_,rfl,_,_,_,true,rfl,.int n,de K _,true,rfl,gI ?_⟩;exact⟨_,rfl,_,_,_,false,rfl,.int n,ku K,false,rfl,k _ (Same.refl H)⟩
theorem aK:aA ["house","k","steps","whole","ends","order","opened","ahead","at","behind"] ["house","k"] (ai gK):=scM rfl rfl rfl rfl (by decide +kernel)
theorem abL {f fS fT fE fA fW fI cN:Addr}{bmN:List Value}{fd fdS fdT fdE fdA fdW fdI:FuncData}{tk:Nat}(F:Fun K "nth_order" "nth_order" gK f fd)(br:FnOk P w K mg base CX0 7 fS fdS ["thing","most"] lg)(mS:mg "require_small" = some (.ref fS))(kS:keepIn K (.ref fS)=true)(bS:Binds K fdS ["thing","most"] [.int 12 tk])
 (dz:FnOk P w K mg base CX0 3 fT fdT ["house"] mq)(bw:Cal K mg "steps_of" ["house"] fT fdT)(dP:FnOk P w K mg base CX0 1 fA fdA ["house"] uy)(bz:Cal K mg "set_of_all" ["house"] fA fdA)(gM:FnOk P w K mg base CX0 2 fE fdE ["steps","whole"] tK)(df:Cal K mg "ends_of" ["steps","whole"] fE fdE)
 (bq:FnOk P w K mg base CX0 1 fW fdW ["opened","number"] oy)(aG:Cal K mg "with_room" ["opened","number"] fW fdW)(jJ:FnOk P w K mg base CX0 1 fI fdI ["thing"] rT)(eO:Cal K mg "is_whole" ["thing"] fI fdI)(jH:mg "NoNumber" = some (.ref cN))(x_NoNumber:kA K cN bmN):FnOk P w K mg base (CXr P w) 8 f fd ["house","k"] (aaN cN):=by
 refine F.okR aK (fun vs H Q E h=>?_) (fun cdv A outer s H vs Q E hr h=>?_)
 ·obtain⟨v,h,k,rfl,_⟩:=h
  rfl
 ·have hu:=dO hr;obtain⟨v,h,k,rfl,hh,ok,few,l12,q,q2⟩:=h;refine⟨_,(ag (dy (d9 br hr rfl mS kS bS (dvs:=[.int 12]) (.cons ⟨tk,rfl⟩ .nil) iT (ae (pv 0) ah)))
   (ag (ay (i:=2) aK.nd rfl (.inl rfl) (pcl dz bw (hr.mono (by decide:3<=7)) rfl (ae (pv 0) ah)))
   (ag (ay (i:=3) aK.nd rfl (.inl rfl) (pcl dP bz (hr.mono (by decide:1<=7)) rfl (ae (pv 0) ah)))
   (ag (ay (i:=4) aK.nd rfl (.inl rfl) (pcl gM df (hr.mono (by decide:2<=7)) rfl (ae (pv 2) (ae (pv 3) ah))))
   (ag (dN (PW.pt (lX (fu (fb (pcl jJ eO (hr.mono (by decide:1<=7)) rfl (ae (pv 1) ah)))) (jm (fu (tO xX zj ak (pv 1) (cV hu (pv 4) ak (fun _ _=>rfl)))))))
    (ao (kZ x_NoNumber rfl jH (ae b0 ah))) aS)
   (ag (ay (i:=5) aK.nd rfl (.inl rfl) mh)
   (ag (ay (i:=6) aK.nd rfl (.inl rfl) ak)
   (ag (ay (i:=7) aK.nd rfl (.inl rfl) (pv 1))
   (ag (bc (kQ agM (aJ rR (pv 6) (pv 3) (bo _))
    (ag (ay (i:=8) aK.nd rfl (.inl rfl) ak)
    (ag (ay (i:=9) aK.nd rfl (.inl rfl) (pcl bq aG (hr.mono (by decide:1<=7)) rfl (ae (pv 6) (ae (bW bR (cV hu (pv 2) (pv 6) (fun _ _=>rfl)) (pv 8) (fun _ _=>rfl)) ah))))
    (ag (bc (kQ agM (aJ aaZ (pv 7) (cV hu (pv 4) (pv 9) (fun _ _=>rfl)) (bo _))
     (ag (xt (i:=7) aK.nd rfl (.inl rfl) (cV hu (pv 4) (pv 9) (fun _ _=>rfl)) abD)
     (ag (xt (i:=8) aK.nd rfl (.inl rfl) ak vX)
     (ao (ay (i:=9) aK.nd rfl (.inl rfl) (pcl bq aG (hr.mono (by decide:1<=7)) rfl (ae (pv 6) (ae (bW bR (cV hu (pv 2) (pv 6) (fun _ _=>rfl)) (pv 8) (fun _ _=>rfl)) ah)))))))))
    (ag (dy (pq ad9 aeO aeP dm (pv 5) (ae (bW bR (cV hu (pv 2) (pv 6) (fun _ _=>rfl)) (pv 8) (fun _ _=>rfl)) ah)))
    (ao (ay (i:=6) aK.nd rfl (.inl rfl) (pv 9)))))))))
   (ao (aH (pv 5)))))))))))),?_⟩
  refine⟨_,rfl,v,h,12,rfl,hh,ok,l12,fun H1 s1=>?_⟩;refine⟨_,rfl,v,h,rfl,hh.same s1,ok,few,l12,fun S kvs os H2 s2 nS eS dl sa=>?_⟩;refine⟨_,rfl,v,h,rfl,(hh.same s1).same s2,l12,fun H3 s3=>?_⟩;refine⟨_,rfl,_,rfl,S,kvs,h,os,rfl,l12,s3 _ _ eS,dl.same (gD.trans s3),sa,fun E2 es H4 s4 nE eE all=>?_⟩;have s04:=((s1.trans s2).trans s3).trans s4;have dl4:=dl.same (gD.trans (s3.trans s4));have eS4:=(s3.trans s4) _ _ eS;obtain⟨z0,hz0,kz,pz⟩:=l9 sa;have e0:fk es (.inl 0)=some (.int ((Ends h []:Nat):Int)):=rN sa all (bX _ _);refine⟨_,rfl,_,rfl,fun H5 s5=>?_⟩;refine⟨true,rfl,eP ?_⟩;refine⟨_,rfl,_,_,rfl,rfl,_,rfl,?_⟩;by_cases k0:(0:Int)<=k
  case neg =>
   rw [ad4 k0];exact eP ⟨false,rfl,gI ⟨by decide,q2 (fun z=>k0 z.1) H5 (s04.trans s5)⟩⟩
  rw [adY k0];refine gI ⟨_,rfl,E2,_,rfl,iY (k:=.inl 0) (s5 _ _ eE) e0,_,_,rfl,rfl,_,rfl,?_⟩;by_cases k1:k < ((Ends h []:Nat):Int)
  case neg =>
   rw [ad4 k1];exact gI ⟨by decide,q2 (fun z=>k1 z.2) H5 (s04.trans s5)⟩
  rw [adY k1];refine eP ?_;obtain⟨k,rfl⟩:∃ m:Nat,k=((m:Nat):Int):=⟨k.toNat,by lia⟩;have lt:k < Ends h []:=by lia
  have q:=q k rfl lt;refine⟨ad7 _,fun L nL=>?_⟩;refine⟨_,rfl,?_⟩;have nL4:H4 L=none:=s5.free nL;have nL0:H L=none:=s04.free nL4;have p12:2 ^ h.2.length<=4096:=adZ (afk (by decide) l12) (by decide);have lim:1000000 < sizeLine:=by decide
  refine⟨fun σ H'=>∃ o,o.length=h.2.length/\NoI v k S E2 L h H4 o σ H',?_,?_⟩
  ·rintro σ H6 ⟨o,lo,⟨a,x8,x9,rfl,hL,g,ek,ha,s6⟩⟩;refine⟨_,rfl,q L o H6 (s04.trans s6) nL0 hL g lo ?_⟩;rw [Ends.all lo] at ha;lia
  ·refine⟨fun m σ H'=>∃ o,m=h.2.length - o.length/\NoI v k S E2 L h H4 o σ H',⟨_,[],rfl,.mk k none none rfl af (bX _ _) (by show k=0+k;lia) lt (bT s5 nL4)⟩,?_⟩;rintro m σ H6 ⟨o,rfl,⟨a,x8,x9,rfl,hL,g,ek,ha,s6⟩⟩;refine⟨_,rfl,_,rfl,rfl,_,rfl,?_⟩;by_cases lo:o.length=h.2.length
   ·rw [(eZ g).mpr lo,adY rfl];exact eP ⟨o,lo,a,x8,x9,by rw [(eZ g).mpr lo],hL,g,ek,ha,s6⟩
   ·have nb:V.int ((aU o:Nat):Int)≠V.int ((2 ^ h.2.length - 1:Nat):Int):=fun z=>by
     injection z with z
     exact lo ((eZ g).mp (by lia))
    rw [ad4 nb];have lt2:o.length < h.2.length:=Nat.lt_of_le_of_ne (dF g) lo;obtain⟨y0,hy0⟩:=qU (j:=0) (a':=a) lt2 ha (by show a=0+a;lia);obtain⟨ln,en,hn⟩:=uu dl4 sa g;refine gI ⟨fun σ' H'=>∃ y,y∈aZ h o/\NoI v k S E2 L h H4 (o++[y]) σ' H',fun σ' H' ⟨y,hy,w⟩=>⟨_,?_,o++[y],rfl,w⟩,?_⟩
    ·rw [adI,ad8];lia
    ·refine⟨_,rfl,_,rfl,_,rfl,S,.ref ln,rfl,iY (k:=kB o) (s6 _ _ eS4) en,_,rfl,ln,nxV h o,0,_,rfl,rfl,aAA (s6 _ _ hn),cC (j:=0) (by rw [adK,hy0];rfl),?_⟩;have bd:∀ {y:Nat},y∈aZ h o->y < h.2.length:=fun hy=>(next_iffD.mp hy).1;refine⟨aU o,y0,rfl,by have:=bd (adR hy0);lia,fun H7 s7=>?_⟩;rw [← cS];refine⟨fun σ' H'=>∃ j a' y,a' < Ends h (o++[y])/\NjI v k S E2 L h H4 o a j a' y σ' H',?_,?_⟩
     ·rintro σ' H8 ⟨j,a',y,ha',⟨rfl,hL8,ey,ea,s8⟩⟩;have hy:=adR ey;refine⟨_,rfl,.inl ⟨rfl,_,aAA hL8⟩,_,rfl,_,rfl,S,.ref ln,rfl,iY (k:=kB o) (s8 _ _ eS4) en,_,rfl,ln,nxV h o,_,_,rfl,rfl,aAA (s8 _ _ hn),cC (j:=j) (by rw [adK,ey];rfl),?_⟩;have lo12:=dF g;refine⟨L,_,_,rfl,rfl,hL8,by rw [adG];lia,?_⟩;refine⟨_,rfl,y,hy,.mk a' _ _ rfl ?_ (aI g hy) ?_ ha' (bT s8 nL4)⟩
      ·rw [af,cf,cf,adW]
       rfl
      ·rw [ek,ea,rF,ahm,vS ey];lia
     ·refine⟨fun m σ' H'=>∃ j a' y,m=(aZ h o).length - j/\NjI v k S E2 L h H4 o a j a' y σ' H',⟨_,0,a,y0,rfl,.mk rfl (s7 _ _ hL) hy0 (by show a=0+a;lia) (s6.trans s7)⟩,?_⟩;rintro m σ' H8 ⟨j,a',y,rfl,⟨rfl,hL8,ey,ea,s8⟩⟩;have hy:=adR ey;have ev:=rN sa all (aI g hy);have hjl:j < (aZ h o).length:=(adF.mp ey).1;refine⟨_,rfl,_,rfl,_,rfl,E2,_,rfl,iY (k:=kB (o++[y])) (s8 _ _ eE) ev,_,_,rfl,rfl,_,rfl,?_⟩;by_cases le:Ends h (o++[y])<=a'
      ·rw [adY (by lia:((Ends h (o++[y]):Nat):Int)<=(a':Int))];have e2:a=cY (((aZ h o).take (j+1)).map fun i=>Ends h (o++[i]))+(a' - Ends h (o++[y])):=by
        rw [xU ey];lia
       obtain⟨y2,ey2⟩:=qU lt2 ha e2;refine gI ⟨fun σ'' H''=>NjI v k S E2 L h H4 o a (j+1) (a' - Ends h (o++[y])) y2 σ'' H'',fun σ'' H'' w=>⟨_,?_,j+1,_,y2,rfl,w⟩,?_⟩
       ·lia
       ·refine⟨_,rfl,_,rfl,_,rfl,E2,_,rfl,iY (k:=kB (o++[y])) (s8 _ _ eE) ev,_,_,rfl,rfl,?_⟩;refine⟨_,rfl,_,_,rfl,rfl,?_⟩;refine⟨_,rfl,_,rfl,_,rfl,S,.ref ln,rfl,iY (k:=kB o) (s8 _ _ eS4) en,_,rfl,ln,nxV h o,_,_,rfl,rfl,aAA (s8 _ _ hn),cC (j:=j+1) (by rw [adK,ey2];rfl),?_⟩;refine⟨aU o,y2,rfl,by have:=bd (adR ey2);lia,fun H9 s9=>?_⟩;rw [← cS];refine .mk ?_ (s9 _ _ hL8) ey2 e2 (s8.trans s9);rw [show ((a' - Ends h (o++[y]):Nat):Int)=(a':Int) - ((Ends h (o++[y]):Nat):Int) by lia,show ((j+1:Nat):Int)=(j:Int)+1 by lia]
        rfl
      ·rw [ad4 (by lia:¬ ((Ends h (o++[y]):Nat):Int)<=(a':Int))];exact eP ⟨j,a',y,by lia,.mk rfl hL8 ey ea s8⟩
theorem aE:aA ["house","order","steps","whole","ends","opened","ahead","number"] ["house","order"] (ai cv):=scM rfl rfl rfl rfl (by decide +kernel)
theorem iB:(["other","ends","opened","number"]:List Str).Nodup:=by decide +kernel
theorem abm {f fS fT fE fA fW fI cO:Addr}{fd fdS fdT fdE fdA fdW fdI:FuncData}{tk:Nat}{bmO:List Value}(F:Fun K "number_of_order" "number_of_order" cv f fd)(br:FnOk P w K mg base CX0 7 fS fdS ["thing","most"] lg)(mS:mg "require_small" = some (.ref fS))(kS:keepIn K (.ref fS)=true)(bS:Binds K fdS ["thing","most"] [.int 12 tk])
 (dz:FnOk P w K mg base CX0 3 fT fdT ["house"] mq)(bw:Cal K mg "steps_of" ["house"] fT fdT)(dP:FnOk P w K mg base CX0 1 fA fdA ["house"] uy)(bz:Cal K mg "set_of_all" ["house"] fA fdA)(gM:FnOk P w K mg base CX0 2 fE fdE ["steps","whole"] tK)(df:Cal K mg "ends_of" ["steps","whole"] fE fdE)
 (bq:FnOk P w K mg base CX0 1 fW fdW ["opened","number"] oy)(aG:Cal K mg "with_room" ["opened","number"] fW fdW)(jJ:FnOk P w K mg base CX0 1 fI fdI ["thing"] rT)(eO:Cal K mg "is_whole" ["thing"] fI fdI)
 (av:mg "isinstance" = none)(bj:mg "list" = none)(oY:mg "sum" = none)(gU:mg "NoOrder" = some (.ref cO))(x_NoOrder:kA K cO bmO):FnOk P w K mg base (CXr P w) 8 f fd ["house","order"] (aaL cO):=by
 refine F.okR aE (fun vs H Q E h=>?_) (fun cdv A outer s H vs Q E hr h=>?_)
 ·obtain⟨v,h,l,o,rfl,_⟩:=h
  rfl
 ·have hu:=dO hr;obtain⟨v,h,l,o,rfl,hh,ok,few,l12,hl,ol,q1,q2⟩:=h;refine⟨_,(ag (dy (d9 br hr rfl mS kS bS (dvs:=[.int 12]) (.cons ⟨tk,rfl⟩ .nil) iT (ae (pv 0) ah)))
   (ag (dN (fu (fb (aw aO rfl av (by decide +kernel) (ae (pv 1) (ae (dv (v:=.ty "list") (u:=.type "list") rfl bj (by decide +kernel) rfl) ah)))))
    (ao (kZ x_NoOrder rfl gU (ae b0 ah))) aS)
   (ag (ay (i:=2) aE.nd rfl (.inl rfl) (pcl dz bw (hr.mono (by decide:3<=7)) rfl (ae (pv 0) ah)))
   (ag (ay (i:=3) aE.nd rfl (.inl rfl) (pcl dP bz (hr.mono (by decide:1<=7)) rfl (ae (pv 0) ah)))
   (ag (ay (i:=4) aE.nd rfl (.inr rfl) (pcl gM df (hr.mono (by decide:2<=7)) rfl (ae (pv 2) (ae (pv 3) ah))))
   (ag (ay (i:=5) aE.nd rfl (.inr rfl) ak)
   (ag (ay (i:=6) aE.nd rfl (.inl rfl) ak)
   (ag (bc (cX agM rfl (aX (pv 1)) (au (i:=7) aE.nd rfl (.inr rfl))
    (ag (dN (PW.pt (lX (fu (fb (pcl jJ eO (hr.mono (by decide:1<=7)) rfl (ae (pv 7) ah)))) (jm (aJ ie (pv 7) (cV hu (pv 2) (pv 5) (fun _ _=>rfl)) rfl))))
     (ao (kZ x_NoOrder rfl gU (ae b0 ah))) aS)
    (ag (xt (i:=6) aE.nd rfl (.inl rfl) (aw (mj rfl) rfl oY (by decide +kernel) (ae (kI (tg:=.Name "other" _) (outer:=ai (cv)) (N:=["house","order","steps","whole","ends","opened","ahead","number"]) (N':=["other","ends","opened","number"]) (nl:=1) (ix:=[4,5,7]) rfl rfl rfl (aX (cV hu (pv 2) (pv 5) (fun _ _=>rfl)))
    (fun _ _ _ _=>(au (i:=0) iB rfl (.inl rfl) (.inr rfl))) (fun _ _ _ _=>(hE (aJ zj (pv 0) (pv 3) (bo _))))
    (fun _ _ _ _=>(cV (by exact hu) (pv 1) (pcl bq aG (hr.mono (by decide:1<=7)) rfl (ae (pv 2) (ae (pv 0) ah))) (fun _ _=>rfl)))) ah)) vX)
    (ao (ay (i:=5) aE.nd rfl (.inr rfl) (pcl bq aG (hr.mono (by decide:1<=7)) rfl (ae (pv 5) (ae (pv 7) ah)))))))))
   (ag (dN (aJ rR (pv 5) (pv 3) (bo _))
    (ao (kZ x_NoOrder rfl gU (ae b0 ah))) aS)
   (ao (aH (pv 6)))))))))))),?_⟩
  refine⟨_,rfl,v,h,12,rfl,hh,ok,l12,fun H1 s1=>?_⟩;refine⟨_,rfl,_,_,_,true,rfl,.lst (s1 _ _ hl),de K _,true,rfl,eP ?_⟩;refine⟨_,rfl,v,h,rfl,hh.same s1,ok,few,l12,fun S kvs os H2 s2 nS eS dl sa=>?_⟩;refine⟨_,rfl,v,h,rfl,(hh.same s1).same s2,l12,fun H3 s3=>?_⟩;refine⟨_,rfl,_,rfl,S,kvs,h,os,rfl,l12,s3 _ _ eS,dl.same (gD.trans s3),sa,fun E2 es H4 s4 nE eE all=>?_⟩;have s04:=((s1.trans s2).trans s3).trans s4;have dl4:=dl.same (gD.trans (s3.trans s4));have eS4:=(s3.trans s4) _ _ eS;have hl4:=s04 _ _ hl;refine⟨fun σ H'=>NuI v l S E2 h H4 o o.length σ H',?_,?_⟩
  ·rintro σ H6 ⟨x7,p,ep,rfl,g,s6⟩;rw [aem] at ep;refine⟨_,rfl,_,rfl,rfl,_,rfl,?_⟩;by_cases lo:p.length=h.2.length
   ·rw [(eZ g).mpr lo,adY rfl];exact eP ⟨_,rfl,q1 p ep g lo H6 (s04.trans s6)⟩
   ·have nb:V.int ((aU p:Nat):Int)≠V.int ((2 ^ h.2.length - 1:Nat):Int):=fun z=>by
     injection z with z
     exact lo ((eZ g).mp (by lia))
    rw [ad4 nb];exact gI ⟨by decide,q2 (fun on eo z=>lo (by rw [qc (ep.symm.trans eo)];exact z.2)) H6 (s04.trans s6)⟩
  ·refine⟨_,rfl,l,rfl,⟨_,aAA hl4⟩,?_⟩;refine dJ (xs:=o.map V.int) (fun i σ H'=>NuI v l S E2 h H4 o i σ H') (.mk none [] rfl rfl (bX _ _) (Same.refl H4)) (fun i σ H' _ ⟨_,_,_,_,_,s⟩=>aAA (s _ _ hl4)) ?_ (fun σ H' z=>by rw [adG] at z;exact z);rintro i x σ H6 hx ⟨x7,p,ep,rfl,g,s6⟩;obtain⟨n,en,ex⟩:∃ n,o[i]? = some n/\x=.int n:=by
    rw [adK] at hx;cases hq:o[i]? with
    | none=>rw [hq] at hx;cases hx
    | some n=>rw [hq] at hx;cases hx;exact⟨n,rfl,rfl⟩
   subst ex;have tk:o.take (i+1)=o.take i++[n]:=by rw [aee,en];rfl
   obtain⟨ln,el,hn⟩:=uu dl4 sa g;refine⟨_,rfl,_,rfl,fun H7 s7=>⟨true,rfl,eP ?_⟩⟩;have s67:=s6.trans s7;refine⟨_,rfl,_,rfl,_,rfl,S,.ref ln,rfl,iY (k:=kB p) (s67 _ _ eS4) el,ln,nxV h p,rfl,.inl (aAA (s67 _ _ hn)),rfl,?_,_,rfl,?_⟩
   ·rw [af6,aes];exact fun _ _=>rfl
   by_cases hin:∃ m∈aZ h p,n=((m:Nat):Int)
   ·obtain⟨n,hin,rfl⟩:=hin;rw [xr,adY hin];refine eP ?_;refine⟨_,rfl,?_⟩;dsimp only [tCB,iC,rZ,cw];refine aQ _ _ _ _ _ _ _ _ _ ?_;refine⟨_,rfl,_,rfl,S,.ref ln,rfl,iY (k:=kB p) (s67 _ _ eS4) el,ln,rfl,⟨_,aAA (s67 _ _ hn)⟩,fun D nD=>?_⟩;have lx:(nxV h p).length<=1000000:=by
     rw [adG];have:=eJ (pL h p) fun i hi=>(next_iffD.mp hi).1;lia
    refine jw (F:=acQ h p) (pb:=ack n) (s67 _ _ hn) nD lx (fun x=>rfl) (fun G x R hx sG r=>?_) (fun G x R hx _ sG r=>?_) (fun G sG hD=>?_)
    ·obtain⟨m,hm,rfl⟩:=ad5.mp hx;refine⟨_,rfl,_,rfl,_,_,rfl,rfl,_,rfl,?_⟩;have:=r G (Same.refl G);rw [show decide (((m:Nat):Int) < ((n:Nat):Int))=ack n (.int ((m:Nat):Int)) from rfl];exact this
    ·obtain⟨m,hm,rfl⟩:=ad5.mp hx;have sm:=s67.trans sG;refine⟨_,rfl,_,rfl,_,rfl,aU p,m,rfl,by have:=(next_iffD.mp hm).1;lia,fun G' s'=>?_⟩;have ev:=rN sa all (aI g hm);unfold kB at ev;rw [cS] at ev;exact⟨E2,_,rfl,iY (k:=.inl ((aU p ||| 2 ^ m:Nat):Int)) (s' _ _ (sm _ _ eE)) ev,r G' s'⟩
    ·have fe:((nxV h p).filter (ack n)).map (acQ h p)=(((aZ h p).filter fun j=>decide (j < n)).map fun i=>((Ends h (p++[i]):Nat):Int)).map V.int:=by
      unfold nxV;rw [ahn,ael,ael];rw [af4 fun j _=>show (ack n ∘ fun i=>V.int ((i:Nat):Int)) j=decide (j < n) from aeV.mpr (by lia)]
      rfl
     refine⟨D,_,rfl,aAA (by rw [hD,fe]),?_⟩;rw [kT fun i=>Ends h (p++[i])];refine⟨_,_,rfl,rfl,?_⟩;have sG7:=s67.trans sG;refine⟨_,rfl,_,rfl,aU p,n,rfl,by have:=(next_iffD.mp hin).1;lia,fun G' s'=>?_⟩;rw [← cS];refine .mk (some (.int ((n:Nat):Int))) (p++[n]) (by rw [tk,ep,adW];rfl) ?_ (aI g hin) (sG7.trans s');rw [rF,ahm]
     rfl
   ·rw [acX fun m hm e=>hin ⟨m,hm,e⟩];refine gI ⟨by decide,q2 (fun on eo z=>hin ?_) H7 (s04.trans s67)⟩;rw [eo,adK] at en;obtain⟨m,em,rfl⟩:=afz.mp en;have:=f7 z.1 (i+1);rw [aee,em] at this;have e2:p=on.take i:=qc (by show p.map _=_;rw [← ep,eo,← List.map_take]);rw [e2];exact⟨m,(cF this).2,rfl⟩
def rp:Sp:=fun vs H Q _=>∃ (v:V) (l:Addr) (h:Hs) (o:List Nat),vs=[v,.ref l]/\HouseAt H v h/\cB h/\H l=some (.lst (cf o))/\cy h.1 h.2 o/\h.2.length<=12/\∀ D H',Same H H'->H D=none->H' D=some (.lst (cf (aZ h o)))->Q (.ref D) H'
theorem ur {H:Hp}{us:List V}{rs:List Rm}{i:Nat}(hR:RoomsAt H us rs)(hi:i < rs.length):∃ tt aa bb:Addr,us[i]? = some (.ref tt)/\H tt=some (.tup [.ref aa,.ref bb])/\H aa=some (.lst (rs[i].1.map V.str))/\H bb=some (.lst (rs[i].2.map V.str)):=by
 have hu:i < us.length:=by have:=hR.1;lia
 obtain⟨t,a,b,e,h1,h2,h3⟩:=hR.2 i us[i] rs[i] (adD hu) (adD hi);exact⟨t,a,b,by rw [adD hu,e],h1,h2,h3⟩
def aaJ (hand locks:List Str):V->Bool
 | .str x=>decide (hand.count x < locks.count x)
 | _=>false
theorem xK (hand locks:List Str):(((locks.map V.str).filter (aaJ hand locks)).map id)=(locks.filter fun x=>decide (hand.count x < locks.count x)).map V.str:=by
 rw [af2,ahn]
 rfl
theorem yb (hand locks:List Str):(locks.filter fun x=>decide (hand.count x < locks.count x)).isEmpty=jV hand locks:=by
 unfold jV;rw [aeR,List.isEmpty_iff,afY,aes];constructor
 ·intro h x hx;have:=h x hx;simp at this;simpa using this
 ·intro h x hx;have:=h x hx;simp at this;simpa using this
inductive LnI (v:V)(l:Addr)(h:Hs)(o:List Nat)(H:Hp)(i:Nat)(σ:L2.St)(H':Hp):Prop
 | mk (hd:Addr) (x3 x4:Option V):σ=[some v,some (.ref l),some (.ref hd),x3,x4,none,none]->H' hd=some (.lst ((aV h.1 h.2 (o.take i)).map V.str))->H hd=none->Same H H'->LnI v l h o H i σ H'
inductive LoI (v:V)(l hd:Addr)(h:Hs)(o:List Nat)(H:Hp)(i n:Nat)(locks:List Str)(j:Nat)(σ:L2.St)(H':Hp):Prop
 | mk (x4:Option V):σ=[some v,some (.ref l),some (.ref hd),some (.int ((n:Nat):Int)),x4,none,none]->H' hd=some (.lst (((locks.take j).foldl List.erase (aV h.1 h.2 (o.take i))).map V.str))->Same H H'->LoI v l hd h o H i n locks j σ H'
inductive LfI (v:V)(l hd D:Addr)(h:Hs)(o:List Nat)(hand:List Str)(H:Hp)(i:Nat)(σ:L2.St)(H':Hp):Prop
 | mk (x3 x4 x6:Option V):σ=[some v,some (.ref l),some (.ref hd),x3,x4,some (.ref D),x6]->H' hd=some (.lst (hand.map V.str))->H' D=some (.lst (cf ((List.range i).filter fun k=>!decide (k∈o) && jV hand ((h.2[k]?).getD ([],[])).1)))->H D=none->Same H H'->LfI v l hd D h o hand H i σ H'
theorem bY:aA ["house","order","hand","k","kind","found","lacks"] ["house","order"] (ai fm):=scM rfl rfl rfl rfl (by decide +kernel)
theorem mQ:(["kind","hand","k","house"]:List Str).Nodup:=by decide +kernel
theorem yZ {f:Addr}{fd:FuncData}(F:Fun K "_law_next" "_law_next" fm f fd)(cI:mg "len" = none)(bj:mg "list" = none)(bU:mg "range" = none):FnOk P w K mg base CX0 1 f fd ["house","order"] rp:=by
 refine F.ok bY (fun vs H Q E h=>?_) (fun cdv A outer s H vs Q E hr h=>?_)
 ·obtain⟨v,l,h,o,rfl,_⟩:=h
  rfl
 ·have hu:=dO hr;obtain⟨v,l,h,o,rfl,hh,ok,hl,g,l12,q⟩:=h;refine⟨_,(ag (ay (i:=2) bY.nd rfl (.inr rfl) (dU fv rfl bj (by decide +kernel) (ae (bW eY (pv 0) ak (fun _ _=>rfl)) ah)))
   (ag (bc (cX aeh rfl (aX (pv 1)) (au (i:=3) bY.nd rfl (.inr rfl))
    (ag (bc (cX aeh rfl (aX (bW eY (bW bR (bW eY (pv 0) ak (fun _ _=>rfl)) (pv 3) (fun _ _=>rfl)) ak (fun _ _=>rfl))) (au (i:=4) bY.nd rfl (.inl rfl))
     (ao (dy (pq ad9 PySem.F.slot_list_remove PySem.F.type_list_remove xy (pv 2) (ae (pv 4) ah))))))
    (ao (ay (i:=2) bY.nd rfl (.inr rfl) (aP eX (pv 2) (bW eY (bW bR (bW eY (pv 0) ak (fun _ _=>rfl)) (pv 3) (fun _ _=>rfl)) ak (fun _ _=>rfl))))))))
   (ag (ay (i:=5) bY.nd rfl (.inl rfl) mh)
   (ag (bc (cX aeh rfl (eQ rfl bU (ae (aw aB rfl cI aep (ae (bW eY (pv 0) ak (fun _ _=>rfl)) ah)) ah)) (au (i:=3) bY.nd rfl (.inr rfl))
    (ag (rP (i:=6) (tg:=.Name "kind" _) (outer:=ai (fm)) (N:=["house","order","hand","k","kind","found","lacks"]) (N':=["kind","hand","k","house"]) (nl:=1) (ix:=[2,3,0]) bY.nd rfl (.inl rfl) rfl rfl rfl (aX (bW eY (bW bR (bW eY (pv 0) ak (fun _ _=>rfl)) (pv 3) (fun _ _=>rfl)) ak (fun _ _=>rfl)))
    (fun _ _ _ _=>(au (i:=0) mQ rfl (.inl rfl) (.inr rfl))) (fun _ _ _ _=>(hE (aJ zj (nj (K:=K) rfl ad9 aeS aeT iu (pv 1) (ae (pv 0) ah)) (nj (K:=K) rfl ad9 aeS aeT iu (bW (sU (K:=K) rfl) (bW (pE (K:=K) rfl) (bW (sU (K:=K) rfl) (pv 3) ak (fun _ _=>rfl)) (pv 2) (fun _ _=>rfl)) ak (fun _ _=>rfl)) (ae (pv 0) ah)) (bo _))))
    (fun _ _ _ _=>(pv 0)))
    (ao (bc (dN (PW.pt (zC (aJ ie (pv 3) (pv 1) rfl) (v7 (aJ vU (pv 6) mh (bo _)))))
     (ao (dy (pq ad9 aeO aeP dm (pv 5) (ae (pv 3) ah)))) aS))))))
   (ao (aH (pv 5))))))),?_⟩
  obtain⟨t,a,r,us,rfl,ht,ha,hr',hR⟩:=hh;have hol:o.length<=12:=adZ (dF g) l12;have lim:1000000 < sizeLine:=by decide
  refine⟨_,rfl,t,_,0,.ref a,rfl,rfl,aAB ht,rfl,a,_,rfl,.inl (aAA ha),fun hd0 nh0=>?_⟩;have s0:Same H (upd H hd0 (.lst (h.1.map V.str))):=ar nh0;refine⟨fun σ H'=>LnI (.ref t) l h o H o.length σ H',?_,?_⟩
  ·rintro σ H1 ⟨hd,x3,x4,rfl,e1,n1,s1⟩;rw [aem] at e1;refine⟨ad7 _,fun D nD=>?_⟩;have nD0:H D=none:=s1.free nD;have nhD:hd≠D:=fun z=>by subst z;rw [e1] at nD;cases nD
   refine⟨fun σ H'=>LfI (.ref t) l hd D h o (aV h.1 h.2 o) H h.2.length σ H',?_,?_⟩
   ·rintro σ H2 ⟨x3',x4',x6,rfl,e2,eD,_,s2⟩;exact⟨_,rfl,q D H2 s2 nD0 eD⟩
   ·have s1D:Same H1 (upd H1 D (.lst [])):=ar nD;refine⟨_,rfl,t,_,1,.ref r,rfl,rfl,aAB ((s1.trans s1D) _ _ ht),rfl,r,_,rfl,.inl (aAA ((s1.trans s1D) _ _ hr')),((h.2.length:Nat):Int),by rw [hR.1],by lia,by lia,?_⟩;rw [aek];refine f9 (fun i σ' H'=>LfI (.ref t) l hd D h o (aV h.1 h.2 o) H i σ' H') (.mk x3 x4 none rfl (s1D _ _ e1) af nD0 (s1.trans s1D)) ?_ (fun σ' H' z=>z);rintro i σ H2 hi ⟨x3',x4',x6,rfl,e2,eD,_,s2⟩;obtain⟨tt,aa,bb,eu,q1,q2,q3⟩:=ur hR hi;have lk:=(ok.rs _ (aeo hi)).lk;have gd:(h.2[i]?).getD ([],[])=h.2[i]:=by rw [adD hi];rfl
    have i0:(0:Int)+((i:Nat):Int)=((i:Nat):Int):=by lia
    dsimp only [aa7,yg,cw];refine aQ _ _ _ _ _ _ _ _ _ ?_;refine⟨_,rfl,t,_,1,.ref r,rfl,rfl,aAB (s2 _ _ ht),rfl,_,rfl,r,us,_,.ref tt,rfl,rfl,aAA (s2 _ _ hr'),by rw [i0];exact cC eu,tt,_,0,.ref aa,rfl,rfl,aAB (s2 _ _ q1),rfl,aa,rfl,⟨_,aAA (s2 _ _ q2)⟩,fun D2 nD2=>?_⟩;refine jw (F:=id) (pb:=aaJ (aV h.1 h.2 o) h.2[i].1) (s2 _ _ q2) nD2 (by rw [adG];have:=(ok.rs _ (aeo hi)).l4;lia) (fun x=>rfl) (fun G x R hx sG r0=>?_) (fun G x R hx _ sG r0=>?_) (fun G sG hG=>?_)
    ·obtain⟨k,hk,rfl⟩:=ad5.mp hx;have sHG:=s2.trans sG;refine⟨_,rfl,.inl ⟨rfl,_,aAA (sG _ _ e2)⟩,_,rfl,hd,_,k,rfl,rfl,sG _ _ e2,?_⟩;refine⟨_,rfl,t,_,1,.ref r,rfl,rfl,aAB (sHG _ _ ht),rfl,_,rfl,r,us,_,.ref tt,rfl,rfl,aAA (sHG _ _ hr'),by rw [i0];exact cC eu,tt,_,0,.ref aa,rfl,rfl,aAB (sHG _ _ q1),rfl,.inl ⟨rfl,_,aAA (sHG _ _ q2)⟩,_,rfl,aa,_,k,rfl,rfl,sHG _ _ q2,_,_,rfl,rfl,_,rfl,?_⟩;have:=r0 G (Same.refl G);rw [show decide ((((aV h.1 h.2 o).count k:Nat):Int) < ((h.2[i].1.count k:Nat):Int))=aaJ (aV h.1 h.2 o) h.2[i].1 (.str k) from aeV.mpr (by lia)];exact this
    ·exact⟨_,rfl,r0 G (Same.refl G)⟩
    ·have hG':G D2=some (.lst ((h.2[i].1.filter fun x=>decide ((aV h.1 h.2 o).count x < h.2[i].1.count x)).map V.str)):=by rw [hG,xK]
     have sHG:=s2.trans sG;have eD3:=sG _ _ eD;have tk:((List.range (i+1)).filter fun k=>!decide (k∈o) && jV (aV h.1 h.2 o) ((h.2[k]?).getD ([],[])).1)=((List.range i).filter fun k=>!decide (k∈o) && jV (aV h.1 h.2 o) ((h.2[k]?).getD ([],[])).1)++if (!decide (i∈o) && jV (aV h.1 h.2 o) h.2[i].1)=true then [i] else []:=by
      rw [afg,aen,aea,gd]
      rfl
     refine⟨fun σ H'=>LfI (.ref t) l hd D h o (aV h.1 h.2 o) H (i+1) σ H',fun _ _ z=>z,?_⟩;refine⟨_,rfl,_,rfl,l,_,rfl,.inl (aAA (sHG _ _ hl)),rfl,by rw [af6,aes];exact fun _ _=>rfl,_,rfl,?_⟩;rw [i0];rw [show inV (.int ((i:Nat):Int)) (cf o)=decide (i∈o) from xr i o];by_cases hin:i∈o
     ·rw [adY hin] at tk ⊢;refine eP (eP (.mk _ _ _ rfl (sG _ _ e2) ?_ nD0 sHG));rw [tk];simpa using eD3
     ·rw [ad4 hin] at tk ⊢;refine gI ⟨_,rfl,ad7 _,fun l0 n0=>?_⟩;have s0':Same G (upd G l0 (.lst [])):=ar n0;refine qe (s0' _ _ hG') af (fun k hk=>lk k (aeA.mp hk).1) (aeg (adL _) hu) ⟨_,rfl,?_⟩;rw [yb];cases hm:jV (aV h.1 h.2 o) h.2[i].1 with
      | true =>
       rw [hm] at tk;refine gI ⟨_,rfl,.inl ⟨rfl,_,aAA (s0' _ _ eD3)⟩,_,rfl,D,_,_,rfl,rfl,s0' _ _ eD3,?_,?_⟩
       ·rw [adG];have:=aeF (fun k=>!decide (k∈o) && jV (aV h.1 h.2 o) ((h.2[k]?).getD ([],[])).1) (List.range i);rw [aeB] at this;lia
       ·refine .mk _ _ _ rfl (by rw [aj nhD];exact s0' _ _ (sG _ _ e2)) ?_ nD0 (bT (sHG.trans s0') nD0);rw [af,tk];unfold cf;rw [adW]
        rfl
      | false =>
       rw [hm] at tk;refine eP (.mk _ _ _ rfl (s0' _ _ (sG _ _ e2)) ?_ nD0 (sHG.trans s0'));rw [tk];simpa using s0' _ _ eD3
  ·refine⟨_,rfl,l,rfl,⟨_,aAA (s0 _ _ hl)⟩,?_⟩;refine dJ (xs:=cf o) (fun i σ' H'=>LnI (.ref t) l h o H i σ' H') (.mk hd0 none none rfl af nh0 s0) (fun i σ H' _ ⟨_,_,_,_,_,_,s⟩=>aAA (s _ _ hl)) ?_ (fun σ H' z=>by rw [adG] at z;exact z);rintro i x σ H1 hx ⟨hd,x3,x4,rfl,e1,n1,s1⟩;obtain⟨n,en,ex⟩:∃ n,o[i]? = some n/\x=.int ((n:Nat):Int):=by
    rw [adK] at hx;cases hq:o[i]? with
    | none=>rw [hq] at hx;cases hx
    | some n=>rw [hq] at hx;cases hx;exact⟨n,rfl,rfl⟩
   subst ex;obtain⟨hn,_,hmay⟩:=g i n en;have gd:(h.2[n]?).getD ([],[])=h.2[n]:=by rw [adD hn];rfl
   rw [gd] at hmay;obtain⟨tt,aa,bb,eu,q1,q2,q3⟩:=ur hR hn;have tk:o.take (i+1)=o.take i++[n]:=by rw [aee,en];rfl
   refine⟨fun σ H'=>LoI (.ref t) l hd h o H i n h.2[n].1 h.2[n].1.length σ H',?_,?_⟩
   ·rintro σ H2 ⟨x4',rfl,e2,s2⟩;rw [aem] at e2;refine⟨_,rfl,_,rfl,t,_,1,.ref r,rfl,rfl,aAB (s2 _ _ ht),rfl,_,rfl,r,us,_,.ref tt,rfl,rfl,aAA (s2 _ _ hr'),cC eu,tt,_,1,.ref bb,rfl,rfl,aAB (s2 _ _ q1),rfl,hd,bb,_,_,rfl,rfl,e2,s2 _ _ q3,?_,fun hd2 n2=>?_⟩
    ·rw [adG,adG];have a1:=jP h.2[n].1 (aV h.1 h.2 (o.take i));have a2:=oh (ks:=[]) 1000 (fun r hr=>(ok.rs r hr).kl) (o.take i) h.1;have a3:=(ok.rs _ (aeo hn)).kl;have a4:=ok.kl;have a5:(o.take i).length<=12:=by rw [aeb];lia
     lia
    ·refine .mk hd2 _ _ rfl ?_ (s2.free n2) (s2.trans (ar n2));rw [af,tk,iV,gd];unfold kF;rw [adW]
   ·refine⟨_,rfl,t,_,1,.ref r,rfl,rfl,aAB (s1 _ _ ht),rfl,_,rfl,r,us,_,.ref tt,rfl,rfl,aAA (s1 _ _ hr'),cC eu,tt,_,0,.ref aa,rfl,rfl,aAB (s1 _ _ q1),rfl,aa,rfl,⟨_,aAA (s1 _ _ q2)⟩,?_⟩;refine dJ (xs:=h.2[n].1.map V.str) (fun j σ' H'=>LoI (.ref t) l hd h o H i n h.2[n].1 j σ' H') (.mk x4 rfl e1 s1) (fun j σ H' _ ⟨_,_,_,s⟩=>aAA (s _ _ q2)) ?_ (fun σ H' z=>by rw [adG] at z;exact z);rintro j x σ H2 hx ⟨x4',rfl,e2,s2⟩;have hj:=(adF.mp hx).1;rw [adG] at hj;rw [adK,adD hj] at hx;cases hx;refine⟨_,rfl,.inl ⟨rfl,_,aAA e2⟩,_,rfl,hd,_,h.2[n].1[j],rfl,rfl,e2,abd hmay hj,?_⟩;refine .mk _ rfl ?_ (bT s2 n1);rw [af,aee,adD hj,af3]
    rfl
end
def ach (n:Nat):Sp:=fun vs H Q _=>∃ (v:V) (d:PyData),vs=[v]/\Sees H v d/\Cpy n d/\∀ u H',Same H H'->Sees (mW H H') u d->Q u H'
def acA:Nat->Sp
 | 0=>fun _ _ _ _=>False
 | n+1=>ach n
def OrdsAt (H:Hp)(ys:List V)(os:List (List Nat)):Prop:=ys.length=os.length/\∀ (j:Nat) y o,ys[j]? = some y->os[j]? = some o->∃ b:Addr,y=.ref b/\H b=some (.lst (cf o))
theorem OrdsAt.same {H H':Hp}{ys:List V}{os:List (List Nat)}(a:OrdsAt H ys os)(s:Same H H'):OrdsAt H' ys os:=⟨a.1,fun j y o e1 e2=>let ⟨b,e,h⟩:=a.2 j y o e1 e2;⟨b,e,s _ _ h⟩⟩
theorem OrdsAt.get {H:Hp}{ys:List V}{os:List (List Nat)}(a:OrdsAt H ys os){j:Nat}{y:V}(e:ys[j]? = some y):∃ o b,os[j]? = some o/\y=V.ref b/\H b=some (.lst (cf o)):=by
 have hj:=(adF.mp e).1;have l:=a.1;obtain⟨b,e1,h⟩:=a.2 j y _ e (adD (show j < os.length by lia));exact⟨_,b,adD _,e1,h⟩
section
variable {P:Program}{w:World}{K:PySem.W.Frag}{mg:Str->Option Value}{base:Heap}{f:Addr}{fd:FuncData}
theorem qr:aA ["thing"] ["thing"] (ai cW):=scM rfl rfl rfl rfl (by decide +kernel)
theorem iG:(["one"]:List Str).Nodup:=by decide +kernel
theorem vY (n:Nat)(F:Fun K "_law_copy" "_law_copy" cW f fd)(gA:FnOk P w K mg base CX0 n f fd ["thing"] (acA n))(bp:Cal K mg "_law_copy" ["thing"] f fd)(fX:mg "tuple" = none)(av:mg "isinstance" = none)(bj:mg "list" = none):FnOk P w K mg base CX0 (n+1) f fd ["thing"] (ach n):=by
 refine F.ok qr (fun vs H Q E h=>?_) (fun cdv A outer s H vs Q E hr h=>?_)
 ·obtain⟨v,d,rfl,_⟩:=h
  rfl
 ·have hu:=dO hr;obtain⟨v,d,rfl,sv,cp,q⟩:=h;refine⟨_,(ag (dN (fb (aw aO rfl av (by decide +kernel) (ae (pv 0) (ae (dv (v:=.ty "list") (u:=.type "list") rfl bj (by decide +kernel) rfl) ah))))
   (ao (aH (kI (tg:=.Name "one" _) (outer:=ai (cW)) (N:=["thing"]) (N':=["one"]) (nl:=1) (ix:=[]) rfl rfl rfl (aX (pv 0))
   (fun _ _ _ _=>(au (i:=0) iG rfl (.inl rfl) (.inr rfl))) (fun _ _ _ _=>dA)
   (fun _ _ _ _=>(pcl gA bp hr rfl (ae (pv 0) ah)))))) aS)
   (ag (dN (fb (aw aO rfl av (by decide +kernel) (ae (pv 0) (ae (dv (v:=.ty "tuple") (u:=.type "tuple") rfl fX (by decide +kernel) rfl) ah))))
    (ao (aH (dU oC rfl fX (by decide +kernel) (ae (kI (tg:=.Name "one" _) (outer:=ai (cW)) (N:=["thing"]) (N':=["one"]) (nl:=1) (ix:=[]) rfl rfl rfl (ace (pv 0))
    (fun _ _ _ _=>(au (i:=0) iG rfl (.inl rfl) (.inr rfl))) (fun _ _ _ _=>dA)
    (fun _ _ _ _=>(pcl gA bp hr rfl (ae (pv 0) ah)))) ah)))) aS)
   (ao (aH (pv 0))))),?_⟩
  cases cp with
  | str n x =>
   cases sv;refine⟨_,rfl,_,_,_,false,rfl,.str x,qL K,false,rfl,eP ?_⟩;refine⟨_,rfl,_,_,_,false,rfl,.str x,rD K,false,rfl,eP ?_⟩;exact⟨_,rfl,q _ H (Same.refl H) (.str x)⟩
  | lst l al =>
   cases sv with
   | lst e sa =>
    rename_i n ds a xs;have xl:=(SeesAll.get sa).1;refine⟨_,rfl,_,_,_,true,rfl,.lst e,de K _,true,rfl,gI ?_⟩;dsimp only [zK];refine aQ _ _ _ _ _ _ _ _ _ ?_;refine⟨_,rfl,a,rfl,⟨_,aAA e⟩,fun D nD=>?_⟩;refine zZ e sa nD (by lia) (fun x=>rfl) (fun G x d C hd sx k=>?_) (fun G ys s eD yl sy=>?_)
    ·exact⟨_,rfl,x,d,rfl,sx,al d hd,fun u H' s' su=>k u H' s' su⟩
    ·exact q _ G s (.lst (pC nD eD) (ko kR sy))
  | tup l al =>
   cases sv with
   | tup e sa =>
    rename_i n ds a xs;have xl:=(SeesAll.get sa).1;refine⟨_,rfl,_,_,_,false,rfl,.tup e,qR K,false,rfl,eP ?_⟩;refine⟨_,rfl,_,_,_,true,rfl,.tup e,de K _,true,rfl,gI ?_⟩;dsimp only [zK,tCB,iC,rZ];refine aQ _ _ _ _ _ _ _ _ _ ?_;refine⟨_,rfl,a,rfl,⟨_,aAB e⟩,fun D nD=>?_⟩;refine acf e sa nD (by lia) (fun x=>rfl) (fun G x d C hd sx k=>?_) (fun G ys s eD yl sy=>?_)
    ·exact⟨_,rfl,x,d,rfl,sx,al d hd,fun u H' s' su=>k u H' s' su⟩
    ·refine⟨D,ys,rfl,.inl ⟨aAA eD,fun t nt=>q _ _ (s.trans (ar nt)) (.tup (pC (s.free nt) af) (ko (fun b u eb=>?_) sy))⟩⟩;have e1:=kR _ _ eb;have e2:=tX _ _ e1;have nb:b≠t:=fun z=>by subst z;rw [e2] at nt;cases nt
     unfold mW at e1 ⊢;split at e1
     ·cases e1
     ·rename_i n0;rw [aj nb];exact e2
theorem wL (F:Fun K "_law_copy" "_law_copy" cW f fd)(bp:Cal K mg "_law_copy" ["thing"] f fd)(fX:mg "tuple" = none)(av:mg "isinstance" = none)(bj:mg "list" = none):∀ n,FnOk P w K mg base CX0 (n+1) f fd ["thing"] (ach n)
 | 0=>vY 0 F ⟨fun _ _ _ _ h=>h.elim,fun _ _ _ _ _ _ _ _ _ _ _ _ _ h=>h.elim⟩ bp fX av bj
 | n+1=>vY (n+1) F (wL F bp fX av bj n) bp fX av bj
end
def zB:Sp:=fun vs H Q _=>∃ (v:V) (h:Hs) (k:Int),vs=[v,.int k]/\HouseAt H v h/\cB h/\vm h/\h.2.length<=12/\¬ (0<=k/\k < ((Ends h []:Nat):Int))/\∀ H',Same H H'->Q (.bl true) H'
def zU:Sp:=fun vs H Q _=>∃ (v:V) (h:Hs) (l:Addr) (o:List Int),vs=[v,.ref l]/\HouseAt H v h/\cB h/\vm h/\h.2.length<=12/\H l=some (.lst (o.map V.int))/\o.length<=1000000/\(∀ on:List Nat,o=on.map (fun n=>((n:Nat):Int))->cy h.1 h.2 on->on.length=h.2.length->∀ H',Same H H'->Q (.int ((rkF h [] on:Nat):Int)) H')/\((∀ on:List Nat,o=on.map (fun n=>((n:Nat):Int))->¬ (cy h.1 h.2 on/\on.length=h.2.length))->∀ H',Same H H'->Q (.str "none") H')
def w9:Sp:=fun vs H Q _=>∃ (v:V) (h:Hs) (l:Addr) (ys:List V) (os:List (List Nat)),vs=[v,.ref l]/\HouseAt H v h/\cB h/\vm h/\h.2.length<=12/\H l=some (.lst ys)/\OrdsAt H ys os/\(∀ (j:Nat) o,os[j]? = some o->(Due h)[j]? = some o)/\∀ H',Same H H'->Q (.bl true) H'
theorem FnOk.calm {P:Program}{w:World}{K:PySem.W.Frag}{mg:Str->Option Value}{base:Heap}{k:Nat}{f:Addr}{fd:FuncData}{ps:List Str}{sp:Sp}(F:FnOk P w K mg base (CXr P w) k f fd ps sp):FnOk P w K mg base CX0 k f fd ps (fun vs H Q _=>sp vs H Q fun _ _ _=>False) :=
 ⟨fun vs H Q E h=>F.len vs H Q _ h,fun A outer s H args us vs Q E hr he hb hv hs=>afC (F.run A outer s H args us vs Q (fun _ _ _=>False) hr he hb hv hs) fun r s' h=>by
  cases r with
  | error e =>
   obtain⟨_,_,_,_,_,_,_,_,_,_,_,_,_,_,_,z⟩:=h;exact z.elim
  | ok fl=>cases fl<;>exact h⟩
section
variable {P:Program}{w:World}{K:PySem.W.Frag}{mg:Str->Option Value}{base:Heap}
theorem cG:aA ["house","k","caught","e"] ["house","k"] (ai dE):=scM rfl rfl rfl rfl (by decide +kernel)
theorem cj:aA ["house","order","caught","found","e"] ["house","order"] (ai fV):=scM rfl rfl rfl rfl (by decide +kernel)
theorem aaD {f fN cN:Addr}{fd fdN:FuncData}{bmN:List Value}(F:Fun K "_law_no_number" "_law_no_number" dE f fd)(iX:FnOk P w K mg base (CXr P w) 8 fN fdN ["house","k"] (aaN cN))(cA:Cal K mg "nth_order" ["house","k"] fN fdN)(jH:mg "NoNumber" = some (.ref cN))(x_NoNumber:kA K cN bmN):FnOk P w K mg base CX0 9 f fd ["house","k"] zB:=by
 refine F.ok cG (fun vs H Q E h=>?_) (fun cdv A outer s H vs Q E hr h=>?_)
 ·obtain⟨v,h,k,rfl,_⟩:=h
  rfl
 ·have hu:=dO hr;obtain⟨v,h,k,rfl,hh,ok,few,l12,no,q⟩:=h;refine⟨_,(ag (ay (i:=2) cG.nd rfl (.inl rfl) qK)
   (ag (zu (i:=3) rfl rfl rfl jH x_NoNumber cG.nd rfl rfl
    (fun pins xe Eh hx=>ao (dy (tQ (E:=Eh) iX hr rfl cA.mg cA.kp cA.b .nil (fun _ σ H s ev s' I h=>hx σ H s ev s' I.untried h) (ae (pv 0) (ae (pv 1) ah)))))
    (fun a=>ao (ay (i:=2) cG.nd rfl (.inl rfl) (pv 3))))
   (ao (aH (gW xT (pv 2) qK (bo _)))))),?_⟩
  refine⟨_,rfl,_,rfl,v,h,k,rfl,hh,ok,few,l12,fun kn ek lt=>absurd ⟨by lia,by lia⟩ no,fun _ H1 s1=>⟨⟨cN,bmN,rfl,x_NoNumber,by simp⟩,fun a na=>?_⟩⟩;have s2:Same H1 (upd H1 a (aa1 a (.ref cN))):=ar na;exact⟨_,rfl,_,rfl,rfl,q _ (s1.trans s2)⟩
theorem aaj {f fN cO:Addr}{fd fdN:FuncData}{bmO:List Value}(F:Fun K "_law_number" "_law_number" fV f fd)(dD:FnOk P w K mg base (CXr P w) 8 fN fdN ["house","order"] (aaL cO))(aL:Cal K mg "number_of_order" ["house","order"] fN fdN)(gU:mg "NoOrder" = some (.ref cO))(x_NoOrder:kA K cO bmO):FnOk P w K mg base CX0 9 f fd ["house","order"] zU:=by
 refine F.ok cj (fun vs H Q E h=>?_) (fun cdv A outer s H vs Q E hr h=>?_)
 ·obtain⟨v,h,l,o,rfl,_⟩:=h
  rfl
 ·have hu:=dO hr;obtain⟨v,h,l,o,rfl,hh,ok,few,l12,hl,ol,q1,q2⟩:=h;refine⟨_,(ag (ay (i:=2) cj.nd rfl (.inl rfl) qK)
   (ag (ay (i:=3) cj.nd rfl (.inl rfl) qK)
   (ag (zu (i:=4) rfl rfl rfl gU x_NoOrder cj.nd rfl rfl
    (fun pins xe Eh hx=>ao (ay (i:=3) cj.nd rfl (.inl rfl) (tQ (E:=Eh) dD hr rfl aL.mg aL.kp aL.b .nil (fun _ σ H s ev s' I h=>hx σ H s ev s' I.untried h) (ae (pv 0) (ae (pv 1) ah)))))
    (fun a=>ao (ay (i:=2) cj.nd rfl (.inl rfl) (pv 4))))
   (ag (dN (aJ xT (pv 2) qK (bo _))
    (ao (aH b0)) aS)
   (ao (aH (pv 3))))))),?_⟩
  refine⟨_,rfl,_,rfl,v,h,l,o,rfl,hh,ok,few,l12,hl,ol,fun on e1 g e H1 s1=>?_,fun no H1 s1=>⟨⟨cO,bmO,rfl,x_NoOrder,by simp⟩,fun a na=>?_⟩⟩
  ·exact⟨_,rfl,rfl,_,rfl,eP ⟨_,rfl,q1 on e1 g e H1 s1⟩⟩
  ·have s2:Same H1 (upd H1 a (aa1 a (.ref cO))):=ar na;exact⟨_,rfl,_,rfl,rfl,_,rfl,gI (q2 no _ (s1.trans s2))⟩
end
def OrdsZ (H:Hp)(ys:List V)(ls:List (List Int)):Prop:=ys.length=ls.length/\∀ (j:Nat) y l,ys[j]? = some y->ls[j]? = some l->∃ b:Addr,y=.ref b/\H b=some (.lst (l.map V.int))
abbrev dn (ns:List Int):List PyData:=ns.map PyData.int
theorem fZ:∀ ns:List Int,PyData.canLayAll0 (dn ns)=true
 | []=>rfl
 | n::ns=>by rw [dn,adS];simp only [PyData.canLayAll0,PyData.canLay0,afF];exact fZ ns
theorem iN:∀ ns:List Int,PyData.depthAll (dn ns)=0
 | []=>rfl
 | n::ns=>by
  rw [dn,adS];have:=iN ns;unfold dn at this;simp only [PyData.depthAll,PyData.depth,this]
  rfl
theorem gi:∀ a b:List Int,PyData.eqvAll (dn a) (dn b)=true↔a=b
 | [],[]=>by simp [PyData.eqvAll]
 | [],y::b=>by simp [PyData.eqvAll]
 | x::a,[]=>by simp [PyData.eqvAll]
 | x::a,y::b=>by
  have:=gi a b;unfold dn at this ⊢;simp only [adS,PyData.eqvAll,PyData.eqv,aei,this,List.cons.injEq,afh]
theorem eK {H:Hp}:∀ ns:List Int,SeesAll H (ns.map V.int) (dn ns)
 | []=>.nil
 | n::ns=>.cons (.int _) (eK ns)
theorem qx (ns:List Int):(PyData.list (dn ns)).depth<=1:=by simp only [PyData.depth,iN];decide
theorem wz {A:Around}{neg:Bool}{H:Hp}{x y:Addr}{a b:List Int}{Q:VK}(hx:H x=some (.lst (a.map V.int)))(hy:H y=some (.lst (b.map V.int)))(hu:A.units+1 < cLine)(q:Q (.bl (if neg then !decide (a=b) else decide (a=b))) H):zP A neg (.ref x) (.ref y) H Q:=by
 refine⟨.list (dn a),.list (dn b),.lst hx (eK a),.lst hy (eK b),by simp only [PyData.canLay0,fZ],by simp only [PyData.canLay0,fZ],aeg (aeq (adZ (afV _ _) (qx a)) _) hu,?_⟩;have e:PyData.eqv (.list (dn a)) (.list (dn b))=decide (a=b):=by
  simp only [PyData.eqv];rw [aeR,aeD];exact gi a b
 rw [e];exact q
theorem kC {H:Hp}{vs:List V}{ls:List (List Int)}(o:OrdsZ H vs ls):SeesAll H vs (ls.map fun l=>.list (dn l)):=by
 obtain⟨e,h⟩:=o
 revert e h
 induction vs generalizing ls with
 | nil=>intro e h;cases ls with
  | nil=>exact .nil
  | cons l ls=>cases e
 | cons v vs ih=>intro e h;cases ls with
  | nil=>cases e
  | cons l ls =>
   obtain⟨a,rfl,ha⟩:=h 0 v l rfl rfl;exact .cons (.lst ha (eK l)) (ih (by simpa using e) fun i v' l' p q=>h (i+1) v' l' p q)
theorem iQ:∀ ls:List (List Int),PyData.canLayAll0 (ls.map fun l=>.list (dn l))=true
 | []=>rfl
 | l::ls=>by rw [adS];simp only [PyData.canLayAll0,PyData.canLay0,fZ,afF];exact iQ ls
theorem gr:∀ ls:List (List Int),PyData.depthAll (ls.map fun l=>.list (dn l))<=1
 | []=>by simp only [ahc,PyData.depthAll];decide
 | l::ls=>by
  have:=gr ls;rw [adS];simp only [PyData.depthAll,PyData.depth,iN];lia
theorem vM {A:Around}{neg:Bool}{H:Hp}{x y:Addr}{q:List Int}{us:List V}{ls:List (List Int)}{Q:VK}(hx:H x=some (.lst (q.map V.int)))(hy:H y=some (.lst us))(oa:OrdsZ H us ls)(hu:A.units+3 < cLine)(k:Q (.bl (if neg then !decide (q∈ls) else decide (q∈ls))) H):ac2 A neg (.ref x) (.ref y) H Q:=by
 refine⟨ls.map fun l=>.list (dn l),.list (dn q),.lst hy (kC oa),.lst hx (eK q),iQ ls,by simp only [PyData.canLay0,fZ],?_,?_⟩
 ·have h1:=gr ls;refine aeg ?_ hu;rw [Nat.add_assoc];exact aeq (adZ (aeq (adZ (afV _ _) h1) 1) (by decide:1+1<=3)) _
 ·have e:((ls.map fun l=>PyData.list (dn l)).any fun z=>z.eqv (.list (dn q)))=decide (q∈ls):=by
   rw [aeR,aiv,afw,aeD];constructor
   ·rintro⟨l,hl,e⟩;have e:PyData.eqv (.list (dn l)) (.list (dn q))=true:=e;simp only [PyData.eqv] at e;rw [← (gi l q).mp e];exact hl
   ·intro hq;refine⟨q,hq,?_⟩;show PyData.eqv (.list (dn q)) (.list (dn q))=true;simp only [PyData.eqv];exact (gi q q).mpr rfl
  rw [e];exact k
def NumP (p:Addr)(H:Hp)(v:V)(o:List Int):Prop:=∃ l,v=.ref l/\l≠p/\H l=some (.lst (o.map V.int))
theorem NumP.but {p:Addr}{H H':Hp}{v:V}{o:List Int}(n:NumP p H v o)(b:But p H H'):NumP p H' v o:=let ⟨l,e,d,h⟩:=n;⟨l,e,d,b _ _ d h⟩
theorem NumP.same {p:Addr}{H H':Hp}{v:V}{o:List Int}(n:NumP p H v o)(s:Same H H'):NumP p H' v o:=n.but (aD s)
def NumsP (p:Addr)(H:Hp)(ys:List V)(os:List (List Int)):Prop:=ys.length=os.length/\∀ (j:Nat) y o,ys[j]? = some y->os[j]? = some o->NumP p H y o
theorem NumsP.nil {p:Addr}{H:Hp}:NumsP p H [] []:=⟨rfl,fun j y o e=>by simp at e⟩
theorem NumsP.cons {p:Addr}{H:Hp}{y:V}{o:List Int}{ys:List V}{os:List (List Int)}(a:NumP p H y o)(b:NumsP p H ys os):NumsP p H (y::ys) (o::os):=⟨aeu (· + 1) b.1,fun j z q e1 e2=>by
 cases j with
 | zero=>cases e1;cases e2;exact a
 | succ j=>exact b.2 j z q e1 e2⟩
theorem NumsP.app {p:Addr}{H:Hp}{ys zs:List V}{os ps:List (List Int)}(a:NumsP p H ys os)(b:NumsP p H zs ps):NumsP p H (ys++zs) (os++ps):=by
 refine⟨by rw [adI,adI,a.1,b.1],fun j y o e1 e2=>?_⟩;have l:=a.1;by_cases hj:j < ys.length
 ·rw [ad0 hj] at e1;rw [ad0 (by lia)] at e2;exact a.2 j y o e1 e2
 ·rw [ad1 (by lia)] at e1;rw [ad1 (by lia)] at e2;rw [← l] at e2;exact b.2 _ y o e1 e2
theorem NumsP.but {p:Addr}{H H':Hp}{ys:List V}{os:List (List Int)}(n:NumsP p H ys os)(b:But p H H'):NumsP p H' ys os:=⟨n.1,fun j y o e1 e2=>(n.2 j y o e1 e2).but b⟩
theorem NumsP.same {p:Addr}{H H':Hp}{ys:List V}{os:List (List Int)}(n:NumsP p H ys os)(s:Same H H'):NumsP p H' ys os:=n.but (aD s)
theorem HouseAt.pool {H H':Hp}{p:Addr}{v:V}{h:Hs}(x:HouseAt H v h)(d:PoolD H p)(b:But p H H'):HouseAt H' v h:=by
 obtain⟨t,a,r,us,rfl,h1,h2,h3,h4⟩:=x;have d0:=d;obtain⟨i,j,k,e⟩:=d;refine⟨t,a,r,us,rfl,b _ _ (fun z=>?_) h1,b _ _ (fun z=>?_) h2,b _ _ (fun z=>?_) h3,RoomsAt.pool h4 d0 b⟩
 ·rw [z,e] at h1;cases h1
 ·rw [z,e] at h2;injection h2 with h2;injection h2 with h2;exact sX h2.symm
 ·rw [z,e] at h3;injection h3 with h3
  injection h3 with h3
  subst h3;have l:=h4.1;obtain⟨tt,_,_,e1,_⟩:=h4.2 0 (.int i) (h.2[0]'(by rw [← l];show 0 < 3;decide)) rfl (adD _);cases e1
theorem qX {p:Addr}{H:Hp}{vs:List V}{ns:List Int}{Q:VK}(e:vs=ns.map V.int)(d:PoolD H p)(k:∀ z H',Same H H'->NumP p H' z ns->Q z H'):∀ l,H l=none->Q (.ref l) (upd H l (.lst vs)):=fun l n=>k _ _ (ar n) ⟨l,rfl,d.ne n,by rw [af,e]⟩
theorem lW {p:Addr}{H:Hp}{t:TE}{σ:L2.St}{Q:VK}(n:Int)(h:∀ R:VK,R (.int n) H->t σ H R)(d:PoolD H p)(k:∀ z H',Same H H'->NumP p H' z [n]->Q z H'):aci (iC t rZ) σ H Q:=h _ ⟨lt_size (by decide:1<=1000),qX (ns:=[n]) rfl d k⟩
theorem iW {p:Addr}{H:Hp}{x y:V}{a b:List Int}{Q:VK}(hx:NumP p H x a)(hy:NumP p H y b)(hn:a.length+b.length<=1000)(d:PoolD H p)(k:∀ z H',Same H H'->NumP p H' z (a++b)->Q z H'):adb x y H Q:=by
 obtain⟨l,rfl,_,hl⟩:=hx;obtain⟨m,rfl,_,hm⟩:=hy;exact⟨l,m,_,_,rfl,rfl,hl,hm,by rw [adG,adG];exact lt_size hn,qX (adW).symm d k⟩
theorem ze (o:List Int)(a b:Option Int):∃ c:List Int,fj (o.map V.int) a b=c.map V.int/\c.length<=o.length:=by
 unfold fj;rw [← List.map_drop,← List.map_take];refine⟨_,rfl,?_⟩;rw [aeb,agc];lia
theorem jN {K:PySem.W.Frag}{p:Addr}{H:Hp}{x:V}{o:List Int}{lo hi:Option Int}{Q:VK}(hx:NumP p H x o)(d:PoolD H p)(k:∀ z c H',Same H H'->NumP p H' z c->c.length<=o.length->Q z H'):ade K x lo hi H Q:=by
 obtain⟨l,rfl,_,hl⟩:=hx;obtain⟨c,e,cl⟩:=ze o lo hi;exact⟨l,_,rfl,aAA hl,qX e d fun z H' s n=>k z c H' s n cl⟩
theorem uk {p:Addr}{H:Hp}{t:TE}{ts:TA}{σ:L2.St}{Q:List V->Hp->Prop}(n:Int)(h:∀ R:VK,R (.int n) H->t σ H R)(d:PoolD H p)(k:∀ z H',Same H H'->NumP p H' z [n]->ts σ H' fun xs H2=>Q (z::xs) H2):iC (aci (iC t rZ)) ts σ H Q:=lW n h d k
def p7:Sp:=fun vs H Q _=>∃ (p:Addr) (v:V) (h:Hs) (l:Addr) (o:List Nat),vs=[.ref p,v,.ref l]/\PoolD H p/\HouseAt H v h/\h.2.length<=12/\H l=some (.lst (cf o))/\l≠p/\o.length<=12/\∀ (D:Addr) (ys:List V) (os:List (List Int)) (H':Hp),But p H H'->PoolD H' p->D≠p->H' D=some (.lst ys)->NumsP p H' ys os->(∀ o∈os,o.length<=30)->os.length<=10->Q (.ref D) H'
theorem jZ (o:List Nat):(zs o).map V.int=cf o:=by unfold zs;rw [ael];rfl
theorem ue (o:List Nat):(zs o).length=o.length:=adG _
inductive SpI (p:Addr)(v:V)(l:Addr)(n:Nat)(H:Hp)(σ:L2.St)(H':Hp):Prop
 | mk (D:Addr) (ys:List V) (os:List (List Int)) (x5 x6 x7:Option V):σ=[some (.ref p),some v,some (.ref l),some (.int ((n:Nat):Int)),some (.ref D),x5,x6,x7]->But p H H'->PoolD H' p->D≠p->H' D=some (.lst ys)->NumsP p H' ys os->(∀ o∈os,o.length<=30)->os.length<=10->SpI p v l n H σ H'
inductive EaI (v:V)(l:Addr)(H:Hp)(σ:L2.St)(H':Hp):Prop
 | mk (x2 x3 x4 x5:Option V):σ=[some v,some (.ref l),x2,x3,x4,x5]->Same H H'->EaI v l H σ H'
inductive EbI (v:V)(l:Addr)(i:Nat)(b:Addr)(H:Hp)(σ:L2.St)(H':Hp):Prop
 | mk (x4 x5:Option V):σ=[some v,some (.ref l),some (.int ((i:Nat):Int)),some (.ref b),x4,x5]->Same H H'->EbI v l i b H σ H'
section
theorem xh {n j:Nat}(h:j < n):ixN n (j:Int)=some j:=by
 unfold ixN;rw [if_pos (Int.natCast_nonneg j),if_pos (by lia)]
 rfl
variable {P:Program}{w:World}{K:PySem.W.Frag}{mg:Str->Option Value}{base:Heap}
theorem bL:aA ["house","due","k","order","again","found"] ["house","due"] (ai cq):=scM rfl rfl rfl rfl (by decide +kernel)
theorem bP:aA ["pool","house","order","many","found","at","other","bent"] ["pool","house","order"] (ai dG):=scM rfl rfl rfl rfl (by decide +kernel)
theorem zf {f fN fM:Addr}{fd fdN fdM:FuncData}{cN cO:Addr}(F:Fun K "_law_each_right" "_law_each_right" cq f fd)(iX:FnOk P w K mg base CX0 8 fN fdN ["house","k"] fun vs H Q _=>aaN cN vs H Q fun _ _ _=>False)(cA:Cal K mg "nth_order" ["house","k"] fN fdN)(dD:FnOk P w K mg base CX0 8 fM fdM ["house","order"] fun vs H Q _=>aaL cO vs H Q fun _ _ _=>False)(aL:Cal K mg "number_of_order" ["house","order"] fM fdM)(av:mg "isinstance" = none)(bj:mg "list" = none)(bU:mg "range" = none)(bM:mg "enumerate" = none):FnOk P w K mg base CX0 9 f fd ["house","due"] w9:=by
 refine F.ok bL (fun vs H Q E h=>?_) (fun cdv A outer s H vs Q E hr h=>?_)
 ·obtain⟨v,h,l,ys,os,rfl,_⟩:=h
  rfl
 ·have hu:=dO hr;have deep:∀ {n:Nat},n<=12->(A.deeper (envOfC "_law_each_right" (ai cq) s.heap.objs.size f cdv)).units+(n+1) < cLine:=fun {n} h=>aeg (aeq (adZ (agX h) (by decide:13<=64)) _) hr.units;obtain⟨v,h,l,ys,os,rfl,hh,ok,few,l12,hl,oa,due,q⟩:=h;refine⟨_,(ag (bc (cX aeh rfl (rL rfl bM (ae (pv 1) ah)) (kh rfl (aF (au (i:=2) bL.nd rfl (.inl rfl)) (aF (au (i:=3) bL.nd rfl (.inl rfl)) c6)))
   (ao (bc (cX aeh rfl (eQ rfl bU (ae ak ah)) (au (i:=4) bL.nd rfl (.inl rfl))
    (ag (ay (i:=5) bL.nd rfl (.inl rfl) (pcl iX cA hr rfl (ae (pv 0) (ae (pv 2) ah))))
    (ag (dN (PW.pt (lX (fu (fb (aw aO rfl av (by decide +kernel) (ae (pv 5) (ae (dv (v:=.ty "list") (u:=.type "list") rfl bj (by decide +kernel) rfl) ah))))) (lX (aJ nY (pv 5) (pv 3) (bo _)) (jm (aJ rR (pcl dD aL hr rfl (ae (pv 0) (ae (pv 5) ah))) (pv 2) (bo _))))))
     (ao (aH lO)) aS)
    (ao (dy (pq ad9 aeO aeP dm (pv 5) (ae ak ah)))))))))))
   (ao (aH lO))),?_⟩
  refine⟨fun σ H'=>EaI v l H σ H',?_,?_⟩
  ·rintro σ H' ⟨x2,x3,x4,x5,rfl,s⟩;exact q _ s
  refine⟨_,rfl,l,rfl,⟨_,aAA hl⟩,?_⟩;refine yz (xs:=ys) (fun i σ' H'=>EaI v l H σ' H') (.mk none none none none rfl (Same.refl H)) (fun i σ H' _ ⟨_,_,_,_,_,s⟩=>aAA (s _ _ hl)) ?_ (fun σ H' z=>z);rintro i x σ H1 T hx ⟨x2,x3,x4,x5,rfl,s1⟩ nT;obtain⟨o,b,eo,rfl,hb⟩:=oa.get hx;have ed:=due i o eo;obtain⟨go,lo⟩:=due_iff.mp (adR ed);have rk:=uh ed;have iE:i < Ends h []:=by rw [← vA];exact (adF.mp ed).1
  have s2:Same H1 (upd H1 T (.tup [.int (i:Int),.ref b])):=ar nT;refine⟨T,_,rfl,aAB af,rfl,?_⟩;generalize upd H1 T (.tup [.int (i:Int),.ref b])=H2 at *;have s02:=s1.trans s2;refine⟨_,_,rfl,_,_,rfl,rfl,?_⟩;refine⟨fun σ H'=>EbI v l i b H σ H',?_,?_⟩
  ·rintro σ H' ⟨x4,x5,rfl,s⟩;exact .mk _ _ _ _ rfl s
  refine⟨2,rfl,by decide,by decide,?_⟩;refine f9 (fun i2 σ H'=>EbI v l i b H σ H') (.mk x4 x5 rfl s02) ?_ (fun σ H' z=>z);rintro i2 σ H3 hi2 ⟨x4',x5',rfl,s3⟩;refine⟨_,rfl,_,rfl,v,h,(i:Int),rfl,hh.same s3,ok,few,l12,fun kn ek lt lN oN H5 s5 nl el g lN' rk'=>?_,fun no=>absurd ⟨by lia,by lia⟩ no⟩;have ekn:kn=i:=by lia
  subst ekn;have eo:oN=o:=abp g lN' go lo (by rw [rk',rk]);subst eo;have s35:=s3.trans s5;refine⟨_,rfl,_,_,_,true,rfl,.lst el,de K _,true,rfl,eP ?_⟩;refine⟨_,rfl,_,rfl,oS (neg:=true) el (s35 _ _ hb) (deep (by decide:0<=12)) ⟨_,rfl,?_⟩⟩;rw [if_pos rfl,adY rfl];refine eP ?_;refine⟨_,rfl,_,rfl,v,h,lN,zs oN,rfl,(hh.same s35),ok,few,l12,by rw [el];exact aeu (fun z=>some (HO.lst z)) (jZ oN).symm,by rw [ue];lia,fun on e g2 l2 H6 s6=>⟨_,rfl,rfl,_,rfl,?_⟩,fun no=>absurd ⟨g,lN'⟩ (no oN rfl)⟩;have e:=qc e;subst e;rw [rk',adY rfl];refine eP ?_;have s36:=s35.trans s6;have lz:=dF g;refine⟨_,rfl,.inl ⟨rfl,_,aAA (s6 _ _ el)⟩,lN,_,_,rfl,rfl,s6 _ _ el,adU (show (cf oN).length < 1000 by unfold cf;rw [adG];lia) (lt_size (adL _)),?_⟩;exact .mk _ _ rfl (bT s36 (s3.free nl))
theorem uz {f fD:Addr}{fd fdD:FuncData}(F:Fun K "_law_spoilt" "_law_spoilt" dG f fd)(az:FnOk P w K mg base CX0 1 fD fdD ["pool","many"] nr)(ax:Cal K mg "_law_draw" ["pool","many"] fD fdD)(cI:mg "len" = none)(bj:mg "list" = none):FnOk P w K mg base CX0 2 f fd ["pool","house","order"] p7:=by
 refine F.ok bP (fun vs H Q E h=>?_) (fun cdv A outer s H vs Q E hr h=>?_)
 ·obtain⟨p,v,h,l,o,rfl,_⟩:=h
  rfl
 ·have hu:=dO hr;have hu':(A.deeper (envOfC "_law_spoilt" (ai dG) s.heap.objs.size f cdv)).units+1 < cLine:=aeg (aeq (by decide:1<=64) _) hr.units;obtain⟨p,v,h,l,o,rfl,dk,hh,l12,hl,nlp,ol,q⟩:=h;refine⟨_,(ag (ay (i:=3) bP.nd rfl (.inl rfl) (aw aB rfl cI aep (ae (bW eY (pv 1) ak (fun _ _=>rfl)) ah)))
   (ag (ay (i:=4) bP.nd rfl (.inl rfl) (cg (ae (v5 (pv 2) (oA jy ak)) (ae (dH fQ (pv 2) fU (fP (oA jy ak))) (ae (aP eX (pv 2) (cg (ae ak ah))) (ae (aP eX (pv 2) (cg (ae (pv 3) ah))) (ae (cg (ae (pv 3) ah)) (ae (cg (ae (oA jy ak) ah)) (ae (aP eX (dH fQ (pv 2) fU (fP ak)) (pv 2)) ah)))))))))
   (ag (bc (dN (aJ nY (pv 2) mh (bo _))
    (ag (ay (i:=5) bP.nd rfl (.inl rfl) (pcl az ax hr rfl (ae (pv 0) (ae (aw aB rfl cI aep (ae (pv 2) ah)) ah))))
    (ag (ay (i:=6) bP.nd rfl (.inl rfl) (pcl az ax hr rfl (ae (pv 0) (ae (aw aB rfl cI aep (ae (pv 2) ah)) ah))))
    (ag (ay (i:=7) bP.nd rfl (.inl rfl) (dU fv rfl bj (by decide +kernel) (ae (pv 2) ah)))
    (ag (nz (bW bR (pv 2) (pv 6) (fun _ _=>rfl)) (tE (pv 7) (pv 5) ju))
    (ag (nz (bW bR (pv 2) (pv 5) (fun _ _=>rfl)) (tE (pv 7) (pv 6) ju))
    (ao (ay (i:=4) bP.nd rfl (.inl rfl) (aP eX (pv 4) (cg (ae (pv 7) (ae (aP eX (aP eX (dH fQ (pv 2) fU (fP (pv 5))) (cg (ae (aP tG (oA jy ak) (pv 5)) ah))) (dH fQ (pv 2) (fP (aP g0 (pv 5) ak)) fU)) (ae (aP eX (aP eX (dH fQ (pv 2) fU (fP (pv 5))) (cg (ae (aP tI ak ak) ah))) (dH fQ (pv 2) (fP (aP g0 (pv 5) ak)) fU)) ah)))))))))))) aS))
   (ao (aH (pv 4)))))),?_⟩
  obtain⟨t,a,r,us,ev,ht,ha,hr',hR⟩:=id hh;subst ev;have N0:NumP p H (.ref l) (zs o):=⟨l,rfl,nlp,by rw [hl,jZ]⟩;have zl:=ue o;refine⟨_,rfl,t,_,1,.ref r,rfl,rfl,aAB ht,rfl,r,us,rfl,.inl (aAA hr'),?_⟩;refine⟨_,rfl,1,rfl,rfl,l,_,rfl,aAA hl,fun q1 nq1=>?_⟩;have s1:Same H (upd H q1 (.lst (cf o).reverse)):=ar nq1;have n1:NumP p (upd H q1 (.lst (cf o).reverse)) (.ref q1) (zs o).reverse:=⟨q1,rfl,dk.ne nq1,by rw [af,← jZ,ag2]⟩;generalize V.ref q1=z1 at *;generalize upd H q1 (.lst (cf o).reverse)=H1 at *;have dk1:=dk.same s1;have N1:=N0.same s1;refine⟨_,rfl,1,rfl,_,rfl,jN N1 dk1 fun z2 c2 H2 s2 n2 l2=>?_⟩;have dk2:=dk1.same s2;have N2:=N1.same s2;refine⟨_,rfl,lW 0 (fun R r=>r) dk2 fun w3 H3 s3 m3=>iW (N2.same s3) m3 (by rw [zl];show _+1<=_;lia) (dk2.same s3) fun z3 H4 s4 n3=>?_⟩;have dk4:=(dk2.same s3).same s4;have N4:=(N2.same s3).same s4;refine⟨_,rfl,lW ((us.length:Nat):Int) (fun R r=>⟨_,rfl,r⟩) dk4 fun w4 H5 s5 m4=>iW (N4.same s5) m4 (by rw [zl];show _+1<=_;lia) (dk4.same s5) fun z4 H6 s6 n4=>?_⟩;have dk6:=(dk4.same s5).same s6;have N6:=(N4.same s5).same s6;refine uk ((us.length:Nat):Int) (fun R r=>⟨_,rfl,r⟩) dk6 fun z5 H7 s7 n5=>?_;have dk7:=dk6.same s7;refine uk (-1) (fun R r=>⟨1,rfl,r⟩) dk7 fun z6 H8 s8 n6=>?_;have dk8:=dk7.same s8;have N8:=(N6.same s7).same s8;refine⟨_,rfl,1,rfl,jN N8 dk8 fun w7 c7 H9 s9 m7 l7=>⟨_,rfl,iW m7 (N8.same s9) (by lia) (dk8.same s9) fun z7 HA sA n7=>⟨by show 7<=sizeLine;decide,fun D nD=>?_⟩⟩⟩;have s2A:=((((((s3.trans s4).trans s5).trans s6).trans s7).trans s8).trans s9).trans sA;have s4A:=((((s5.trans s6).trans s7).trans s8).trans s9).trans sA;have s6A:=((s7.trans s8).trans s9).trans sA;have dkA:=(dk8.same s9).same sA;have all:NumsP p HA [z1,z2,z3,z4,z5,z6,z7] [(zs o).reverse,c2,zs o++[0],zs o++[((us.length:Nat):Int)],[((us.length:Nat):Int)],[-1],c7++zs o] :=
   .cons ((n1.same s2).same s2A) (.cons (n2.same s2A) (.cons (n3.same s4A) (.cons (n4.same s6A) (.cons (n5.same ((s8.trans s9).trans sA)) (.cons (n6.same (s9.trans sA)) (.cons n7 .nil))))))
  have sB:Same HA (upd HA D (.lst [z1,z2,z3,z4,z5,z6,z7])):=ar nD;have eD:(upd HA D (.lst [z1,z2,z3,z4,z5,z6,z7])) D=some (.lst [z1,z2,z3,z4,z5,z6,z7]):=af;have nDp:D≠p:=dkA.ne nD;have sz:∀ x∈[(zs o).reverse,c2,zs o++[0],zs o++[((us.length:Nat):Int)],[((us.length:Nat):Int)],[-1],c7++zs o],x.length<=30:=fun x hx=>by
   simp only [adO,aet,agy] at hx;rcases hx with e | e | e | e | e | e | e<;>rw [e]<;>(try simp)<;>lia
  have os7:[(zs o).reverse,c2,zs o++[0],zs o++[((us.length:Nat):Int)],[((us.length:Nat):Int)],[-1],c7++zs o].length<=7:=adL 7;generalize [(zs o).reverse,c2,zs o++[0],zs o++[((us.length:Nat):Int)],[((us.length:Nat):Int)],[-1],c7++zs o]=os at *;generalize [z1,z2,z3,z4,z5,z6,z7]=ys at *;have s0B:=((s1.trans s2).trans s2A).trans sB;have allB:=all.same sB;have dkB:=dkA.same sB;generalize upd HA D (.lst ys)=HB at *;have hlB:=s0B _ _ hl;have NB:=N0.same s0B;clear n1 n2 n3 n4 n5 n6 n7 m3 m4 m7 N1 N2 N4 N6 N8 dk1 dk2 dk4 dk6 dk7 dk8 dkA s2A s4A s6A s1 s2 s3 s4 s5 s6 s7 s8 s9 sA sB all;refine⟨fun σ H'=>SpI p (.ref t) l us.length H σ H',?_,?_⟩
  ·rintro σ H' ⟨D,ys,os,x5,x6,x7,rfl,b,d,nD,eD,n,m,os10⟩;exact⟨_,rfl,q D ys os H' b d nD eD n m os10⟩
  refine⟨_,rfl,ad7 _,fun e0 n0=>?_⟩;have sC:Same HB (upd HB e0 (.lst [])):=ar n0;refine oS (neg:=true) (a:=o) (b:=[]) (sC _ _ hlB) af hu' ⟨_,rfl,?_⟩;rw [if_pos rfl];generalize upd HB e0 (.lst [])=HC at *;have dkC:=dkB.same sC;have s0C:=s0B.trans sC;have hlC:=sC _ _ hlB;have NC:=NB.same sC;by_cases o0:o=[]
  ·rw [adY o0];exact eP (.mk D ys os none none none rfl (aD s0C) dkC nDp (sC _ _ eD) (allB.same sC) sz (by lia))
  rw [ad4 o0];have op:0 < o.length:=List.length_pos_iff.mpr o0;have nl:((cf o).length:Int)=((o.length:Nat):Int):=by unfold cf;rw [adG]
  have at_:∀ {r:Int},0<=r->r < ((o.length:Nat):Int)->∃ y:Int,atI (cf o) r=some (.int y):=fun {r} h0 h1=>by
   obtain⟨j,rfl⟩:∃ j:Nat,r=(j:Int):=⟨r.toNat,by lia⟩;have hj:j < o.length:=by lia
   exact⟨((o[j]:Nat):Int),cC (by rw [adK,adD hj];rfl)⟩
  refine gI ⟨_,rfl,_,rfl,l,_,rfl,.inl (aAA hlC),p,((o.length:Nat):Int),aeu (fun z=>[V.ref p,V.int z]) nl,dkC,by lia,by lia,fun r5 HD r50 r51 dkD bD=>?_⟩;refine⟨_,rfl,_,rfl,l,_,rfl,.inl (aAA (bD _ _ nlp hlC)),p,((o.length:Nat):Int),aeu (fun z=>[V.ref p,V.int z]) nl,dkD,by lia,by lia,fun r6 HE r60 r61 dkE bE=>?_⟩;have bCE:=bD.trans bE;have hlE:=bCE _ _ nlp hlC;have NE:=NC.but bCE;refine⟨_,rfl,l,_,rfl,.inl (aAA hlE),fun bn nb=>?_⟩;have nbp:bn≠p:=dkE.ne nb;have sF:Same HE (upd HE bn (.lst (cf o))):=ar nb;have eF:(upd HE bn (.lst (cf o))) bn=some (.lst ((zs o).map V.int)):=by rw [af,jZ]
  generalize upd HE bn (.lst (cf o))=HF at *;obtain⟨y6,ey6⟩:=at_ r60 r61;obtain⟨y5,ey5⟩:=at_ r50 r51;obtain⟨j5,rfl⟩:∃ j:Nat,r5=(j:Int):=⟨r5.toNat,by lia⟩;obtain⟨j6,rfl⟩:∃ j:Nat,r6=(j:Int):=⟨r6.toNat,by lia⟩;have nlb:l≠bn:=fun z=>by rw [z,nb] at hlE;cases hlE
  refine⟨_,rfl,_,rfl,l,_,_,_,rfl,rfl,aAA (sF _ _ hlE),ey6,_,rfl,_,rfl,bn,_,_,j5,rfl,rfl,eF,xh (by rw [adG,zl];lia),?_⟩;have hlG:(upd HF bn (.lst (((zs o).map V.int).set j5 (.int y6)))) l=some (.lst (cf o)):=by rw [aj nlb];exact sF _ _ hlE
  have eG:(upd HF bn (.lst (((zs o).map V.int).set j5 (.int y6)))) bn=some (.lst (((zs o).set j5 y6).map V.int)):=by rw [af,ait]
  refine⟨_,rfl,_,rfl,l,_,_,_,rfl,rfl,aAA hlG,ey5,_,rfl,_,rfl,bn,_,_,j6,rfl,rfl,eG,xh (by rw [adG,ahb,zl];lia),?_⟩;have sHE:Same HE (upd (upd HF bn (.lst (((zs o).map V.int).set j5 (.int y6)))) bn (.lst ((((zs o).set j5 y6).map V.int).set j6 (.int y5)))):=bT (bT sF nb) nb;have NH:NumP p (upd (upd HF bn (.lst (((zs o).map V.int).set j5 (.int y6)))) bn (.lst ((((zs o).set j5 y6).map V.int).set j6 (.int y5)))) (.ref bn) (((zs o).set j5 y6).set j6 y5):=⟨bn,rfl,nbp,by simp only [af,ait]⟩;generalize upd (upd HF bn (.lst (((zs o).map V.int).set j5 (.int y6)))) bn (.lst ((((zs o).set j5 y6).map V.int).set j6 (.int y5)))=HH at *;have dkH:=dkE.same sHE;have N9:=NE.same sHE;refine⟨_,rfl,_,rfl,_,rfl,_,rfl,_,rfl,jN N9 dkH fun w1 c1 K1 t1 m1 l1=>?_⟩;have dk1:=dkH.same t1;refine lW (-1 - ((j5:Nat):Int)) (fun R r=>⟨1,rfl,_,rfl,_,_,rfl,rfl,r⟩) dk1 fun w2 K2 t2 m2=>iW (m1.same t2) m2 (by show _+1<=_;lia) (dk1.same t2) fun w3 K3 t3 m3=>?_;have dk3:=(dk1.same t2).same t3;have t03:=(t1.trans t2).trans t3;refine⟨_,rfl,_,rfl,_,1,rfl,rfl,_,rfl,jN (N9.same t03) dk3 fun w4 c4 K4 t4 m4 l4=>iW (m3.same t4) m4 (by rw [adI];show _+1+_<=_;lia) (dk3.same t4) fun u1 K5 t5 v1=>?_⟩;have dk5:=(dk3.same t4).same t5;have t05:=(t03.trans t4).trans t5;refine⟨_,rfl,_,rfl,_,rfl,jN (N9.same t05) dk5 fun w5 c5 K6 t6 m5 l5=>?_⟩;have dk6:=dk5.same t6;refine lW ((10:Int) ^ (20:Int).toNat) (fun R r=>⟨10,20,rfl,rfl,⟨by decide,by decide,by decide⟩,r⟩) dk6 fun w6 K7 t7 m6=>iW (m5.same t7) m6 (by show _+1<=_;lia) (dk6.same t7) fun w7 K8 t8 m7=>?_;have dk8:=(dk6.same t7).same t8;have t08:=((t05.trans t6).trans t7).trans t8;refine⟨_,rfl,_,rfl,_,1,rfl,rfl,_,rfl,jN (N9.same t08) dk8 fun w8 c8 K9 t9 m8 l8=>iW (m7.same t9) m8 (by rw [adI];show _+1+_<=_;lia) (dk8.same t9) fun u2 KA tA v2=>⟨by show 3<=sizeLine;decide,fun Dn nDn=>?_⟩⟩;have dkA:=(dk8.same t9).same tA;have t0A:=(t08.trans t9).trans tA;have tB:Same KA (upd KA Dn (.lst [.ref bn,u1,u2])):=ar nDn;have eDn:(upd KA Dn (.lst [.ref bn,u1,u2])) Dn=some (.lst [.ref bn,u1,u2]):=af;have al:NumsP p KA [.ref bn,u1,u2] [((zs o).set j5 y6).set j6 y5,c1++[-1 - ((j5:Nat):Int)]++c4,c5++[(10:Int) ^ (20:Int).toNat]++c8] :=
   .cons (NH.same t0A) (.cons (v1.same ((((t6.trans t7).trans t8).trans t9).trans tA)) (.cons v2 .nil))
  generalize upd KA Dn (.lst [.ref bn,u1,u2])=KB at *;have bEnd:But p HC KB:=(bCE.trans (aD sHE)).trans (aD (t0A.trans tB));have eDB:=bEnd _ _ nDp (sC _ _ eD);have yl:=allB.1;refine⟨D,Dn,_,_,rfl,rfl,eDB,eDn,lt_size (by show _+3<=_;lia),fun Df nDf=>?_⟩;have dkB':=dkA.same tB;have tC:Same KB (upd KB Df (.lst (ys++[.ref bn,u1,u2]))):=ar nDf;refine .mk Df _ _ _ _ _ rfl ((aD s0C).trans (bEnd.trans (aD tC))) (dkB'.same tC) (dkB'.ne nDf) af (.app ((allB.same sC).but (bEnd.trans (aD tC))) (al.same (tB.trans tC))) (fun x hx=>?_) (by rw [adI];show _+3<=_;lia);rcases ad6.mp hx with m | m
  ·exact sz x m
  ·simp only [adO,aet,agy] at m;rcases m with e | e | e<;>rw [e]<;>(try simp)<;>lia
end
theorem ph {A:Around}{neg:Bool}{H:Hp}{x y:Addr}{vs:List V}{ls:List (List Nat)}{Q:VK}(hx:H x=some (.lst vs))(hy:H y=some (.lst []))(l:vs.length=ls.length)(h:∀ (i:Nat) v l,vs[i]? = some v->ls[i]? = some l->∃ a:Addr,v=.ref a/\H a=some (.lst (l.map fun n=>V.int ((n:Nat):Int))))(hu:A.units+1 < cLine)(q:Q (.bl (if neg then !ls.isEmpty else ls.isEmpty)) H):zP A neg (.ref x) (.ref y) H Q:=by
 refine⟨.list (ls.map fun l=>.list (gq l)),.list [],.lst hx (k9 l h),.lst hy .nil,by simp only [PyData.canLay0,nq],rfl,aeg (aeq (Nat.min_le_right _ _) _) hu,?_⟩;cases ls<;>exact q
def OrdsX (Z:List Addr)(H:Hp)(ys:List V)(os:List (List Nat)):Prop:=ys.length=os.length/\∀ (j:Nat) y o,ys[j]? = some y->os[j]? = some o->∃ b:Addr,y=.ref b/\H b=some (.lst (cf o))/\b ∉ Z
theorem OrdsX.at {Z:List Addr}{H:Hp}{ys:List V}{os:List (List Nat)}(a:OrdsX Z H ys os):OrdsAt H ys os:=⟨a.1,fun j y o e1 e2=>let ⟨b,e,h,_⟩:=a.2 j y o e1 e2;⟨b,e,h⟩⟩
theorem OrdsX.mono {Z Z':List Addr}{H H':Hp}{ys:List V}{os:List (List Nat)}(a:OrdsX Z H ys os)(s:∀ b u,b ∉ Z->H b=some u->H' b=some u/\b ∉ Z'):OrdsX Z' H' ys os:=⟨a.1,fun j y o e1 e2=>by
 obtain⟨b,e,h,n⟩:=a.2 j y o e1 e2;obtain⟨h1,h2⟩:=s b _ n h;exact⟨b,e,h1,h2⟩⟩
theorem OrdsX.app {Z:List Addr}{H:Hp}{ys zs:List V}{os ps:List (List Nat)}(a:OrdsX Z H ys os)(b:OrdsX Z H zs ps):OrdsX Z H (ys++zs) (os++ps):=by
 refine⟨by rw [adI,adI,a.1,b.1],fun j y o e1 e2=>?_⟩;have l:=a.1;by_cases hj:j < ys.length
 ·rw [ad0 hj] at e1;rw [ad0 (by lia)] at e2;exact a.2 j y o e1 e2
 ·rw [ad1 (by lia)] at e1;rw [ad1 (by lia)] at e2;rw [← l] at e2;exact b.2 _ y o e1 e2
theorem OrdsX.split {Z:List Addr}{H:Hp}{zs:List V}{po:List (List Nat)}{o:List Nat}(a:OrdsX Z H zs (po++[o])):∃ b:Addr,zs[zs.length - 1]? = some (.ref b)/\H b=some (.lst (cf o))/\b ∉ Z/\OrdsX Z H zs.dropLast po:=by
 have l:=a.1;rw [adI,ad8] at l;obtain⟨b,e,h,n⟩:=a.2 (zs.length - 1) _ o (adD (by lia)) (by rw [show zs.length - 1=po.length by lia,ad1 (adL _),af9];rfl);refine⟨b,by rw [adD (by lia),e],h,n,by rw [List.length_dropLast];lia,fun j y o' e1 e2=>?_⟩;rw [List.getElem?_dropLast] at e1;split at e1
 ·rename_i hj;exact a.2 j y o' e1 (by rw [ad0 (by lia)];exact e2)
 ·cases e1
theorem yO {h:Hs}{o:List Nat}(g:cy h.1 h.2 o):1<=(Every h o).length:=by
 rw [Every.step g];exact Nat.succ_pos _
theorem xP {h:Hs}:∀ {l:List (List Nat)},(∀ o∈l,cy h.1 h.2 o)->l.length<=(l.flatMap (Every h)).length
 | [],_=>ad7 _
 | o::l,g=>by
  have h1:=yO (g o adV);have h2:=xP (l:=l) fun x m=>g x (adN _ m);rw [afc,adI,aef];lia
structure PileI (h:Hs)(fo po:List (List Nat)):Prop where
 all:fo++po.reverse.flatMap (Every h)=Every h []
 gone:∀ o∈po,cy h.1 h.2 o
theorem PileI.next {h:Hs}{fo po:List (List Nat)}{o:List Nat}(p:PileI h fo (po++[o])):PileI h (fo++[o]) (po++(aZ h o).reverse.map fun k=>o++[k]):=by
 have g:cy h.1 h.2 o:=p.gone o (by simp);refine⟨?_,fun x hx=>?_⟩
 ·rw [← p.all,List.reverse_append,List.reverse_append,List.reverse_singleton,List.singleton_append,afc,Every.step g,← ag2,List.reverse_reverse,agq,List.flatMap_map,aer,agY]
  rfl
 ·rcases ad6.mp hx with m | m
  ·exact p.gone x (afI _ m)
  ·obtain⟨k,hk,rfl⟩:=ad5.mp m;exact aI g (List.mem_reverse.mp hk)
theorem PileI.few {h:Hs}{fo po:List (List Nat)}(p:PileI h fo po)(l:h.2.length<=6):fo.length+po.length<=(Every h []).length/\(Every h []).length<=1957:=by
 have h1:=xP (h:=h) (l:=po.reverse) fun o m=>p.gone o (List.mem_reverse.mp m);have h2:=aeu List.length p.all;rw [adI] at h2;rw [aff] at h1;exact⟨by lia,qh l⟩
def xB:Sp:=fun vs H Q _=>∃ (v:V) (h:Hs) (Zs:List Addr),vs=[v]/\(∀ z∈Zs,H z≠none)/\HouseAt H v h/\cB h/\h.2.length<=6/\∀ (D:Addr) (ys:List V) (H':Hp),Same H H'->H D=none->H' D=some (.lst ys)->OrdsX Zs H' ys (Every h [])->Q (.ref D) H'
inductive PoI (Zs:List Addr)(v:V)(h:Hs)(Fd:Addr)(H:Hp)(fo po:List (List Nat))(σ:L2.St)(H':Hp):Prop
 | mk (Pl:Addr) (x3:Option V) (ys zs:List V):σ=[some v,some (.ref Fd),some (.ref Pl),x3]->H' Fd=some (.lst ys)->H' Pl=some (.lst zs)->Fd≠Pl->H Pl=none->OrdsX (Fd::Pl::Zs) H' ys fo->OrdsX (Fd::Pl::Zs) H' zs po->PileI h fo po->Same H H'->PoI Zs v h Fd H fo po σ H'
section
variable {P:Program}{w:World}{K:PySem.W.Frag}{mg:Str->Option Value}{base:Heap}{f:Addr}{fd:FuncData}
theorem cP:aA ["house","found","pile","order"] ["house"] (ai dI):=scM rfl rfl rfl rfl (by decide +kernel)
theorem kL:(["k","order"]:List Str).Nodup:=by decide +kernel
theorem uS (F:Fun K "_law_orders" "_law_orders" dI f fd){f__law_next:Addr}{fd__law_next:FuncData}(i4:FnOk P w K mg base CX0 1 f__law_next fd__law_next ["house","order"] rp)(dw:Cal K mg "_law_next" ["house","order"] f__law_next fd__law_next):FnOk P w K mg base CX0 2 f fd ["house"] xB:=by
 refine F.ok cP (fun vs H Q E h=>?_) (fun cdv A outer s H vs Q E hr h=>?_)
 ·obtain⟨v,h,Zs,rfl,_⟩:=h
  rfl
 ·have hu:=dO hr;obtain⟨v,h,Zs,rfl,hz,hh,ok,l6,q⟩:=h;have lim:1000000 < sizeLine:=by decide
  refine⟨_,(ag (ay (i:=1) cP.nd rfl (.inl rfl) mh)
   (ag (ay (i:=2) cP.nd rfl (.inl rfl) (cg (ae mh ah)))
   (ag (bc (kQ aeh (aJ nY (pv 2) mh (bo _))
    (ag (ay (i:=3) cP.nd rfl (.inr rfl) (ab4 ad9 PySem.F.slot_list_pop PySem.F.type_list_pop acd (pv 2)))
    (ag (dy (pq ad9 aeO aeP dm (pv 1) (ae (pv 3) ah)))
    (ao (ay (i:=2) cP.nd rfl (.inl rfl) (aP eX (pv 2) (kI (tg:=.Name "k" _) (outer:=ai (dI)) (N:=["house","found","pile","order"]) (N':=["k","order"]) (nl:=1) (ix:=[3]) rfl rfl rfl (aX (v5 (pcl i4 dw hr rfl (ae (pv 0) (ae (pv 3) ah))) (oA jy ak)))
    (fun _ _ _ _=>(au (i:=0) kL rfl (.inl rfl) (.inr rfl))) (fun _ _ _ _=>dA)
    (fun _ _ _ _=>(aP eX (pv 1) (cg (ae (pv 0) ah))))))))))))
   (ao (aH (pv 1)))))),?_⟩
  refine⟨ad7 _,fun Fd nF=>?_⟩;have s1:Same H (upd H Fd (.lst [])):=ar nF;have eF:(upd H Fd (.lst [])) Fd=some (.lst []):=af;generalize upd H Fd (.lst [])=H1 at *;refine⟨ad7 _,fun e0 n0=>⟨by show 1<=sizeLine;decide,fun Pl nP=>?_⟩⟩;have s2:Same H1 (upd H1 e0 (.lst [])):=ar n0;have e0e:(upd H1 e0 (.lst [])) e0=some (.lst (cf [])):=af;have neF:e0≠Fd:=fun z=>by subst z;rw [eF] at n0;cases n0
  have eF2:=s2 _ _ eF;generalize upd H1 e0 (.lst [])=H2 at *;have s3:Same H2 (upd H2 Pl (.lst [.ref e0])):=ar nP;have neP:e0≠Pl:=fun z=>by subst z;rw [e0e] at nP;cases nP
  have neFP:Fd≠Pl:=fun z=>by subst z;rw [eF2] at nP;cases nP
  have neZ:e0 ∉ Zs:=fun m=>hz _ m (s1.free n0);refine⟨fun σ H'=>∃ fo,PoI Zs v h Fd H fo [] σ H',?_,?_⟩
  ·rintro σ H' ⟨fo,⟨Pl,x3,ys,zs,rfl,hF,hP,_,_,oF,_,pi,s⟩⟩;have e:=pi.all;rw [List.reverse_nil,List.flatMap_nil,aew] at e;subst e;exact⟨_,rfl,q Fd ys H' s nF hF (oF.mono fun b u n e=>⟨e,fun m=>n (adN _ (adN _ m))⟩)⟩
  ·refine⟨fun k σ H'=>∃ fo po,k=(Every h []).length - fo.length/\PoI Zs v h Fd H fo po σ H',⟨_,[],[[]],rfl,.mk Pl none [] [.ref e0] rfl (s3 _ _ eF2) af neFP ((s1.trans s2).free nP) ⟨rfl,fun j y o e=>nomatch e⟩ ⟨rfl,fun j y o e1 e2=>?_⟩ ⟨?_,fun o m=>?_⟩ ((s1.trans s2).trans s3)⟩,?_⟩
   ·cases j with
    | zero=>cases e1;cases e2;exact⟨e0,rfl,s3 _ _ e0e,by simp [neF,neP,neZ]⟩
    | succ j=>cases e1
   ·simp
   ·rw [adT.mp m];exact bX _ _
   rintro k σ H3 ⟨fo,po,rfl,⟨Pl,x3,ys,zs,rfl,hF,hP,nFP,nPl,oF,oP,pi,s⟩⟩;obtain⟨fl,ev⟩:=pi.few l6;refine⟨_,rfl,ad7 _,fun t nt=>?_⟩;have st:Same H3 (upd H3 t (.lst [])):=ar nt;refine ph (neg:=true) (st _ _ hP) af oP.1 (fun j y o e1 e2=>let ⟨b,e,hb,_⟩:=oP.2 j y o e1 e2;⟨b,e,st _ _ hb⟩) hu ⟨_,rfl,?_⟩;have hF4:=st _ _ hF;have hP4:=st _ _ hP;have s4:=s.trans st;have oF4:=oF.mono (Z':=Fd::Pl::Zs) fun b u n e=>⟨st _ _ e,n⟩;have oP4:=oP.mono (Z':=Fd::Pl::Zs) fun b u n e=>⟨st _ _ e,n⟩;generalize upd H3 t (.lst [])=H4 at *;rcases aga po with e | ⟨po,o,e⟩
   ·subst e;exact eP ⟨fo,.mk Pl x3 ys zs rfl hF4 hP4 nFP nPl oF4 oP4 pi s4⟩
   rw [agb] at e;subst e;obtain⟨b,ez,hb,nb,oP5⟩:=oP4.split;have g:cy h.1 h.2 o:=pi.gone o (by simp);have nbF:b≠Fd:=fun z=>nb (by rw [z];simp);have nbP:b≠Pl:=fun z=>nb (by rw [z];simp);rw [show (if true=true then !(po++[o]).isEmpty else (po++[o]).isEmpty)=true by simp];refine gI ⟨fun σ' H'=>∃ po',PoI Zs v h Fd H (fo++[o]) po' σ' H',fun σ' H' ⟨po',w⟩=>⟨_,?_,fo++[o],po',rfl,w⟩,?_⟩
   ·rw [adI] at fl;rw [adI,ad8];simp at fl;lia
   ·refine⟨_,rfl,.inl ⟨rfl,_,aAA hP4⟩,Pl,zs,_,rfl,rfl,hP4,ez,?_⟩;have p1:∀ c u,c≠Pl->H4 c=some u->(upd H4 Pl (.lst zs.dropLast)) c=some u:=fun c u n e=>by rw [aj n];exact e
    have hP5:(upd H4 Pl (.lst zs.dropLast)) Pl=some (.lst zs.dropLast):=af;have s5:Same H (upd H4 Pl (.lst zs.dropLast)):=bT s4 nPl;have hF5:=p1 _ _ nFP hF4;have hb5:=p1 _ _ nbP hb;have oF5:=oF4.mono (H':=upd H4 Pl (.lst zs.dropLast)) (Z':=Fd::Pl::Zs) fun c u n e=>⟨p1 _ _ (fun z=>n (by rw [z];simp)) e,n⟩;have oP6:=oP5.mono (H':=upd H4 Pl (.lst zs.dropLast)) (Z':=Fd::Pl::Zs) fun c u n e=>⟨p1 _ _ (fun z=>n (by rw [z];simp)) e,n⟩;generalize upd H4 Pl (.lst zs.dropLast)=H5 at *;refine⟨_,rfl,.inl ⟨rfl,_,aAA hF5⟩,_,rfl,Fd,_,_,rfl,rfl,hF5,by rw [oF5.1];lia,?_⟩;have p2:∀ c u,c≠Fd->H5 c=some u->(upd H5 Fd (.lst (ys++[.ref b]))) c=some u:=fun c u n e=>by rw [aj n];exact e
    have hF6:(upd H5 Fd (.lst (ys++[.ref b]))) Fd=some (.lst (ys++[.ref b])):=af;have s6:Same H (upd H5 Fd (.lst (ys++[.ref b]))):=bT s5 nF;have hP6:=p2 _ _ (aeL nFP) hP5;have hb6:=p2 _ _ nbF hb5;have oF6:=oF5.mono (H':=upd H5 Fd (.lst (ys++[.ref b]))) (Z':=Fd::Pl::Zs) fun c u n e=>⟨p2 _ _ (fun z=>n (by rw [z];simp)) e,n⟩;have oP7:=oP6.mono (H':=upd H5 Fd (.lst (ys++[.ref b]))) (Z':=Fd::Pl::Zs) fun c u n e=>⟨p2 _ _ (fun z=>n (by rw [z];simp)) e,n⟩;generalize upd H5 Fd (.lst (ys++[.ref b]))=H6 at *;have oF7:OrdsX (Fd::Pl::Zs) H6 (ys++[.ref b]) (fo++[o]):=oF6.app ⟨rfl,fun j y x e1 e2=>by
     cases j with
     | zero=>cases e1;cases e2;exact⟨b,rfl,hb6,nb⟩
     | succ j=>cases e1⟩
    dsimp only [yg,cw];refine⟨_,rfl,?_⟩;refine aQ _ _ _ _ _ _ _ _ _ ?_;refine⟨_,rfl,_,rfl,v,b,h,o,rfl,hh.same s6,ok,hb6,g,by lia,fun D1 H7 s7 nD1 eD1=>?_⟩;refine⟨1,rfl,rfl,D1,_,rfl,aAA eD1,fun R nR=>⟨R,rfl,⟨_,aAA af⟩,fun D nD=>?_⟩⟩;have s8:Same H7 (upd H7 R (.lst (cf (aZ h o)).reverse)):=ar nR;have eR:(upd H7 R (.lst (cf (aZ h o)).reverse)) R=some (.lst (cf (aZ h o)).reverse):=af;generalize upd H7 R (.lst (cf (aZ h o)).reverse)=H8 at *;have s68:=s7.trans s8;have nl:=tD g;have ol:=dF g;refine va (ks:=(aZ h o).reverse) (pb:=fun _=>true) (F:=fun k=>cf (o++[k])) eR nD (by rw [aff,adG];lia) (by rw [aff,aff,adG]) (fun x=>rfl) (fun G j x k R _ _ sG r=>r G (Same.refl G)) (fun G j x k R ex ek _ sG r=>?_) fun us G sG eD rl=>?_
    ·have exk:x=.int ((k:Nat):Int):=by
      rw [← ag2,adK,ek] at ex;cases ex
      rfl
     subst exk;refine⟨_,rfl,_,rfl,by show 1<=sizeLine;decide,fun l1 m1=>?_⟩;have g1:Same G (upd G l1 (.lst [.int ((k:Nat):Int)])):=ar m1;refine⟨b,l1,_,_,rfl,rfl,g1 _ _ (sG _ _ (s68 _ _ hb6)),af,by rw [adG,ad8];lia,fun p np=>?_⟩;refine r p _ (g1.trans (ar np)) (g1.free np) ?_;rw [af];refine aeu (fun z=>some (HO.lst z)) ?_;show _=(o++[k]).map _;rw [adW]
     rfl
    rw [List.filter_eq_self.mpr (fun _ _=>rfl)] at rl;have s6G:=s68.trans sG;have hP8:=s6G _ _ hP6;have hF8:=s6G _ _ hF6;refine⟨Pl,D,_,_,rfl,rfl,hP8,eD,?_,fun Pn nPn=>?_⟩
    ·rw [oP7.1,rl.len,aff];rw [adI] at fl;lia
    have sN:Same G (upd G Pn (.lst (zs.dropLast++us))):=ar nPn;have nFN:Fd≠Pn:=fun z=>by subst z;rw [hF8] at nPn;cases nPn
    have nA:∀ c u,H6 c=some u->c≠Pn:=fun c u e z=>by subst z;rw [s6G _ _ e] at nPn;cases nPn
    refine⟨_,.mk Pn _ _ _ rfl (sN _ _ hF8) af nFN ((s6.trans s6G).free nPn) (oF7.mono fun c u n e=>⟨sN _ _ (s6G _ _ e),?_⟩) (OrdsX.app (oP7.mono fun c u n e=>⟨sN _ _ (s6G _ _ e),?_⟩) ?_) (PileI.next pi) (s6.trans (s6G.trans sN))⟩
    ·simp only [adO,not_or];exact⟨fun z=>n (by rw [z];simp),nA c u e,fun m=>n (adN _ (adN _ m))⟩
    ·simp only [adO,not_or];exact⟨fun z=>n (by rw [z];simp),nA c u e,fun m=>n (adN _ (adN _ m))⟩
    ·refine⟨by rw [rl.len,adG],fun j y x e1 e2=>?_⟩;rw [adK] at e2;obtain⟨k,ek,rfl⟩:=afz.mp e2;obtain⟨c,e,hc,nD',n0⟩:=rl.at_ j y k e1 ek;refine⟨c,e,sN _ _ hc,?_⟩;simp only [adO,not_or];refine⟨fun z=>?_,fun z=>?_,fun m=>hz _ m ((s6.trans s68).free n0)⟩
     ·subst z;rw [s68 _ _ hF6] at n0;cases n0
     ·subst z;rw [hc] at nPn;cases nPn
end
theorem wO {h:Hs}(l:h.2.length<=12)(r4:∀ r∈h.2,r.1.length<=4):vm h:=fun L nd hL=>by
 have e:(h.2.flatMap (·.1)).length<=4 * h.2.length:=by
  have:∀ rs:List Rm,(∀ r∈rs,r.1.length<=4)->(rs.flatMap (·.1)).length<=4 * rs.length:=fun rs=>by
   induction rs with
   | nil=>intro _;exact ad7 _
   | cons r rs ih =>
    intro q;rw [afc,adI,aef];have a:=q r adV;have b:=ih fun x hx=>q x (adN _ hx);lia
  exact this _ r4
 have:=gE nd (U:=h.2.flatMap (·.1)) fun x hx=>by
  obtain⟨r,hr,hx⟩:=hL x hx;exact ag1.mpr ⟨r,hr,hx⟩
 lia
theorem HsU.ok {U:List Str}{n:Nat}{h:Hs}(x:HsU U n h)(l:n<=12):cB h:=by
 refine⟨fun k hk=>x.kk k (x.bg k hk),by have:=x.bl;lia,fun r hr=>?_,by have:=x.rl;lia⟩;have y:=x.rm r hr;exact⟨fun k hk=>x.kk k (y.lk k hk),y.l1,y.l4,y.so,fun k hk=>x.kk k (y.wi k hk),by have:=y.w6;lia⟩
def km (H:Hp)(v:V):List Nat:=(L2.numsOf H v).map Int.toNat
theorem jv {H:Hp}{a:Addr}{o:List Nat}(e:H a=some (.lst (cf o))):km H (.ref a)=o/\L2.numsOf H (.ref a)=zs o:=by
 have e2:H a=some (.lst ((zs o).map V.int)):=by rw [e,ael];rfl
 have:=L2.numsOf_at e2;refine⟨?_,this⟩;unfold km;rw [this,ael];exact af2 _
theorem OrdsZ.same {H H':Hp}{ys:List V}{ls:List (List Int)}(a:OrdsZ H ys ls)(s:Same H H'):OrdsZ H' ys ls:=⟨a.1,fun j y o e1 e2=>let ⟨b,e,h⟩:=a.2 j y o e1 e2;⟨b,e,s _ _ h⟩⟩
theorem OrdsAt.z {H:Hp}{ys:List V}{os:List (List Nat)}(a:OrdsAt H ys os):OrdsZ H ys (os.map zs):=⟨by rw [adG];exact a.1,fun j y l e1 e2=>by
 rw [adK] at e2;obtain⟨o,eo,rfl⟩:=afz.mp e2;obtain⟨b,e,h⟩:=a.2 j y o e1 eo;exact⟨b,e,by rw [h,ael];rfl⟩⟩
theorem zR {A:Around}{neg:Bool}{H:Hp}{u v:V}{h:Hs}{Q:VK}(hu':HouseAt H u h)(hv:HouseAt H v h)(ok:cB h)(hu:A.units+5 < cLine)(q:Q (.bl (if neg then false else true)) H):zP A neg u v H Q:=by
 refine⟨bx h,bx h,j8 hu',j8 hv,pS ok,pS ok,aeg (aeq (adZ (afV _ _) (adZ (qZ h) (by decide:_<=5))) _) hu,?_⟩;rw [wo];cases neg<;>exact q
theorem OrdsX.cons {Z:List Addr}{H:Hp}{y:V}{o:List Nat}{ys:List V}{os:List (List Nat)}(a:∃ b:Addr,y=.ref b/\H b=some (.lst (cf o))/\b ∉ Z)(b:OrdsX Z H ys os):OrdsX Z H (y::ys) (o::os):=⟨aeu (· + 1) b.1,fun j z q e1 e2=>by
 cases j with
 | zero=>cases e1;cases e2;exact a
 | succ j=>exact b.2 j z q e1 e2⟩
theorem OrdsX.filter {Z:List Addr}{H:Hp}{pb:V->Bool}{qb:List Nat->Bool}:∀ {ys:List V} {os:List (List Nat)},OrdsX Z H ys os->(∀ (j:Nat) y o,ys[j]? = some y->os[j]? = some o->pb y=qb o)->OrdsX Z H (ys.filter pb) (os.filter qb)
 | [],[],_,_=>⟨rfl,fun j y o e=>by simp at e⟩
 | [],_::_,a,_=>absurd a.1 (by simp)
 | _::_,[],a,_=>absurd a.1 (by simp)
 | y::ys,o::os,a,e=>by
  have t:=OrdsX.filter (pb:=pb) (qb:=qb) (ys:=ys) (os:=os) ⟨by have:=a.1;simpa using this,fun j z q e1 e2=>a.2 (j+1) z q e1 e2⟩ fun j z q e1 e2=>e (j+1) z q e1 e2;rw [aea,aea,e 0 y o rfl rfl];cases hq:qb o with
  | true=>exact .cons (a.2 0 y o rfl rfl) t
  | false=>exact t
theorem OrdsX.take {Z:List Addr}{H:Hp}{ys:List V}{os:List (List Nat)}(a:OrdsX Z H ys os)(n:Nat):OrdsX Z H (ys.take n) (os.take n):=⟨by rw [aeb,aeb,a.1],fun j y o e1 e2=>by
 rw [afB] at e1 e2;split at e1
 ·rename_i h;rw [if_pos h] at e2;exact a.2 j y o e1 e2
 ·cases e1⟩
theorem xo {xs:List V}{k:Nat}:fj xs none (some (k:Int))=xs.take (min k xs.length):=by
 unfold fj;rw [HT.sIx_none,HT.sIx_nat,Nat.sub_zero,ahF]
theorem sr {xs:List V}{lo hi:Option Int}{x:V}(h:x∈fj xs lo hi):x∈xs:=by
 unfold fj at h;exact List.mem_of_mem_drop (agg h)
def AllP (p:Addr)(H:Hp)(ys:List V):Prop:=∀ y∈ys,∃ o:List Int,NumP p H y o/\o.length<=30
theorem AllP.but {p:Addr}{H H':Hp}{ys:List V}(a:AllP p H ys)(b:But p H H'):AllP p H' ys:=fun y hy=>let ⟨o,n,l⟩:=a y hy;⟨o,n.but b,l⟩
theorem AllP.app {p:Addr}{H:Hp}{ys zs:List V}(a:AllP p H ys)(b:AllP p H zs):AllP p H (ys++zs):=fun y hy=>(ad6.mp hy).elim (a y) (b y)
theorem NumsP.all {p:Addr}{H:Hp}{ys:List V}{os:List (List Int)}(a:NumsP p H ys os)(b:∀ o∈os,o.length<=30):AllP p H ys:=fun y hy=>by
 obtain⟨j,hj⟩:=aeH hy;have h1:=(adF.mp hj).1;have l:=a.1;have e2:=adD (show j < os.length by lia);exact⟨_,a.2 j y _ hj e2,b _ (adR e2)⟩
theorem OrdsX.num {p:Addr}{H:Hp}{ys:List V}{os:List (List Nat)}(a:OrdsX [p] H ys os){y:V}(hy:y∈ys):∃ (b:Addr) (o:List Nat),y=.ref b/\b≠p/\H b=some (.lst (cf o))/\o∈os:=by
 obtain⟨j,hj⟩:=aeH hy;have h1:=(adF.mp hj).1;have l:=a.1;have e2:=adD (show j < os.length by lia);obtain⟨b,e,hb,n⟩:=a.2 j y _ hj e2;exact⟨b,_,e,fun z=>n (by rw [z];exact adT.mpr rfl),hb,adR e2⟩
theorem OrdsX.butp {p:Addr}{H H':Hp}{ys:List V}{os:List (List Nat)}(a:OrdsX [p] H ys os)(b:But p H H'):OrdsX [p] H' ys os:=a.mono fun c u n e=>⟨b _ _ (fun z=>n (by rw [z];exact adT.mpr rfl)) e,n⟩
theorem wI {h:Hs}{o:List Nat}(m:o∈Due h):∃ j,∃ hj:j < ((Due h).map zs).length,rkF h [] o=j/\((Due h).map zs)[j]=zs o/\∀ i (hi:i < ((Due h).map zs).length),i < j->((Due h).map zs)[i]≠zs o:=by
 obtain⟨j,hj⟩:=aeH m;obtain⟨h1,e1⟩:=adF.mp hj;refine⟨j,by rw [adG];exact h1,uh hj,by rw [agd,e1],fun i hi lt e=>?_⟩;rw [agd] at e;rw [adG] at hi;have e:=qc e;have r1:=uh (adD hi);rw [e,uh hj] at r1;lia
def yi (K:PySem.W.Frag):Sp:=fun vs H Q _=>∃ (a:Addr) (ns:List Int),vs=[.ref a]/\SqL K H a (ns.map V.int)/\∀ H',Q (.bl true) H'
inductive ZaI (a:Addr)(H:Hp)(σ:L2.St)(H':Hp):Prop
 | mk (x1 x2 x3 x4 x5 x6 x7 x8 x9 x10 x11 x12:Option V):σ=[some (.ref a),x1,x2,x3,x4,x5,x6,x7,x8,x9,x10,x11,x12]->Same H H'->ZaI a H σ H'
inductive ZbI (a:Addr)(x1:Option V)(p:Addr)(v:V)(El D1 D2:Addr)(u:V)(x10 x11 x12:Option V)(H:Hp)(σ:L2.St)(H':Hp):Prop
 | mk (x8 x9:Option V):σ=[some (.ref a),x1,some (.ref p),some v,some (.ref El),some (.ref D1),some (.ref D2),some u,x8,x9,x10,x11,x12]->Same H H'->ZbI a x1 p v El D1 D2 u x10 x11 x12 H σ H'
inductive ZcI (a:Addr)(x1:Option V)(p:Addr)(v:V)(El D1 D2:Addr)(u:V)(x8 x9 x12:Option V)(n:Nat)(H:Hp)(σ:L2.St)(H':Hp):Prop
 | mk (So:Addr) (so:List V) (x11:Option V):σ=[some (.ref a),x1,some (.ref p),some v,some (.ref El),some (.ref D1),some (.ref D2),some u,x8,x9,some (.ref So),x11,x12]->But p H H'->PoolD H' p->So≠p->H' So=some (.lst so)->so.length<=1000+10 * n->AllP p H' so->ZcI a x1 p v El D1 D2 u x8 x9 x12 n H σ H'
inductive ZdI (a:Addr)(x1:Option V)(p:Addr)(v:V)(El D1 D2:Addr)(u:V)(x8 x9:Option V)(So:Addr)(H:Hp)(σ:L2.St)(H':Hp):Prop
 | mk (x11 x12:Option V):σ=[some (.ref a),x1,some (.ref p),some v,some (.ref El),some (.ref D1),some (.ref D2),some u,x8,x9,some (.ref So),x11,x12]->Same H H'->ZdI a x1 p v El D1 D2 u x8 x9 So H σ H'
section
variable {P:Program}{w:World}{K:PySem.W.Frag}{mg:Str->Option Value}{base:Heap}{f:Addr}{fd:FuncData}{cN cO:Addr}
theorem eg:aA ["script","k","pool","house","every","due","stuck","handed","found","number","some","order","kept"] ["script"] (ai ua):=scM rfl rfl rfl rfl (by decide +kernel)
theorem tT:(["order","house"]:List Str).Nodup:=by decide +kernel
theorem abE (F:Fun K "law" "law" acH f fd)
 {f__law_pool:Addr}{fd__law_pool:FuncData}(rO:FnOk P w K mg base CX0 1 f__law_pool fd__law_pool ["script","k"] (xY K))(i5:Cal K mg "_law_pool" ["script","k"] f__law_pool fd__law_pool)
 {f__law_draw:Addr}{fd__law_draw:FuncData}(az:FnOk P w K mg base CX0 1 f__law_draw fd__law_draw ["pool","many"] nr)(ax:Cal K mg "_law_draw" ["pool","many"] f__law_draw fd__law_draw)
 {f__law_house:Addr}{fd__law_house:FuncData}(qQ:FnOk P w K mg base CX0 3 f__law_house fd__law_house ["pool","many"] tY)(hU:Cal K mg "_law_house" ["pool","many"] f__law_house fd__law_house)
 {f__law_orders:Addr}{fd__law_orders:FuncData}(oJ:FnOk P w K mg base CX0 2 f__law_orders fd__law_orders ["house"] xB)(gm:Cal K mg "_law_orders" ["house"] f__law_orders fd__law_orders)
 {f__law_next:Addr}{fd__law_next:FuncData}(i4:FnOk P w K mg base CX0 1 f__law_next fd__law_next ["house","order"] rp)(dw:Cal K mg "_law_next" ["house","order"] f__law_next fd__law_next)
 {f__law_copy:Addr}{fd__law_copy:FuncData}(gA:FnOk P w K mg base CX0 5 f__law_copy fd__law_copy ["thing"] (ach 4))(bp:Cal K mg "_law_copy" ["thing"] f__law_copy fd__law_copy)
 {f__law_no_number:Addr}{fd__law_no_number:FuncData}(kN:FnOk P w K mg base CX0 9 f__law_no_number fd__law_no_number ["house","k"] zB)(dX:Cal K mg "_law_no_number" ["house","k"] f__law_no_number fd__law_no_number)
 {f__law_number:Addr}{fd__law_number:FuncData}(jr:FnOk P w K mg base CX0 9 f__law_number fd__law_number ["house","order"] zU)(eB:Cal K mg "_law_number" ["house","order"] f__law_number fd__law_number)
 {f__law_each_right:Addr}{fd__law_each_right:FuncData}(jW:FnOk P w K mg base CX0 9 f__law_each_right fd__law_each_right ["house","due"] w9)(dC:Cal K mg "_law_each_right" ["house","due"] f__law_each_right fd__law_each_right)
 {f__law_spoilt:Addr}{fd__law_spoilt:FuncData}(pf:FnOk P w K mg base CX0 2 f__law_spoilt fd__law_spoilt ["pool","house","order"] p7)(gu:Cal K mg "_law_spoilt" ["pool","house","order"] f__law_spoilt fd__law_spoilt)
 {f_how_many_orders:Addr}{fd_how_many_orders:FuncData}(jT:FnOk P w K mg base CX0 8 f_how_many_orders fd_how_many_orders ["house"] zF)(du:Cal K mg "how_many_orders" ["house"] f_how_many_orders fd_how_many_orders)
 {f_how_many_stuck:Addr}{fd_how_many_stuck:FuncData}(kG:FnOk P w K mg base CX0 8 f_how_many_stuck fd_how_many_stuck ["house"] vw)(dY:Cal K mg "how_many_stuck" ["house"] f_how_many_stuck fd_how_many_stuck)(cI:mg "len" = none)(bU:mg "range" = none)(aaa:mg "max" = none)(aaO:mg "min" = none)(mX:mg "int" = none)(nB:mg "bool" = none)(av:mg "isinstance" = none)(bj:mg "list" = none):FnOk P w K mg base CX0 11 f fd ["script"] (yi K):=by
 refine F.ok eg (fun vs H Q E h=>?_) (fun cdv A outer s H vs Q E hr h=>?_)
 ·obtain⟨a,ns,rfl,_⟩:=h
  rfl
 ·obtain⟨a,ns,rfl,hS,k⟩:=h;have hu:=dO hr;have lim:1000000 < sizeLine:=by decide
  have deep:∀ {n:Nat},n<=12->(A.deeper (envOfC "law" (ai acH) s.heap.objs.size f cdv)).units+(n+1) < cLine:=fun {n} h=>aeg (aeq (adZ (agX h) (by decide:13<=64)) _) hr.units;refine⟨_,(ag (bc (cX aeh rfl (eQ rfl bU (ae (aw (vH rfl) rfl aaa (by decide +kernel) (ae ak (ae (aw (xa rfl) rfl aaO (by decide +kernel) (ae ak (ae (aw aB rfl cI aep (ae (pv 0) ah)) ah))) ah))) ah)) (au (i:=1) eg.nd rfl (.inl rfl))
   (ag (ay (i:=2) eg.nd rfl (.inl rfl) (pcl rO i5 (hr.mono (by decide:1<=10)) rfl (ae (pv 0) (ae (pv 1) ah))))
   (ag (ay (i:=3) eg.nd rfl (.inr rfl) (pcl qQ hU (hr.mono (by decide:3<=10)) rfl (ae (pv 2) (ae (bW bR (cg (ae (pcl az ax (hr.mono (by decide:1<=10)) rfl (ae (pv 2) (ae ak ah))) (ae ak ah))) (dU qD rfl mX (by decide +kernel) (ae (gW vg (pcl az ax (hr.mono (by decide:1<=10)) rfl (ae (pv 2) (ae ak ah))) ak (bo _)) ah)) (fun _ _=>rfl)) ah))))
   (ag (ay (i:=4) eg.nd rfl (.inl rfl) (pcl oJ gm (hr.mono (by decide:2<=10)) rfl (ae (pv 3) ah)))
   (ag (rP (i:=5) (tg:=.Name "order" _) (outer:=ai (ua)) (N:=["script","k","pool","house","every","due","stuck","handed","found","number","some","order","kept"]) (N':=["order","house"]) (nl:=1) (ix:=[3]) eg.nd rfl (.inl rfl) rfl rfl rfl (aX (pv 4))
   (fun _ _ _ _=>(au (i:=0) tT rfl (.inl rfl) (.inr rfl))) (fun _ _ _ _=>(hE (aJ vg (aw (lV (K:=K) rfl) rfl cI aep (ae (pv 0) ah)) (aw (lV (K:=K) rfl) rfl cI aep (ae (bW (sU (K:=K) rfl) (pv 1) ak (fun _ _=>rfl)) ah)) (bo _))))
   (fun _ _ _ _=>(pv 0)))
   (ag (rP (i:=6) (tg:=.Name "order" _) (outer:=ai (ua)) (N:=["script","k","pool","house","every","due","stuck","handed","found","number","some","order","kept"]) (N':=["order","house"]) (nl:=1) (ix:=[3]) eg.nd rfl (.inl rfl) rfl rfl rfl (aX (pv 4))
   (fun _ _ _ _=>(au (i:=0) tT rfl (.inl rfl) (.inr rfl))) (fun _ _ _ _=>(hE (aJ (aaR (A₁:=A.deeper (envOfC "law" (ai ua) s.heap.objs.size f cdv)) rfl) (pcl i4 dw (hr.mono (by decide:1<=10)) rfl (ae (pv 1) (ae (pv 0) ah))) mh (bo _))))
   (fun _ _ _ _=>(pv 0)))
   (ag (ay (i:=7) eg.nd rfl (.inl rfl) (pcl gA bp (hr.mono (by decide:5<=10)) rfl (ae (pv 3) ah)))
   (ag (bc (cX aeh rfl (aX (cg (ae (oo (ae (pcl jT du (hr.mono (by decide:8<=10)) rfl (ae (pv 7) ah)) (ae (aw aB rfl cI aep (ae (pv 5) ah)) ah))) (ae (oo (ae (pcl kG dY (hr.mono (by decide:8<=10)) rfl (ae (pv 7) ah)) (ae (aw aB rfl cI aep (ae (pv 6) ah)) ah))) ah)))) (kh rfl (aF (au (i:=8) eg.nd rfl (.inl rfl)) (aF (au (i:=9) eg.nd rfl (.inl rfl)) c6)))
    (ao (dN (PW.pt (lX (fu (fb (aw aO rfl av (by decide +kernel) (ae (pv 8) (ae (dv (v:=.ty "int") (u:=.type "int") rfl mX (by decide +kernel) rfl) ah))))) (lX (fb (aw aO rfl av (by decide +kernel) (ae (pv 8) (ae (dv (v:=.ty "bool") (u:=.type "bool") rfl nB (by decide +kernel) rfl) ah)))) (jm (aJ rR (pv 8) (pv 9) (bo _))))))
     (ao (aH lO)) aS))))
   (ag (dN (PW.pt (lX (fu (fb (pcl jW dC (hr.mono (by decide:9<=10)) rfl (ae (pv 7) (ae (dH fQ (pv 5) fU (fP ak)) ah))))) (jm (aJ nY (pv 7) (pv 3) (bo _)))))
    (ao (aH lO)) aS)
   (ag (bc (cX aeh rfl (aX (cg (ae (oA jy ak) (ae (aw aB rfl cI aep (ae (pv 5) ah)) (ae (aP g0 (aw aB rfl cI aep (ae (pv 5) ah)) (pcl az ax (hr.mono (by decide:1<=10)) rfl (ae (pv 2) (ae (aP tI ak ak) ah)))) (ae (aP tG (oA jy ak) (pcl az ax (hr.mono (by decide:1<=10)) rfl (ae (pv 2) (ae (aP tI ak ak) ah)))) ah)))))) (au (i:=9) eg.nd rfl (.inl rfl))
    (ao (dN (fu (fb (pcl kN dX (hr.mono (by decide:9<=10)) rfl (ae (pv 7) (ae (pv 9) ah)))))
     (ao (aH lO)) aS))))
   (ag (ay (i:=10) eg.nd rfl (.inl rfl) (aP eX (cg (ae mh (ae (pH rfl bj rfl bU rfl (ae (aw aB rfl cI aep (ae (bW eY (pv 3) ak (fun _ _=>rfl)) ah)) ah)) ah))) (dH fQ (pv 4) (fP (oA jy ak)) fU)))
   (ag (bc (cX aeh rfl (aX (aP eX (dH fQ (pv 5) fU (fP ak)) (dH fQ (pv 5) (fP (oA jy ak)) fU))) (au (i:=11) eg.nd rfl (.inl rfl))
    (ao (ay (i:=10) eg.nd rfl (.inl rfl) (aP eX (pv 10) (pcl pf gu (hr.mono (by decide:2<=10)) rfl (ae (pv 2) (ae (pv 3) (ae (pv 11) ah)))))))))
   (ao (bc (cX aeh rfl (aX (pv 10)) (au (i:=11) eg.nd rfl (.inl rfl))
    (ag (ay (i:=12) eg.nd rfl (.inl rfl) (dU fv rfl bj (by decide +kernel) (ae (pv 11) ah)))
    (ag (bc (dN (aJ abC (pv 11) (pv 5) rfl)
     (ao (dN (aJ rR (pcl jr eB (hr.mono (by decide:9<=10)) rfl (ae (pv 7) (ae (pv 12) ah))) (pq ad9 agW PySem.F.type_list_index wR (pv 5) (ae (pv 11) ah)) (bo _))
      (ao (aH lO)) aS)) (ao (dN (aJ rR (pcl jr eB (hr.mono (by decide:9<=10)) rfl (ae (pv 7) (ae (pv 12) ah))) b0 (bo _))
      (ao (aH lO)) aS))))
    (ao (dN (PW.pt (lX (aJ nY (pv 12) (pv 11) (bo _)) (jm (aJ nY (pv 7) (pv 3) (bo _)))))
     (ao (aH lO)) aS))))))))))))))))))))
   (ao (aH lO))),?_⟩
  refine⟨fun σ H'=>ZaI a H σ H',?_,?_⟩
  ·rintro σ H' ⟨x1,x2,x3,x4,x5,x6,x7,x8,x9,x10,x11,x12,rfl,_⟩;exact k H'
  refine⟨_,rfl,a,_,rfl,.inl hS,4,_,rfl,1,_,rfl,_,rfl,?_,?_,?_⟩
  ·split<;>split<;>lia
  ·split<;>split<;>lia
  refine f9 (fun i σ H'=>ZaI a H σ H') ⟨none,none,none,none,none,none,none,none,none,none,none,none,rfl,Same.refl H⟩ ?_ (fun σ H' z=>z);rintro i σ H1 hi ⟨x1,x2,x3,x4,x5,x6,x7,x8,x9,x10,x11,x12,rfl,s1⟩;have i0:(0:Int)+((i:Nat):Int)=((i:Nat):Int):=Int.zero_add _;refine⟨_,rfl,_,rfl,a,i,ns,aeu (fun z=>[V.ref a,V.int z]) i0,s1.seq hS,fun p H2 np s2 dk2=>?_⟩;refine⟨_,rfl,_,rfl,p,6,rfl,dk2,by decide,by decide,fun r6 H3 r60 r61 dk3 b3=>⟨by show 2<=sizeLine;decide,fun l2 n2=>?_⟩⟩;have s3:Same H3 (upd H3 l2 (.lst [.int r6,.int 6])):=ar n2;have e3:(upd H3 l2 (.lst [.int r6,.int 6])) l2=some (.lst [.int r6,.int 6]):=af;have n2p:l2≠p:=dk3.ne n2;generalize upd H3 l2 (.lst [.int r6,.int 6])=H4 at *;refine⟨_,rfl,p,4,rfl,dk3.same s3,by decide,by decide,fun r4 H5 r40 r41 dk5 b5=>⟨rfl,.inr ⟨_,rfl,?_⟩⟩⟩;obtain⟨n,hn6,en⟩:∃ n:Nat,n<=6/\atI [V.int r6,V.int 6] (if decide (V.int r4=V.int 1)=true then 1 else 0)=some (.int ((n:Nat):Int)):=by
   by_cases e:decide (V.int r4=V.int 1)=true
   ·rw [if_pos e];exact⟨6,by lia,cC (j:=1) rfl⟩
   ·rw [if_neg e];refine⟨r6.toNat,by lia,?_⟩;rw [show ((r6.toNat:Nat):Int)=r6 by lia];exact cC (j:=0) rfl
  refine⟨l2,_,_,_,rfl,rfl,aAA (b5 _ _ n2p e3),en,?_⟩;refine⟨p,n,rfl,dk5,by lia,fun v h U H6 hh hs dk6 b6=>?_⟩;have s16:Same H1 H6:=fun b u e=>by
   have nb:b≠p:=aq e np;exact b6 _ _ nb (b5 _ _ nb (s3 _ _ (b3 _ _ nb (s2 _ _ e))))
  have ok:=hs.ok (show n<=12 by lia);have rl:=hs.rl;have l6:h.2.length<=6:=by lia
  have l12:h.2.length<=12:=by lia
  have few:vm h:=wO l12 fun r hr=>(ok.rs r hr).l4;obtain⟨tt,a1,rr,us,ev,htH,_,hrH,hRH⟩:=id hh;have ul:us.length=h.2.length:=hRH.1;refine⟨_,rfl,v,h,[p],rfl,fun z hz=>?_,hh,ok,l6,fun El ys H8 s8 nE eE oE=>?_⟩
  ·rw [adT.mp hz];obtain⟨_,_,_,e⟩:=dk6;rw [e];exact fun z=>nomatch z
  have el:=qh l6;have yl:=oE.1;have hh8:=hh.same s8;have s18:=s16.trans s8;have dk8:=dk6.same s8;have nEp:El≠p:=dk6.ne nE;have htH8:=s8 _ _ htH;have hrH8:=s8 _ _ hrH;clear s2 b3 s3 e3 b5 b6 s16 hh htH hrH hRH dk2 dk3 dk5 n2 n2p r60 r61 r40 r41 dk6;have ref_of:∀ y∈ys,∃ (b:Addr) (o:List Nat),y=.ref b/\b≠p/\H8 b=some (.lst (cf o))/\o∈Every h []:=fun y hy=>oE.num hy;dsimp only [cw,aa7,yg,tCB,iC,rZ];refine aQ _ _ _ _ _ _ _ _ _ ?_;refine⟨_,rfl,El,rfl,⟨_,aAA eE⟩,fun D1 nD1=>?_⟩;refine jw (F:=id) (pb:=fun y=>decide ((((km H8 y).length:Nat):Int)=((us.length:Nat):Int))) eE nD1 (by lia) (fun x=>rfl) (fun G x R hx sG r=>?_) (fun G x R hx _ sG r=>⟨_,rfl,r G (Same.refl G)⟩) (fun H9 s9 hD1=>?_)
  ·obtain⟨b,o,rfl,_,hb,_⟩:=ref_of x hx;rw [(jv hb).1] at r;refine⟨_,rfl,b,_,rfl,.inl (aAA (sG _ _ hb)),_,rfl,tt,_,1,.ref rr,ev,rfl,aAB (sG _ _ htH8),rfl,rr,us,rfl,.inl (aAA (sG _ _ hrH8)),rfl,_,rfl,?_⟩;have:=r G (Same.refl G);rw [adG,show decide (V.int ((o.length:Nat):Int)=V.int ((us.length:Nat):Int))=decide (((o.length:Nat):Int)=((us.length:Nat):Int)) from aeV.mpr ⟨fun z=>by injection z,fun z=>by rw [z]⟩];exact this
  rw [af2] at hD1;have oD1:OrdsX [p] H9 (ys.filter fun y=>decide ((((km H8 y).length:Nat):Int)=((us.length:Nat):Int))) (Due h):=by
   refine (oE.filter (qb:=rY h) fun j y o e1 e2=>?_).mono fun c u n e=>⟨s9 _ _ e,n⟩;obtain⟨b,rfl,hb,_⟩:=oE.2 j y o e1 e2;rw [(jv hb).1];exact aeV.mpr (by lia)
  generalize (ys.filter fun y=>decide ((((km H8 y).length:Nat):Int)=((us.length:Nat):Int)))=ds at *;have eE9:=s9 _ _ eE;have nD1p:D1≠p:=dk8.ne nD1;refine aQ _ _ _ _ _ _ _ _ _ ?_;refine⟨_,rfl,El,rfl,⟨_,aAA eE9⟩,fun D2 nD2=>?_⟩;refine jw (F:=id) (pb:=fun y=>decide (aZ h (km H8 y)=[])) eE9 nD2 (by lia) (fun x=>rfl) (fun G x R hx sG r=>?_) (fun G x R hx _ sG r=>⟨_,rfl,r G (Same.refl G)⟩) (fun HA sA hD2=>?_)
  ·obtain⟨b,o,rfl,_,hb,ho⟩:=ref_of x hx;have s8G:=s9.trans sG;rw [(jv hb).1] at r;refine⟨_,rfl,_,rfl,v,b,h,o,rfl,hh8.same s8G,ok,s8G _ _ hb,j7 ho,l12,fun N H3 s3 nN eN=>⟨ad7 _,fun t nt=>?_⟩⟩;have st:Same H3 (upd H3 t (.lst [])):=ar nt;exact oS (neg:=false) (a:=aZ h o) (b:=[]) (st _ _ eN) af (deep (by decide:0<=12)) ⟨_,rfl,r _ (s3.trans st)⟩
  rw [af2] at hD2;have sl:(ys.filter fun y=>decide (aZ h (km H8 y)=[])).length=Stuck h []:=by
   rw [← wJ];refine (oE.filter (qb:=aa8 h) fun j y o e1 e2=>?_).1;obtain⟨b,rfl,hb,_⟩:=oE.2 j y o e1 e2;rw [(jv hb).1]
   rfl
  generalize (ys.filter fun y=>decide (aZ h (km H8 y)=[]))=ss at *;have dl:ds.length=Ends h []:=by rw [oD1.1,vA]
  have s8A:=s9.trans sA;refine⟨_,rfl,v,bx h,rfl,j8 (hh8.same s8A),.house (by have:=hs.bl;lia) (by lia) (fun r hr=>?_),fun u HB sB su=>?_⟩
  ·have y:=hs.rm r hr;have:=y.l4;have:=y.w6;exact⟨by lia,by lia⟩
  have huB:HouseAt HB u h:=vf (Sees.same tX su);have s8B:=s8A.trans sB;have hhB:=hh8.same s8B;have dkB:=dk8.same s8B;have eD1B:=(sA.trans sB) _ _ hD1;have eD2B:=sB _ _ hD2;have oD1B:=oD1.butp (aD (sA.trans sB));have eEB:=s8B _ _ eE;have oEB:=oE.butp (aD s8B);have s1B:=s18.trans s8B;have htB:=s8B _ _ htH8;have hrB:=s8B _ _ hrH8;clear su s8A s8B sB s18 hD1 hD2 nD1 nD2 oD1 eE9 s9 sA nE htH8 hrH8 dk8 hh8 ref_of;refine⟨fun σ H'=>ZbI a (some (.int (0+((i:Nat):Int)))) p v El D1 D2 u x10 x11 x12 HB σ H',?_,?_⟩
  ·rintro σ HC ⟨y8,y9,rfl,sC⟩;have huC:=huB.same sC;have hhC:=hhB.same sC;refine⟨_,rfl,_,rfl,_,rfl,D1,_,rfl,aAA (sC _ _ eD1B),fun S nS=>?_⟩;rw [show fj ds none (some 60)=ds.take (min 60 ds.length) from xo (k:=60)];have sS:Same HC (upd HC S (.lst (ds.take (min 60 ds.length)))):=ar nS;refine⟨u,h,S,_,_,rfl,huC.same sS,ok,few,l12,af,((oD1B.butp (aD (sC.trans sS))).take (min 60 ds.length)).at,fun j o e=>?_,fun HD sD=>⟨true,rfl,eP ?_⟩⟩
   ·rw [afB] at e;split at e
    ·exact e
    ·cases e
   have sBD:=(sC.trans sS).trans sD;refine⟨_,rfl,_,rfl,zR (neg:=true) (huB.same sBD) (hhB.same sBD) ok (deep (by decide:4<=12)) ⟨_,rfl,eP ?_⟩⟩;clear sC sS sD huC hhC nS;generalize upd HC S (.lst (ds.take (min 60 ds.length)))=HC' at *;refine⟨fun σ H'=>∃ z9,σ=[some (.ref a),some (.int (0+((i:Nat):Int))),some (.ref p),some v,some (.ref El),some (.ref D1),some (.ref D2),some u,y8,z9,x10,x11,x12]/\But p HD H'/\PoolD H' p,?_,?_⟩
   ·rintro σ HE ⟨z9,rfl,bE,dkE⟩;have bBE:=(aD sBD).trans bE;have huE:=huB.pool dkB bBE;have hhE:=hhB.pool dkB bBE;have oEE:=oEB.butp bBE;have oD1E:=oD1B.butp bBE;have eEE:=bBE _ _ nEp eEB;have eD1E:=bBE _ _ nD1p eD1B;obtain⟨t',a',r',us',ev',htE,_,hrE,hRE⟩:=id hhE;refine⟨ad7 _,fun l0 n0=>?_⟩;have t1:Same HE (upd HE l0 (.lst [])):=ar n0;have e1:NumP p (upd HE l0 (.lst [])) (.ref l0) []:=⟨l0,rfl,dkE.ne n0,af⟩;generalize upd HE l0 (.lst [])=HF at *;refine⟨_,rfl,t',_,1,.ref r',ev',rfl,aAB (t1 _ _ htE),rfl,r',us',rfl,.inl (aAA (t1 _ _ hrE)),h.2.length,aeu (fun z:Nat=>[V.int (z:Int)]) hRE.1,by lia,fun l3 n3=>⟨by show 2<=sizeLine;decide,fun l4 n4=>?_⟩⟩;have t2:Same HF (upd HF l3 (.lst ((List.range h.2.length).map fun i=>V.int (i:Nat)))):=ar n3;have e2:NumP p (upd HF l3 (.lst ((List.range h.2.length).map fun i=>V.int (i:Nat)))) (.ref l3) (zs (List.range h.2.length)):=⟨l3,rfl,(dkE.same t1).ne n3,by rw [af,jZ]⟩;generalize upd HF l3 (.lst ((List.range h.2.length).map fun i=>V.int (i:Nat)))=HG at *;have t3:Same HG (upd HG l4 (.lst [.ref l0,.ref l3])):=ar n4;have e4:(upd HG l4 (.lst [.ref l0,.ref l3])) l4=some (.lst [.ref l0,.ref l3]):=af;generalize upd HG l4 (.lst [.ref l0,.ref l3])=HH at *;have t13:=(t1.trans t2).trans t3;refine⟨_,rfl,3,rfl,_,rfl,El,_,rfl,aAA (t13 _ _ eEE),fun S2 nS2=>?_⟩;have t4:Same HH (upd HH S2 (.lst (fj ys (some (-3)) none))):=ar nS2;have e5:(upd HH S2 (.lst (fj ys (some (-3)) none))) S2=some (.lst (fj ys (some (-3)) none)):=af;generalize upd HH S2 (.lst (fj ys (some (-3)) none))=HI at *;have cl:=lB ys (some (-3)) none;have al:AllP p HI ([.ref l0,.ref l3]++fj ys (some (-3)) none):=by
     refine .app (fun y hy=>?_) fun y hy=>?_
     ·simp only [adO,aet,agy] at hy;rcases hy with e | e
      ·exact⟨[],by rw [e];exact e1.same ((t2.trans t3).trans t4),ad7 _⟩
      ·refine⟨_,by rw [e];exact e2.same (t3.trans t4),?_⟩;rw [ue,aeB];lia
     ·obtain⟨b,o,e,nb,hb,ho⟩:=oEE.num (sr hy);have:=dF (j7 ho);exact⟨zs o,⟨b,e,nb,by rw [(t13.trans t4) _ _ hb,jZ]⟩,by rw [ue];lia⟩
    have clx:(fj ys (some (-3)) none).length<=3:=by
     unfold fj;rw [aeb,agc];have:HT.sIx ys.length ys.length none - HT.sIx ys.length 0 (some (-3))<=3:=by
      rw [HT.sIx_none];unfold HT.sIx;simp only;split<;>lia
     lia
    refine⟨l4,S2,_,_,rfl,rfl,t4 _ _ e4,e5,lt_size (by show 2+_<=_;lia),fun So nSo=>?_⟩;have t5:Same HI (upd HI So (.lst ([.ref l0,.ref l3]++fj ys (some (-3)) none))):=ar nSo;have e6:(upd HI So (.lst ([.ref l0,.ref l3]++fj ys (some (-3)) none))) So=some (.lst ([.ref l0,.ref l3]++fj ys (some (-3)) none)):=af;have t15:=(t13.trans t4).trans t5;have nSop:So≠p:=(dkE.same (t13.trans t4)).ne nSo;have al5:=al.but (aD t5);have sol:([V.ref l0,V.ref l3]++fj ys (some (-3)) none).length<=1000:=by
     rw [adI];show 2+_<=_;lia
    generalize ([V.ref l0,V.ref l3]++fj ys (some (-3)) none)=so0 at *;generalize upd HI So (.lst so0)=HJ at *;have dkJ:=dkE.same t15;have hhJ:=hhE.same t15;have huJ:=huE.same t15;have oD1J:=oD1E.butp (aD t15);have eD1J:=t15 _ _ eD1E;have bBJ:=bBE.trans (aD t15);clear al e1 e2 e4 e5 t1 t2 t3 t13 t4 t5 n0 n3 n4 nS2 nSo cl clx htE hrE hRE;refine⟨fun σ H'=>∃ n,n<=3/\ZcI a (some (.int (0+((i:Nat):Int)))) p v El D1 D2 u y8 z9 x12 n HJ σ H',?_,?_⟩
    ·rintro σ HK ⟨n3,n33,⟨So2,so2,w11,rfl,bK,dkK,nSp,eSo,sol2,alK⟩⟩;have huK:=huJ.pool dkJ bK;have hhK:=hhJ.pool dkJ bK;have oK:=oD1J.butp bK;have eD1K:=bK _ _ nD1p eD1J;have s1K:Same H1 HK:=fun b u e=>bK _ _ (aq e np) (bBJ _ _ (aq e np) (s1B _ _ e));refine⟨fun σ H'=>ZdI a (some (.int (0+((i:Nat):Int)))) p v El D1 D2 u y8 z9 So2 HK σ H',?_,?_⟩
     ·rintro σ HL ⟨w11',w12',rfl,sL⟩;exact⟨_,_,_,_,_,_,_,_,_,_,_,_,rfl,(s1.trans s1K).trans sL⟩
     refine⟨_,rfl,So2,rfl,⟨_,aAA eSo⟩,?_⟩;refine dJ (xs:=so2) (fun j σ' H'=>ZdI a (some (.int (0+((i:Nat):Int)))) p v El D1 D2 u y8 z9 So2 HK σ' H') (.mk w11 x12 rfl (Same.refl HK)) (fun j σ H' _ ⟨_,_,_,s⟩=>aAA (s _ _ eSo)) ?_ (fun σ H' z=>z);rintro j x σ HL hx ⟨w11',w12',rfl,sL⟩;obtain⟨o,⟨l,rfl,nlp,hl⟩,o30⟩:=alK x (adR hx);have hlL:=sL _ _ hl;refine⟨_,rfl,l,_,rfl,.inl (aAA hlL),fun kp nk=>?_⟩;have sM:Same HL (upd HL kp (.lst (o.map V.int))):=ar nk;have eM:(upd HL kp (.lst (o.map V.int))) kp=some (.lst (o.map V.int)):=af;generalize upd HL kp (.lst (o.map V.int))=HM at *;have sKM:=sL.trans sM;have huM:=huK.same sKM;have hhM:=hhK.same sKM;have oM:OrdsZ HM ds ((Due h).map zs):=(oK.at.same sKM).z;have eD1M:=sKM _ _ eD1K;have hlM:=sM _ _ hlL;refine⟨fun σ' H'=>σ'=[some (.ref a),some (.int (0+((i:Nat):Int))),some (.ref p),some v,some (.ref El),some (.ref D1),some (.ref D2),some u,y8,z9,some (.ref So2),some (.ref l),some (.ref kp)]/\Same HM H',?_,?_⟩
     ·rintro σ HN ⟨rfl,sN⟩;refine⟨_,rfl,_,rfl,wz (neg:=true) (sN _ _ eM) (sN _ _ hlM) (deep (by decide:0<=12)) ⟨_,rfl,?_⟩⟩;rw [if_pos rfl,adY rfl];refine eP ⟨_,rfl,_,rfl,zR (neg:=true) (huM.same sN) (hhM.same sN) ok (deep (by decide:4<=12)) ⟨_,rfl,eP ?_⟩⟩;exact .mk _ _ rfl (sKM.trans sN)
     refine⟨_,rfl,_,rfl,vM (neg:=false) hlM eD1M oM (deep (by decide:2<=12)) ⟨_,rfl,?_⟩⟩;rw [if_neg adM];by_cases hq:o∈(Due h).map zs
     ·rw [adY hq];obtain⟨on,hon,rfl⟩:=ad5.mp hq;obtain⟨q,hql,rq,eq,fq⟩:=wI hon;obtain⟨gon,lon⟩:=due_iff.mp hon;refine gI ⟨_,rfl,_,rfl,u,h,kp,zs on,rfl,huM,ok,few,l12,eM,by lia,fun on' e g lo HN sN=>?_,fun no=>absurd ⟨gon,lon⟩ (no on rfl)⟩;have e:=qc e;subst e;have dlen:(((Due h).map zs).map fun l=>PyData.list (dn l)).length=((Due h).map zs).length:=adG _;refine⟨_,rfl,.inl ⟨rfl,_,aAA (sN _ _ eD1M)⟩,_,rfl,.ref l,((Due h).map zs).map (fun l=>.list (dn l)),.list (dn (zs on)),q,by rw [dlen];exact hql,rfl,.lst (sN _ _ eD1M) (kC (oM.same sN)),.lst (sN _ _ hlM) (eK _),iQ _,by simp only [PyData.canLay0,fZ],?_,?_,?_,fun m hm lt=>?_,?_⟩
      ·have h1:=gr ((Due h).map zs);refine aeg ?_ (deep (by decide:2<=12));rw [Nat.add_assoc];exact aeq (adZ (aeq (adZ (afV _ _) h1) 1) (by decide:1+1<=3)) _
      ·rw [dlen,adG];have:(Due h).length<=(Every h []).length:=aeF _ _;lia
      ·rw [agd,eq];simp only [PyData.eqv];exact (gi _ _).mpr rfl
      ·rw [agd];simp only [PyData.eqv];rw [afE];exact fun z=>fq m (by rw [dlen] at hm;exact hm) lt ((gi _ _).mp z)
      ·refine⟨rfl,_,rfl,?_⟩;rw [rq,adY rfl];exact eP ⟨rfl,sN⟩
     ·rw [ad4 hq];refine eP ⟨_,rfl,_,rfl,u,h,kp,o,rfl,huM,ok,few,l12,eM,by lia,fun on' e g lo HN sN=>absurd (ad5.mpr ⟨on',due_iff.mpr ⟨g,lo⟩,e.symm⟩) hq,fun _ HN sN=>⟨rfl,_,rfl,?_⟩⟩;rw [adY rfl];exact eP ⟨rfl,sN⟩
    ·refine⟨_,rfl,_,rfl,D1,_,rfl,aAA eD1J,fun S3 nS3=>?_⟩;have t1:Same HJ (upd HJ S3 (.lst (fj ds none (some 2)))):=ar nS3;have e1:(upd HJ S3 (.lst (fj ds none (some 2)))) S3=some (.lst (fj ds none (some 2))):=af;generalize upd HJ S3 (.lst (fj ds none (some 2)))=HK at *;refine⟨_,rfl,1,rfl,_,rfl,D1,_,rfl,aAA (t1 _ _ eD1J),fun S4 nS4=>?_⟩;have t2:Same HK (upd HK S4 (.lst (fj ds (some (-1)) none))):=ar nS4;have e2:(upd HK S4 (.lst (fj ds (some (-1)) none))) S4=some (.lst (fj ds (some (-1)) none)):=af;generalize upd HK S4 (.lst (fj ds (some (-1)) none))=HL at *;have c1:(fj ds none (some 2)).length<=2:=by
      rw [show ((2:Int))=((2:Nat):Int) from rfl,xo,aeb];lia
     have c2:(fj ds (some (-1)) none).length<=1:=by
      unfold fj;rw [aeb,agc];have:HT.sIx ds.length ds.length none - HT.sIx ds.length 0 (some (-1))<=1:=by
       rw [HT.sIx_none];unfold HT.sIx;simp only;split<;>lia
      lia
     refine⟨S3,S4,_,_,rfl,rfl,t2 _ _ e1,e2,lt_size (by lia),fun Ls nLs=>⟨Ls,rfl,⟨_,aAA af⟩,?_⟩⟩;have t3:Same HL (upd HL Ls (.lst (fj ds none (some 2)++fj ds (some (-1)) none))):=ar nLs;have e3:(upd HL Ls (.lst (fj ds none (some 2)++fj ds (some (-1)) none))) Ls=some (.lst (fj ds none (some 2)++fj ds (some (-1)) none)):=af;have t13:=(t1.trans t2).trans t3;have nLp:Ls≠p:=(dkJ.same (t1.trans t2)).ne nLs;have memL:∀ x∈(fj ds none (some 2)++fj ds (some (-1)) none),x∈ds:=fun x hx=>(ad6.mp hx).elim sr sr;have lenL:(fj ds none (some 2)++fj ds (some (-1)) none).length<=3:=by rw [adI];lia
     generalize (fj ds none (some 2)++fj ds (some (-1)) none)=ls at *;generalize upd HL Ls (.lst ls)=HM at *;refine dJ (xs:=ls) (fun j σ' H'=>ZcI a (some (.int (0+((i:Nat):Int)))) p v El D1 D2 u y8 z9 x12 j HJ σ' H'/\But p HM H') ⟨.mk So so0 x11 rfl (aD t13) (dkJ.same t13) nSop (t13 _ _ e6) (by lia) (al5.but (aD t13)),But.refl _ _⟩ (fun j σ H' _ ⟨_,s⟩=>aAA (s _ _ nLp e3)) ?_ (fun σ H' z=>⟨_,lenL,z.1⟩);rintro j x σ HN hx ⟨⟨So2,so2,w11,rfl,bN,dkN,nSp,eSo,sol2,alN⟩,bMN⟩;have hj:=(adF.mp hx).1;obtain⟨b,o,rfl,nbp,hb,ho⟩:=oD1J.num (memL x (adR hx));have lo:=(due_iff.mp ho).2;refine⟨_,rfl,_,rfl,_,rfl,_,rfl,p,v,h,b,o,rfl,dkN,hhJ.pool dkJ bN,l12,bN _ _ nbp hb,nbp,by lia,fun D ys' os' HO bO dkO nDp eD nums sz l10=>?_⟩;have yl':=nums.1;refine⟨So2,D,_,_,rfl,rfl,bO _ _ nSp eSo,eD,(by lia),fun Sn nSn=>?_⟩;have t4:Same HO (upd HO Sn (.lst (so2++ys'))):=ar nSn;have bE:=bO.trans (aD (p:=p) t4);exact⟨.mk Sn _ _ rfl (bN.trans bE) (dkO.same t4) (dkO.ne nSn) af (by rw [adI];lia) ((alN.but bE).app ((nums.all sz).but (aD t4))),bMN.trans bE⟩
   ·refine⟨1,rfl,_,rfl,D1,_,rfl,.inl (aAA (sBD _ _ eD1B)),?_⟩;refine⟨_,rfl,D1,_,rfl,.inl (aAA (sBD _ _ eD1B)),_,rfl,10,20,rfl,rfl,⟨by decide,by decide,by decide⟩,p,_,rfl,dkB.same sBD,by decide,by decide,fun ra HE ra0 ra1 dkE bE=>?_⟩;refine⟨_,_,rfl,rfl,2,rfl,_,rfl,10,20,rfl,rfl,⟨by decide,by decide,by decide⟩,p,_,rfl,dkE,by decide,by decide,fun rb HF rb0 rb1 dkF bF=>?_⟩;refine⟨_,_,rfl,rfl,by show 4<=sizeLine;decide,fun Ls nLs=>⟨Ls,rfl,⟨_,aAA af⟩,?_⟩⟩;have nLp:Ls≠p:=dkF.ne nLs;have tF:Same HF (upd HF Ls (.lst [.int (-1),.int ((ds.length:Nat):Int),.int (((ds.length:Nat):Int)+ra),.int (-2 - rb)])):=ar nLs;have eF:(upd HF Ls (.lst [.int (-1),.int ((ds.length:Nat):Int),.int (((ds.length:Nat):Int)+ra),.int (-2 - rb)])) Ls=some (.lst [.int (-1),.int ((ds.length:Nat):Int),.int (((ds.length:Nat):Int)+ra),.int (-2 - rb)]):=af;have far:∀ x∈([.int (-1),.int ((ds.length:Nat):Int),.int (((ds.length:Nat):Int)+ra),.int (-2 - rb)]:List V),∃ n:Int,x=.int n/\¬ (0<=n/\n < ((Ends h []:Nat):Int)):=fun x hx=>by
     simp only [adO,aet,agy] at hx;rcases hx with e | e | e | e<;>exact⟨_,e,by lia⟩
    have bDF:=(bE.trans bF).trans (aD (p:=p) tF);have dkG:=dkF.same tF;generalize ([.int (-1),.int ((ds.length:Nat):Int),.int (((ds.length:Nat):Int)+ra),.int (-2 - rb)]:List V)=fs at *;show _;generalize upd HF Ls (.lst fs)=HG at *;have huG:=(huB.same sBD).pool (dkB.same sBD) bDF;refine dJ (xs:=fs) (fun j σ' H'=>∃ z9,σ'=[some (.ref a),some (.int (0+((i:Nat):Int))),some (.ref p),some v,some (.ref El),some (.ref D1),some (.ref D2),some u,y8,z9,x10,x11,x12]/\Same HG H') ⟨y9,rfl,Same.refl HG⟩ (fun j σ H' _ ⟨_,_,s⟩=>aAA (s _ _ eF)) ?_ (fun σ H' ⟨z9,e,s⟩=>⟨z9,e,bDF.trans (aD s),dkG.same s⟩);rintro j x σ HH hx ⟨z9,rfl,sH⟩;obtain⟨n,rfl,nf⟩:=far x (adR hx);exact⟨_,rfl,_,rfl,u,h,n,rfl,huG.same sH,ok,few,l12,nf,fun HI sI=>⟨true,rfl,eP ⟨_,rfl,sH.trans sI⟩⟩⟩
  ·refine⟨_,rfl,u,h,rfl,huB,ok,few,l12,fun HC sC=>⟨_,rfl,D1,_,rfl,.inl (aAA (sC _ _ eD1B)),by show 2<=sizeLine;decide,fun T1 nT1=>?_⟩⟩;have t1:Same HC (upd HC T1 (.tup [.int ((Ends h []:Nat):Int),.int ((ds.length:Nat):Int)])):=ar nT1;have e1:(upd HC T1 (.tup [.int ((Ends h []:Nat):Int),.int ((ds.length:Nat):Int)])) T1=some (.tup [.int ((Ends h []:Nat):Int),.int ((Ends h []:Nat):Int)]):=by rw [af,dl]
   generalize upd HC T1 (.tup [.int ((Ends h []:Nat):Int),.int ((ds.length:Nat):Int)])=HD at *;have sD:=sC.trans t1;refine⟨_,rfl,u,h,rfl,huB.same sD,ok,few,l12,fun HE sE=>⟨_,rfl,D2,_,rfl,.inl (aAA ((sD.trans sE) _ _ eD2B)),by show 2<=sizeLine;decide,fun T2 nT2=>⟨by show 2<=sizeLine;decide,fun Ls nLs=>⟨Ls,rfl,⟨_,aAA af⟩,?_⟩⟩⟩⟩;have t2:Same HE (upd HE T2 (.tup [.int ((Stuck h []:Nat):Int),.int ((ss.length:Nat):Int)])):=ar nT2;have e2:(upd HE T2 (.tup [.int ((Stuck h []:Nat):Int),.int ((ss.length:Nat):Int)])) T2=some (.tup [.int ((Stuck h []:Nat):Int),.int ((Stuck h []:Nat):Int)]):=by rw [af,sl]
   generalize upd HE T2 (.tup [.int ((Stuck h []:Nat):Int),.int ((ss.length:Nat):Int)])=HF at *;have t3:Same HF (upd HF Ls (.lst [.ref T1,.ref T2])):=ar nLs;have e3:(upd HF Ls (.lst [.ref T1,.ref T2])) Ls=some (.lst [.ref T1,.ref T2]):=af;have pr:∀ x∈([.ref T1,.ref T2]:List V),∃ (T:Addr) (c:Int),x=.ref T/\(upd HF Ls (.lst [.ref T1,.ref T2])) T=some (.tup [.int c,.int c]):=fun x hx=>by
    simp only [adO,aet,agy] at hx;rcases hx with e | e
    ·exact⟨T1,_,e,t3 _ _ (t2 _ _ (sE _ _ e1))⟩
    ·exact⟨T2,_,e,t3 _ _ e2⟩
   have sBG:=((sD.trans sE).trans t2).trans t3;generalize ([.ref T1,.ref T2]:List V)=ps at *;generalize upd HF Ls (.lst ps)=HG at *;refine dJ (xs:=ps) (fun j σ' H'=>∃ z8 z9,σ'=[some (.ref a),some (.int (0+((i:Nat):Int))),some (.ref p),some v,some (.ref El),some (.ref D1),some (.ref D2),some u,z8,z9,x10,x11,x12]/\Same HG H') ⟨x8,x9,rfl,Same.refl HG⟩ (fun j σ H' _ ⟨_,_,_,s⟩=>aAA (s _ _ e3)) ?_ (fun σ H' ⟨z8,z9,e,s⟩=>.mk z8 z9 e (sBG.trans s));rintro j x σ HH hx ⟨z8,z9,rfl,sH⟩;obtain⟨T,c,rfl,eT⟩:=pr x (adR hx);refine⟨T,_,rfl,aAB (sH _ _ eT),rfl,?_⟩;refine⟨_,_,rfl,_,_,rfl,rfl,?_⟩;refine⟨_,rfl,_,_,_,true,rfl,.int c,de K _,true,rfl,eP ⟨_,rfl,_,_,_,false,rfl,.int c,ku K,false,rfl,eP ⟨_,rfl,_,rfl,rfl,_,rfl,?_⟩⟩⟩;rw [adY rfl];exact eP ⟨_,_,rfl,sH⟩
end
abbrev bmV:List Value:=[.type "ValueError",.type "Exception",.type "BaseException",.type "object"]
def uc (es:Array DictEntry):Bool:=es.toList.all fun e=>match e.key with | .str _ _=>true | _=>false
theorem acL {K:PySem.W.Frag}{N:Addr}{nc:Value}{nd:Option Addr}{es:Array DictEntry}{ep:Nat}{nsl:Array (Option Value)}(y:K.lookup N=some ⟨nc,nd,.dict es ep,nsl⟩)(s:uc es=true):nsOkIn K N=true:=by
 unfold nsOkIn;rw [y];show es.all _=true;rw [← Array.all_toList];exact s
theorem xM {K:PySem.W.Frag}:tailIn K bmV bmV=true:=by
 rw [aho];show ((bmV == bmV) || _)=true;rw [show (bmV == bmV)=true by decide,Bool.true_or]
theorem abF {h:Heap}{C:Addr}{bm:List Value}(t:OwnTail h bmV (.ref C::bm)):∃ (c0:Value) (dd:Option Addr) (cd:ClassData) (sl:Array (Option Value)) (mA:Str->Option Value),h.get? C=some { cls:=c0,dict:=dd,data:=.cls cd,slots:=sl }/\h.Ns cd.ns mA/\mA "__init__" = none/\OwnTail h bmV bm:=by
 generalize e:(Value.ref C::bm)=l at t;cases t with
 | base=>cases e
 | own a b c d=>cases e;exact⟨_,_,_,_,_,a,b,c,d⟩
section
variable {K:PySem.W.Frag}{C N:Addr}{bm:List Value}{nm q:Str}{bs:List Value}{hdct:Bool}{sn:List Str}{sub:List Value}{ab:Bool}{col:Option Bool}{dd:Option Addr}{k0 k1 k2 k3 k5:Option Value}
theorem mH (x:K.lookup C=some (excClassObj nm q C N bs bm hdct sn sub ab col dd k0 k1 k2 k3 k5 "ValueError.__new__"))(ok:nsOkIn K N=true)(i:nsIn K N "__init__" = some none)(t:tailIn K bmV bm=true):tailIn K bmV (.ref C::bm)=true:=by
 rw [aho];simp only [x,ok,i,t];rw [show ((some none:Option (Option Value)) == some none)=true from rfl];simp
theorem acI {h:Heap}(l:K.lookup C=some (excClassObj nm q C N bs bm hdct sn sub ab col dd k0 k1 k2 k3 k5 "ValueError.__new__"))(t:tailIn K bmV (.ref C::bm)=true)(kin:K.In h):h.get? C=some (excClassObj nm q C N bs bm hdct sn sub ab col dd k0 k1 k2 k3 k5 "ValueError.__new__")/\(∃ mA,h.Ns N mA/\mA "__init__" = none)/\OwnTail h bmV bm:=by
 have g:=kin C _ l;obtain⟨c0,d0,cd,sl,mA,g',ns,i,tl⟩:=abF (PySem.W.tail_of_in kin t);rw [g] at g';cases g';exact⟨g,⟨mA,ns,i⟩,tl⟩
theorem zt {nc:Value}{nd:Option Addr}{es:Array DictEntry}{ep:Nat}{nsl:Array (Option Value)}(l:K.lookup C=some (excClassObj nm q C N bs bm hdct sn sub ab col dd k0 k1 k2 k3 k5 "ValueError.__new__"))(lN:K.lookup N=some ⟨nc,nd,.dict es ep,nsl⟩)(t:tailIn K bmV (.ref C::bm)=true)(b:bm.contains (.type "BaseException")=true):kA K C bm:=by
 refine⟨nm,q,N,bs,bmV,hdct,sn,sub,ab,col,dd,k0,k1,k2,k3,k5,"ValueError","ValueError","ValueError.__new__","ValueError.__new__","ValueError.__init__","ValueError.__init__",bmV,(fun n=>if n = "__init__" then none else nsFind es n),agw,by decide,agw,b,if_pos rfl,fun h kin=>?_⟩;obtain⟨g,⟨mA,⟨o,es',ep',g1,g2,g3,g4⟩,i⟩,tl⟩:=acI l t kin;refine⟨g,⟨o,es',ep',g1,g2,g3,fun n=>?_⟩,tl⟩;have:=kin N _ lN;rw [g1] at this;cases this;cases g2;show nsFind es n=if n = "__init__" then none else nsFind es n
 by_cases e:n = "__init__"
 ·rw [if_pos e,e];exact (g4 _).trans i
 ·rw [if_neg e]
end
structure Has (K:PySem.W.Frag)(x:Str)(st:Stmt)(f:Addr)(fd:FuncData):Prop where
 a:nsIn K mainGlobals x=some (some (.ref f))
 F:Fun K x x st f fd
theorem Has.c1 {K:PySem.W.Frag}{h:Heap}{mg:Str->Option Value}{n:Str}{st:Stmt}{f:Addr}{fd:FuncData}{p0:Str}(H:Has K n st f fd)(X:K.In h)(G:h.Ns mainGlobals mg)(b:∀ (kV doc pm:Value) (an:Option Addr) (cdv ct x:Value),bindArgs (fnOf n n (fO st) (bZ st) (ai st) .none kV doc pm an cdv ct) ⟨[x],[]⟩=pure [(p0,x)]):Cal K mg n [p0] f fd :=
 ⟨ae3 X G H.a,H.F.kp,H.F.binds fun kV doc pm an cdv ct us hl=>match us,hl with | [x],_=>b kV doc pm an cdv ct x⟩
theorem Has.c2 {K:PySem.W.Frag}{h:Heap}{mg:Str->Option Value}{n:Str}{st:Stmt}{f:Addr}{fd:FuncData}{p0 p1:Str}(H:Has K n st f fd)(X:K.In h)(G:h.Ns mainGlobals mg)(b:∀ (kV doc pm:Value) (an:Option Addr) (cdv ct x y:Value),bindArgs (fnOf n n (fO st) (bZ st) (ai st) .none kV doc pm an cdv ct) ⟨[x,y],[]⟩=pure [(p0,x),(p1,y)]):Cal K mg n [p0,p1] f fd :=
 ⟨ae3 X G H.a,H.F.kp,H.F.binds fun kV doc pm an cdv ct us hl=>match us,hl with | [x,y],_=>b kV doc pm an cdv ct x y⟩
theorem Has.c3 {K:PySem.W.Frag}{h:Heap}{mg:Str->Option Value}{n:Str}{st:Stmt}{f:Addr}{fd:FuncData}{p0 p1 p2:Str}(H:Has K n st f fd)(X:K.In h)(G:h.Ns mainGlobals mg)(b:∀ (kV doc pm:Value) (an:Option Addr) (cdv ct x y z:Value),bindArgs (fnOf n n (fO st) (bZ st) (ai st) .none kV doc pm an cdv ct) ⟨[x,y,z],[]⟩=pure [(p0,x),(p1,y),(p2,z)]):Cal K mg n [p0,p1,p2] f fd :=
 ⟨ae3 X G H.a,H.F.kp,H.F.binds fun kV doc pm an cdv ct us hl=>match us,hl with | [x,y,z],_=>b kV doc pm an cdv ct x y z⟩
set_option autoImplicit true in
theorem all_mk {l:PySem.W.OpenLaw}{w:World}{K:PySem.W.Frag}{h:Heap}{mg:Str->Option Value}{fa:Addr}(X:K.In h)(G:h.Ns mainGlobals mg)(hfa:mg "law" = some (.ref fa))
 (nJ:Has K "is_whole" iP f_is_whole d_is_whole)
 (qd:Has K "is_kind" pV f_is_kind d_is_kind)
 (lU:Has K "are_kinds" mE f_are_kinds d_are_kinds)
 (lI:Has K "are_locks" yf f_are_locks d_are_locks)
 (pJ:Has K "is_room" aaT f_is_room d_is_room)
 (nZ:Has K "is_house" me f_is_house d_is_house)
 (gN:Has K "require_house" acu f_require_house d_require_house)
 (lJ:Has K "with_room" gZ f_with_room d_with_room)
 (nI:Has K "has_room" i3 f_has_room d_has_room)
 (ki:Has K "set_of_all" gz f_set_of_all d_set_of_all)
 (ox:Has K "steps_of" iS f_steps_of d_steps_of)
 (qF:Has K "ends_of" iA f_ends_of d_ends_of)
 (qG:Has K "ways_of" iy f_ways_of d_ways_of)
 (gc:Has K "how_many_orders" cZ f_how_many_orders d_how_many_orders)
 (lj:Has K "nth_order" gK f_nth_order d_nth_order)
 (gg:Has K "number_of_order" cv f_number_of_order d_number_of_order)
 (gC:Has K "how_many_stuck" cJ f_how_many_stuck d_how_many_stuck)
 (lE:Has K "_law_pool" hV f__law_pool d__law_pool)
 (mn:Has K "_law_draw" hJ f__law_draw d__law_draw)
 (kr:Has K "_law_kinds" eh f__law_kinds d__law_kinds)
 (ky:Has K "_law_words" gp f__law_words d__law_words)
 (kb:Has K "_law_house" gy f__law_house d__law_house)
 (lT:Has K "_law_next" fm f__law_next d__law_next)
 (je:Has K "_law_orders" dI f__law_orders d__law_orders)
 (lC:Has K "_law_copy" cW f__law_copy d__law_copy)
 (gH:Has K "_law_no_number" dE f__law_no_number d__law_no_number)
 (jl:Has K "_law_number" fV f__law_number d__law_number)
 (gf:Has K "_law_each_right" cq f__law_each_right d__law_each_right)
 (jx:Has K "_law_spoilt" dG f__law_spoilt d__law_spoilt)
 (aC:nsIn K mainGlobals "Doors" = some (some (.ref C)))
 (ainit:findIn K (.ref C) "__init__" = some (some (.ref finit)))(iinit:isFn K (.ref finit)=true)(Finit:Fun K "__init__" "Doors.__init__" aM finit dinit)
 (ahand_with:findIn K (.ref C) "hand_with" = some (some (.ref fhand_with)))(ihand_with:isFn K (.ref fhand_with)=true)(Fhand_with:Fun K "hand_with" "Doors.hand_with" dc fhand_with dhand_with)
 (anext_behind:findIn K (.ref C) "next_behind" = some (some (.ref fnext_behind)))(inext_behind:isFn K (.ref fnext_behind)=true)(Fnext_behind:Fun K "next_behind" "Doors.next_behind" aN fnext_behind dnext_behind)
 (pg:plainGet K C Str.empty=true)(hd:hasDictIn K C=true)(po:plainOver K C=true)(sa:findIn K (.ref C) "__setattr__" = some (some (.builtin "object.__setattr__")))(mk:makesIn K C=true)(kc:keepIn K (.ref C)=true)
 (n1:findIn K (.ref C) "at_first" = some none)(n2:findIn K (.ref C) "wants" = some none)(n3:findIn K (.ref C) "changes" = some none)
 (as:nsIn K mainGlobals "require_small" = some (some (.ref fs9)))(Fs:FunD K "require_small" "require_small" cU Ts9 fs9 ds9)(ts:K.lookup Ts9=some ⟨ots9,ods9,.seq #[.int 12 tk9] ns9,sls9⟩)
 (al:nsIn K mainGlobals "law" = some (some (.ref fl9)))(Fl:Fun K "law" "law" acH fl9 dl9)(bl:∀ (s:Shared) (v:Value),BindsTo s dl9 ⟨[v],[]⟩ [("script",v)])
 (g_LETTERS:nsIn K mainGlobals "LETTERS" = some (some (.str lettersS t_LETTERS)))
 (g_MOST_LETTERS:nsIn K mainGlobals "MOST_LETTERS" = some (some (.int 4 t_MOST_LETTERS)))
 (g_MOST_LOCKS:nsIn K mainGlobals "MOST_LOCKS" = some (some (.int 4 t_MOST_LOCKS)))
 (z_isinstance:nsIn K mainGlobals "isinstance" = some none)
 (z_str:nsIn K mainGlobals "str" = some none)
 (z_len:nsIn K mainGlobals "len" = some none)
 (z_all:nsIn K mainGlobals "all" = some none)
 (z_list:nsIn K mainGlobals "list" = some none)
 (z_tuple:nsIn K mainGlobals "tuple" = some none)
 (z_sorted:nsIn K mainGlobals "sorted" = some none)
 (z_range:nsIn K mainGlobals "range" = some none)
 (z_set:nsIn K mainGlobals "set" = some none)
 (z_int:nsIn K mainGlobals "int" = some none)
 (z_enumerate:nsIn K mainGlobals "enumerate" = some none)
 (z_bool:nsIn K mainGlobals "bool" = some none)
 (z_reversed:nsIn K mainGlobals "reversed" = some none)
 (z_sum:nsIn K mainGlobals "sum" = some none)
 (z_min:nsIn K mainGlobals "min" = some none)
 (z_max:nsIn K mainGlobals "max" = some none)
 (n_K:nsIn K mainGlobals "KeyroomError" = some (some (.ref cK)))
 (n_O:nsIn K mainGlobals "NoOrder" = some (some (.ref cO)))
 (n_N:nsIn K mainGlobals "NoNumber" = some (some (.ref cN)))
 (x_K:K.lookup cK=some (excClassObj nmK qnK cK NK bsK bmV hdK snK sbK abK coK ddK kaK kbK kcK kdK keK "ValueError.__new__"))
 (y_K:K.lookup NK=some ⟨ncK,ndK,.dict esK epK,nsK⟩)
 (s_K:uc esK=true)
 (i_K:nsIn K NK "__init__" = some none)
 (v_K:List.contains (bmV) (.type "BaseException")=true)
 (x_O:K.lookup cO=some (excClassObj nmO qnO cO NO bsO (.ref cK::bmV) hdO snO sbO abO coO ddO kaO kbO kcO kdO keO "ValueError.__new__"))
 (y_O:K.lookup NO=some ⟨ncO,ndO,.dict esO epO,nsO⟩)
 (s_O:uc esO=true)
 (i_O:nsIn K NO "__init__" = some none)
 (v_O:List.contains (Value.ref cK::bmV) (.type "BaseException")=true)
 (x_N:K.lookup cN=some (excClassObj nmN qnN cN NN bsN (.ref cK::bmV) hdN snN sbN abN coN ddN kaN kbN kcN kdN keN "ValueError.__new__"))
 (y_N:K.lookup NN=some ⟨ncN,ndN,.dict esN epN,nsN⟩)
 (s_N:uc esN=true)
 (i_N:nsIn K NN "__init__" = some none)
 (v_N:List.contains (Value.ref cK::bmV) (.type "BaseException")=true)
 : ∃ fd:FuncData,(∀ (s:Shared) (v:Value),BindsTo s fd ⟨[v],[]⟩ [("script",v)])/\∀ base:Heap,K.In base->base.Ns mainGlobals mg->FnOk l.prog w K mg base CX0 11 fa fd ["script"] (yi K):=by
 have e:=hfa.symm.trans (ae3 X G al);cases e;have eO:=nJ.c1 (p0 := "thing") X G fun _ _ _ _ _ _ _=>rfl;have xJ:=qd.c1 (p0 := "thing") X G fun _ _ _ _ _ _ _=>rfl;have iR:=lU.c1 (p0 := "thing") X G fun _ _ _ _ _ _ _=>rfl;have rC:=lI.c1 (p0 := "thing") X G fun _ _ _ _ _ _ _=>rfl;have xw:=pJ.c1 (p0 := "thing") X G fun _ _ _ _ _ _ _=>rfl;have vd:=nZ.c1 (p0 := "thing") X G fun _ _ _ _ _ _ _=>rfl;have eU:=gN.c1 (p0 := "thing") X G fun _ _ _ _ _ _ _=>rfl;have aG:=lJ.c2 (p0 := "opened") (p1 := "number") X G fun _ _ _ _ _ _ _ _=>rfl;have jY:=nI.c2 (p0 := "opened") (p1 := "number") X G fun _ _ _ _ _ _ _ _=>rfl;have bz:=ki.c1 (p0 := "house") X G fun _ _ _ _ _ _ _=>rfl;have bw:=ox.c1 (p0 := "house") X G fun _ _ _ _ _ _ _=>rfl;have df:=qF.c2 (p0 := "steps") (p1 := "whole") X G fun _ _ _ _ _ _ _ _=>rfl;have mF:=qG.c1 (p0 := "steps") X G fun _ _ _ _ _ _ _=>rfl;have du:=gc.c1 (p0 := "house") X G fun _ _ _ _ _ _ _=>rfl;have cA:=lj.c2 (p0 := "house") (p1 := "k") X G fun _ _ _ _ _ _ _ _=>rfl;have aL:=gg.c2 (p0 := "house") (p1 := "order") X G fun _ _ _ _ _ _ _ _=>rfl;have dY:=gC.c1 (p0 := "house") X G fun _ _ _ _ _ _ _=>rfl;have i5:=lE.c2 (p0 := "script") (p1 := "k") X G fun _ _ _ _ _ _ _ _=>rfl;have ax:=mn.c2 (p0 := "pool") (p1 := "many") X G fun _ _ _ _ _ _ _ _=>rfl;have dQ:=kr.c3 (p0 := "pool") (p1 := "many") (p2 := "kinds") X G fun _ _ _ _ _ _ _ _ _=>rfl;have gR:=ky.c1 (p0 := "pool") X G fun _ _ _ _ _ _ _=>rfl;have hU:=kb.c2 (p0 := "pool") (p1 := "many") X G fun _ _ _ _ _ _ _ _=>rfl;have dw:=lT.c2 (p0 := "house") (p1 := "order") X G fun _ _ _ _ _ _ _ _=>rfl;have gm:=je.c1 (p0 := "house") X G fun _ _ _ _ _ _ _=>rfl;have bp:=lC.c1 (p0 := "thing") X G fun _ _ _ _ _ _ _=>rfl;have dX:=gH.c2 (p0 := "house") (p1 := "k") X G fun _ _ _ _ _ _ _ _=>rfl;have eB:=jl.c2 (p0 := "house") (p1 := "order") X G fun _ _ _ _ _ _ _ _=>rfl;have dC:=gf.c2 (p0 := "house") (p1 := "due") X G fun _ _ _ _ _ _ _ _=>rfl;have gu:=jx.c3 (p0 := "pool") (p1 := "house") (p2 := "order") X G fun _ _ _ _ _ _ _ _ _=>rfl;have binit:=Finit.binds (ps:=["self","house"]) fun _ _ _ _ _ _ us hl=>match us,hl with | [_,_],_=>rfl
 have bhand_with:=Fhand_with.binds (ps:=["self","hand","number"]) fun _ _ _ _ _ _ us hl=>match us,hl with | [_,_,_],_=>rfl
 have bnext_behind:=Fnext_behind.binds (ps:=["self","opened","hand"]) fun _ _ _ _ _ _ us hl=>match us,hl with | [_,_,_],_=>rfl
 have uQ:=ae3 X G g_LETTERS;have lP:=ae3 X G g_MOST_LETTERS;have pw:=ae3 X G g_MOST_LOCKS;have av:=aej X G z_isinstance;have acs:=aej X G z_str;have cI:=aej X G z_len;have vN:=aej X G z_all;have bj:=aej X G z_list;have fX:=aej X G z_tuple;have gk:=aej X G z_sorted;have bU:=aej X G z_range;have adg:=aej X G z_set;have mX:=aej X G z_int;have bM:=aej X G z_enumerate;have nB:=aej X G z_bool;have jI:=aej X G z_reversed;have oY:=aej X G z_sum;have aaO:=aej X G z_min;have aaa:=aej X G z_max;have bS:=vh Fs ts;have mS:=ae3 X G as;refine⟨dl9,bl,fun base _ _=>?_⟩;have DC:qN K C:=⟨⟨pg,hd,po,sa⟩,n1,n2,n3⟩;have Gl:Glb mg:=⟨av,acs,cI,vN,⟨_,uQ⟩,⟨_,lP⟩⟩;have GK:=zo (P:=l.prog) (w:=w) (base:=base) lU.F qd.F xJ Gl bj;have GL:=zi lI.F GK iR cI gk ⟨_,pw⟩;have GR:=aal pJ.F GL rC GK iR av cI fX;have GH:=zm nZ.F GR xw GK iR av cI fX bj vN;have GQ:=abX gN.F GH vd;have GS:=zb Fs GQ eU cI;have GA:=aad (P:=l.prog) (w:=w) (mg:=mg) (base:=base) ki.F cI;have Gw:=aaV (P:=l.prog) (w:=w) (mg:=mg) (base:=base) lJ.F;have Gh:=abh (P:=l.prog) (w:=w) (mg:=mg) (base:=base) nI.F;have D1:=yk (P:=l.prog) (w:=w) (mg:=mg) (base:=base) Finit DC gk bM;have D2:=y3 (P:=l.prog) (w:=w) (mg:=mg) (base:=base) Fhand_with DC bj;have D3:=yH Fnext_behind DC Gh jY bM vN;have GT:=yv ox.F DC ⟨pg,hd,po,sa⟩ ⟨mk,ainit,iinit,kc⟩ (ae3 X G aC) D1 binit ⟨anext_behind,inext_behind,Fnext_behind.kp⟩ D3 bnext_behind ⟨ahand_with,ihand_with,Fhand_with.kp⟩ D2 bhand_with Gw aG;have W1:=yj (P:=l.prog) (w:=w) (mg:=mg) (base:=base) nJ.F nB mX av;have t_K:=mH x_K (acL y_K s_K) i_K xM;have t_O:=mH x_O (acL y_O s_O) i_O t_K;have xO:=zt x_O y_O t_O v_O;have m_O:=ae3 X G n_O;have t_N:=mH x_N (acL y_N s_N) i_N t_K;have xN:=zt x_N y_N t_N v_N;have m_N:=ae3 X G n_N;have E1:=aak qF.F Gw aG bj jI oY;have E2:=aaI qG.F Gw aG;have E3:=aa0 gc.F GS mS Fs.kp bS GT bw GA bz E1 df;have E4:=zh gC.F GS mS Fs.kp bS GT bw E2 mF oY;have E5:=abL lj.F GS mS Fs.kp bS GT bw GA bz E1 df Gw aG W1 eO m_N xN;have E6:=abm gg.F GS mS Fs.kp bS GT bw GA bz E1 df Gw aG W1 eO av bj oY m_O xO;have L1:=yR (P:=l.prog) (w:=w) (mg:=mg) (base:=base) lE.F cI mX;have L2:=aa3 (P:=l.prog) (w:=w) (mg:=mg) (base:=base) mn.F;have L3:=wg kr.F L2 ax cI bU;have L4:=xC ky.F L2 ax bU;have L5:=xf kb.F L2 ax L3 dQ L4 gR bU gk;have L6:=yZ (P:=l.prog) (w:=w) (mg:=mg) (base:=base) lT.F cI bj bU;have L7:=uS je.F L6 dw;have L8:=wL (P:=l.prog) (w:=w) (mg:=mg) (base:=base) lC.F bp fX av bj 4;have N1:=aaD gH.F E5 cA m_N xN;have N2:=aaj jl.F E6 aL m_O xO;have N3:=zf gf.F (FnOk.calm E5) cA (FnOk.calm E6) aL av bj bU bM;have N4:=uz jx.F L2 ax cI bj;exact abE Fl L1 i5 L2 ax L5 hU L7 gm L6 dw L8 bp N1 dX N2 eB N3 dC N4 gu E3 du E4 dY cI bU aaa aaO mX nB av bj
theorem walk {l:PySem.W.OpenLaw}{q:Program}{loose:List Str}{XP:(Str->Option Value)->Heap->Prop}{YP:World->Heap->Prop}{d:DefRec}{K:Params->PySem.W.Frag}(hn:l.most=some 63)(hdf:d.params.defaults=[])
 (hY:∀ (w:World) (h:Heap),YP w h->(K w.params).In h)
 (F:∀ (w:World) (mg:Str->Option Value) (fa:Addr) (h:Heap),(K w.params).In h->h.Ns mainGlobals mg->mg d.name=some (.ref fa) →
  ∃ fd:FuncData,(∀ (s:Shared) (u:Value),BindsTo s fd ⟨[u],[]⟩ [("script",u)])/\∀ base:Heap,(K w.params).In base->base.Ns mainGlobals mg->FnOk l.prog w (K w.params) mg base CX0 11 fa fd ["script"] (yi (K w.params))) :
 PySem.W.WalkO q loose XP YP l.row.toRowW d [] (fun f vs=>PySem.call f vs) :=
 L2.walk_of (n:=63) (k:=11) (x := "script") (CX:=fun _=>CX0) (sp:=fun w=>yi (K w.params)) hn (by decide) hdf ⟨rfl,by decide,by decide⟩ hY F (fun _ _ a ns hl _ hS=>⟨a,ns,rfl,hS,fun _=>rfl⟩) fun _ _ _ _ _ z=>z
end K7
namespace PySem.W.Fast
def tw10197284999501484333:=0
def tw10448590884077011289:=0
def tw10590847355035843011:=0
def tw1063125573934682057:=0
def tw10814650496053174252:=0
def tw11600440929049026200:=0
def tw1187119217566586881:=0
def tw12023247484996101143:=0
def tw12093036571660694555:=0
def tw12832843165281593437:=0
def tw1311225046572057148:=0
def tw13368585955938604872:=0
def tw13381177313935382933:=0
def tw13424957401627050184:=0
def tw14393874769072397065:=0
def tw14584973327004659288:=0
def tw14634411591916034971:=0
def tw1516118540808104755:=0
def tw15579176097380301512:=0
def tw15629024335350227318:=0
def tw15631782181619648647:=0
def tw15834015449843663100:=0
def tw15966202128572045936:=0
def tw16476150533186008659:=0
def tw17479332064383255254:=0
def tw17594651226376010279:=0
def tw17798567023204459590:=0
def tw17949796624792310759:=0
def tw1797335272977993568:=0
def tw18121258145453505508:=0
def tw1850427272986143310:=0
def tw218889692815828846:=0
def tw2210758879470432088:=0
def tw2470285883896778428:=0
def tw2839482605134078555:=0
def tw2974972119355596385:=0
def tw3008115628842039972:=0
def tw30968591874454017:=0
def tw3206791863850707842:=0
def tw3218259127542867044:=0
def tw3237046836675025922:=0
def tw3280461364388062525:=0
def tw3412893960865581110:=0
def tw3477145185049585052:=0
def tw3734471934658832626:=0
def tw3823006725991798000:=0
def tw3855190382366531177:=0
def tw4172719637187986161:=0
def tw434789176008585607:=0
def tw4589181978964081250:=0
def tw4622256864503952010:=0
def tw4684693595668298323:=0
def tw4901852729477963693:=0
def tw4962541060734094974:=0
def tw5147530163764341846:=0
def tw5361048352262749617:=0
def tw5546704938785207721:=0
def tw5583333370754069836:=0
def tw5865181900670448535:=0
def tw5900503519522294945:=0
def tw6060532163054619749:=0
def tw6507210073125869809:=0
def tw6508865541796600538:=0
def tw6572107937232982766:=0
def tw6699668720708887944:=0
def tw707549145412514876:=0
def tw7699550221177561795:=0
def tw7866167337312680616:=0
def tw7993121655124160821:=0
def tw8693715032811824326:=0
def tw871588539546785029:=0
def tw90671774787619767:=0
def tw9293728077879622808:=0
def tw929680858236308817:=0
def tw9597964050947829453:=0
def tw9633301503780094199:=0
def tw9693747784970222931:=0
end PySem.W.Fast
open PySem PySem.W PyProof.Rows
set_option maxRecDepth 100000 in
set_option maxHeartbeats 0 in
theorem PySem.Challenge.cw_keyrooms_k28_orders_counted_and_told_holds : PySem.Challenge.rw_keyrooms_k28_orders_counted_and_told.Holds := by
  w_on; o_law; k_head; (case hw => w_witness2)
  k_fill
  refine K7.walk (l := PySem.Challenge.rw_keyrooms_k28_orders_counted_and_told) rfl rfl (fun w h Y => PySem.W.kIn_of Y) ?F
  case F =>
    intro w mg fa h KX G hmg
    refine' K7.all_mk KX G hmg ⟨_,L2.fun_mk _ _ _⟩ ⟨_,L2.fun_mk _ _ _⟩ ⟨_,L2.fun_mk _ _ _⟩ ⟨_,L2.fun_mk _ _ _⟩ ⟨_,L2.fun_mk _ _ _⟩ ⟨_,L2.fun_mk _ _ _⟩ ⟨_,L2.fun_mk _ _ _⟩ ⟨_,L2.fun_mk _ _ _⟩ ⟨_,L2.fun_mk _ _ _⟩ ⟨_,L2.fun_mk _ _ _⟩ ⟨_,L2.fun_mk _ _ _⟩ ⟨_,L2.fun_mk _ _ _⟩ ⟨_,L2.fun_mk _ _ _⟩ ⟨_,L2.fun_mk _ _ _⟩ ⟨_,L2.fun_mk _ _ _⟩ ⟨_,L2.fun_mk _ _ _⟩ ⟨_,L2.fun_mk _ _ _⟩ ⟨_,L2.fun_mk _ _ _⟩ ⟨_,L2.fun_mk _ _ _⟩ ⟨_,L2.fun_mk _ _ _⟩ ⟨_,L2.fun_mk _ _ _⟩ ⟨_,L2.fun_mk _ _ _⟩ ⟨_,L2.fun_mk _ _ _⟩ ⟨_,L2.fun_mk _ _ _⟩ ⟨_,L2.fun_mk _ _ _⟩ ⟨_,L2.fun_mk _ _ _⟩ ⟨_,L2.fun_mk _ _ _⟩ ⟨_,L2.fun_mk _ _ _⟩ ⟨_,L2.fun_mk _ _ _⟩ _ _ _ (L2.fun_mk _ _ _) _ _ (L2.fun_mk _ _ _) _ _ (L2.fun_mk _ _ _) _ _ _ _ _ _ _ _ _ _ (K7.fund_mk _ _ _) _ _ (L2.fun_mk _ _ _) ?bl _ _ _ _ _ _ _ _ _ _ _ _ _ _ _ _ _ _ _ _ _ _ _ _ ?s_K _ ?v_K _ _ ?s_O _ ?v_O _ _ ?s_N _ ?v_N
    (case bl => exact fun s v => .of_eq rfl)
    any_goals k_is
    (case s_K => first | rfl | decide | decide +kernel)
    (case v_K => first | rfl | decide | decide +kernel)
    (case s_O => first | rfl | decide | decide +kernel)
    (case v_O => first | rfl | decide | decide +kernel)
    (case s_N => first | rfl | decide | decide +kernel)
    (case v_N => first | rfl | decide | decide +kernel)
