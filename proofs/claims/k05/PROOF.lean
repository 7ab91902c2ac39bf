import PyProof.Rows.All
import Wide.All
import OpenK.AllK
import Wide.FinOn
import Lean
import PyProof.EqAt
import PyProof.EqKinds
import PyProof.TupleCall
import PyProof.Rows.SetFrom
import PyProof.SetRoads
import KE.KDictSum
import PyProof.DictCompW
import KE.KEqDict
import KE.KxText
import PyProof.WalksEnum
import PyProof.EnumMake
import KE.KDictLaws
import PyProof.Rows.SortStr
import PyProof.ReprBulk
import KE.KRevSl
import PyProof.AttrMissHeap
import KE.KDictOf
import PyProof.ZipIter
import PyProof.ListRange
import PyProof.StationsW
import PyProof.ExcClass3
import PyProof.RulesTry
import PyProof.RulesAs
import PyProof.NsDelKeeps
import PyProof.ExcInit
import PyProof.ExcArgsOwn
import PyProof.Rows.ReprShort
import PyProof.Rows.StrRev
import PyProof.Rows.StrSplitMax
import KE.KIntText
import PySem.Challenge.RW_keyrooms_k05_whole_orders_gone
set_option Elab.async false
set_option linter.all false
set_option maxRecDepth 100000
set_option maxHeartbeats 4000000
open PySem.W (instObj methodObj hideAll lookIn InstAt plainGet findIn specialIn takesIn kitOne kitx_list kitx_dict keepIn fnOf codeIn Looks readsIn findCls nsOkIn tailIn nsIn tail_of_in)
def xm:=@List.getElem?_eq_getElem
def xn:=@List.length_map
def xo:=@PySem.wpAny_bind
def xp:=@List.getElem?_eq_some_iff
def xq:=@List.length_append
def xr:=@List.mem_singleton
def xt:=@Bool.false_ne_true
def xu:=@List.mem_cons_of_mem
def xw:=@PySem.Heap.get?_push_of_some
def xx:=@Nat.le_refl
def xy:=@PyProof.Rows.wpS_bind
def xA:=@List.mem_cons
def xB:=@List.append_assoc
def xC:=@PySem.wpAny_pure
def xD:=@List.mem_cons_self
def xE:=@Nat.le_trans
def xF:=@PySem.Heap.lt_size
def xG:=@List.mem_append
def xH:=@PyProof.Rows.wpS_pure
def xI:=@List.size_toArray
def xJ:=@Array.length_toList
def xK:=@decide_eq_true
def xM:=@decide_eq_false
def xN:=@List.length_take
def xO:=@List.getElem?_map
def xP:=@Nat.lt_of_lt_of_le
def xQ:=@congrArg
def xR:=@List.map_append
def xS:=@Nat.zero_le
def xT:=@beq_iff_eq
def xU:=@PySem.boot_len
def xV:=@List.mem_of_getElem?
def xW:=@List.length_replicate
def xX:=@List.getElem?_append_right
def xY:=@Nat.ne_of_lt
def xZ:=@Ne.symm
def ye:=@List.mem_append_right
def yf:=@Int.toNat_natCast
def yg:=@List.append_nil
def yh:=@List.map_cons
def yi:=@PySem.F.plainAttrs_list
def yj:=@Array.getElem?_eq_some_iff
def ym:=@PySem.Heap.get?_push_size
def yn:=@List.take_add_one
def yp:=@PySem.W.mg_none_of
def yq:=@List.take_append_of_le_length
def yr:=@List.getElem?_append_left
def yt:=@List.take_append_drop
def yu:=@Bool.and_eq_true
def yv:=@List.take_length
def yw:=@List.pairwise_append
def yx:=@List.length_cons
def yy:=@List.getElem_mem
def yz:=@Option.some.inj
def yA:=@PySem.Heap.get?_update_other
def yB:=@List.take_of_length_le
def yC:=@List.count_append
def yD:=@PySem.wpAny_ite_false
def yE:=@PyProof.Rows.wpS_forRange
def yF:=@PySem.PassesOwn.never
def yG:=@Nat.lt_of_le_of_lt
def yH:=@Array.getElem?_toList
def yI:=@Nat.add_le_add_left
def yJ:=@PySem.wpAny_truthy_bool
def yK:=@List.mem_of_mem_drop
def yL:=@List.mem_of_mem_take
def yM:=@PySem.W.kia_one
def yN:=@List.drop_zero
def yO:=@List.extract_eq_take_drop
def yP:=@List.not_mem_nil
def yQ:=@PySem.Heap.get?_update_self
def yR:=@List.flatten_cons
def yS:=@PySem.F.slot_list_append
def yT:=@PySem.F.type_list_append
def yU:=@Nat.lt_irrefl
def yV:=@List.length_drop
def yW:=@List.all_eq_true
def yX:=@PySem.wpAny_typeOf_ref
def yY:=@List.replicate_succ
def yZ:=@PySem.wpAny_holding
def y3:=@List.pairwise_iff_getElem
def y6:=@Nat.le_of_lt
def y8:=@List.length_singleton
def y9:=@List.length_filter_le
def za:=@PySem.wpAny_mono
def zb:=@List.pairwise_cons
def zc:=@List.mem_iff_getElem
def zd:=@Array.toList_extract
def ze:=@PySem.W.mg_of
def zf:=@of_decide_eq_true
def zg:=@List.flatMap_cons
def zh:=@List.filterMap_cons
def zi:=@PyProof.Rows.callWith_type1
def zj:=@Nat.min_eq_left
def zk:=@List.getElem?_set_self
def zm:=@List.drop_of_length_le
def zo:=@List.Perm.append_right
def zq:=@List.flatten_singleton
def zt:=@List.getD_eq_getElem?_getD
def zu:=@Array.perm_iff_toList_perm
def zv:=@List.filter_cons
def zw:=@Bool.false_eq_true
def zx:=@PyProof.Rows.wpS_mono
def zy:=@List.Perm.append_left
def zz:=@List.filter_append
def zA:=@List.drop_eq_getElem_cons
def zB:=@Int.le_refl
def zC:=@PySem.Heap.get?_none_of_le
def zE:=@PySem.wpAny_passesOwn
def zF:=@List.getElem?_take_of_lt
def zG:=@PyProof.Rows.KeyOrd.kle_refl
def zH:=@List.eq_of_mem_replicate
def zI:=@PySem.W.hideAll_get
def zJ:=@PySem.mem_of_lookup
def zK:=@PySem.wpAny_getItem_str_slice
def zL:=@List.flatten_append
def zM:=@List.flatMap_append
def zN:=@Nat.min_le_right
def zO:=@PyProof.Rows.KeyOrd.kle_trans
def zP:=@PyProof.Rows.wpS_modify
def zQ:=@PySem.Heap.get?_update_of_ne
def zR:=@PySem.wpAny_Call_Name_kw
def zS:=@List.nodup_cons
def zT:=@Nat.le_succ
def zU:=@Nat.sub_self
def zV:=@List.perm_append_comm
def zW:=@List.filter_nil
def zX:=@List.length_range
def zY:=@PyProof.Rows.KeyOrd.kle_of_klt
def zZ:=@PySem.W.hideAll_none
def z4:=@List.mem_append_left
def z5:=@List.getElem?_set_ne
def z6:=@PySem.F.store_object
def z7:=@List.take_zero
def z8:=@List.drop_drop
def z9:=@List.mem_filter
def aaa:=@PySem.wpAny_execs_nil
def aab:=@List.getElem?_replicate
def aac:=@List.foldl_cons
def aad:=@List.eraseIdx_cons_succ
def aae:=@Nat.min_le_left
def aaf:=@Int.emod_lt_of_pos
def aag:=@PySem.Obj.data_mapFields
def aah:=@decide_eq_true_iff
def aai:=@List.eraseIdxIfInBounds_toArray
def aaj:=@List.getElem_take
def aak:=@PyProof.Rows.boot_sorted
def aal:=@PySem.wpAny_loadPart_at
def aam:=@List.mem_range
def aan:=@List.take_take
def aao:=@PyProof.Rows.callWith_builtin1
def aap:=@PySem.Obj.isFreed_of_fields
def aaq:=@List.lookup_cons
def aar:=@beq_self_eq_true
def aas:=@List.drop_append_of_le_length
def aat:=@List.eq_nil_of_length_eq_zero
def aau:=@List.mem_flatMap
def aav:=@List.mem_erase_of_ne
def aaw:=@List.replicate_succ'
def aax:=@PySem.wpAny_standAt
def aay:=@if_false
def aaz:=@List.all_cons
def aaA:=@List.any_cons
def aaB:=@Bool.true_and
def aaC:=@List.sum_cons
def aaD:=@PySem.wpAny_call
def aaE:=@PySem.wpAny_rule
def aaF:=@Bool.eq_iff_iff
def aaG:=@PySem.post_val_or_str
def aaH:=@PyProof.Rows.wpS_get
def aaI:=@List.drop_length_add_append
def aaJ:=@Int.emod_nonneg
def aaK:=@List.perm_iff_count
def aaL:=@PySem.wpAny_field
def aaN:=@List.getElem?_take_eq_none
def aaO:=@PySem.F.excBase_ValueError
def aaP:=@PySem.W.of_hideAll
def aaQ:=@PySem.codeAny_mono
def aaR:=@PySem.W.callWith_K
def aaS:=@List.all_map
def aaT:=@Nat.add_zero
def aaU:=@List.contains_cons
def aaV:=@if_true
def aaW:=@PySem.Heap.size_push
def aaX:=@PySem.wpAny_loadPart
def aaZ:=@PySem.wpAny_ite_true
def aa0:=@PySem.wpAny_setField
def aa1:=@PySem.wpAny_pyIter_list
def aa2:=@List.take_sublist
def aa3:=@PySem.call_meets
def aa5:=@PySem.wpAny_newObj_type
def aa6:=@Nat.lt_succ_of_lt
def aa7:=@Bool.not_eq_true'
def aa8:=@List.length_erase_of_mem
def aa9:=@List.getElem_drop
def aba:=@List.foldl_append
def abb:=@PySem.F.slot_list_remove
def abc:=@PySem.F.type_list_remove
def abd:=@PySem.F.slot_list_count
def abe:=@PySem.F.type_list_count
def abf:=@decide_eq_false_iff_not
def abg:=@PySem.Heap.size_update
def abh:=@List.flatMap_nil
def abi:=@PySem.W.cellsFrom_some
def abl:=@List.length_pos_of_mem
def abn:=@Nat.ne_of_gt
def abo:=@List.of_mem_zip
def abp:=@List.nil_append
def abq:=@List.map_nil
def abr:=@List.forIn_cons
def abt:=@PySem.Txt.slice_le
def abu:=@Nat.not_lt_zero
def abv:=@List.Pairwise.sublist
def abw:=@List.singleton_append
def aby:=@Nat.zero_add
def abz:=@List.eq_nil_or_concat
def abA:=@List.concat_eq_append
def abB:=@PySem.W.tailIn.eq_def
def abD:=@or_false
def abM:=@List.Perm.refl
def abN:=@List.drop_left
def abO:=@List.take_left
def ab3:=@Bool.and_self
def ab5:=@List.map_take
def aco:=@List.map_map
def acp:=@Bool.or_true
namespace L2
open PySem PySem.Spec PyProof.Rows
abbrev Key:=Sum Int Str
def uK:Key->Value->Bool
 | .inl k,v=>Value.isInt k v
 | .inr x,v=>Value.isStrOf x v
def xb (w:World):Key->Int
 | .inl k=>hashInt k
 | .inr x=>hashStr w x
theorem bz:∀ {k:Key} {v:Value},uK k v=true->(∃ i t,k=Sum.inl i/\v=Value.int i t)\/(∃ x t,k=Sum.inr x/\v=Value.str x t)
 | .inl i,v,h=>by
  obtain⟨t,e⟩:=Value.isInt_shape (k:=i) (v:=v) h;exact .inl ⟨i,t,rfl,e⟩
 | .inr x,v,h=>by
  obtain⟨t,e⟩:=Value.isStrOf_shape (x:=x) (v:=v) h;exact .inr ⟨x,t,rfl,e⟩
theorem uv (a b:Int):decide ((Sum.inl a:Key)=Sum.inl b)=(a == b):=by
 by_cases e:a=b
 ·subst e;simp
 ·have h:¬ (Sum.inl a:Key)=Sum.inl b:=fun q=>e (Sum.inl.inj q);rw [xM h];exact (beq_eq_false_iff_ne.mpr e).symm
theorem uT (a b:Str):decide ((Sum.inr a:Key)=Sum.inr b)=decide (a=b):=by
 by_cases e:a=b
 ·subst e;simp
 ·have h:¬ (Sum.inr a:Key)=Sum.inr b:=fun q=>e (Sum.inr.inj q);rw [xM h,xM e]
theorem vq (a:Int)(b:Str):decide ((Sum.inl a:Key)=Sum.inr b)=false:=xM (fun q=>nomatch q)
theorem vh (a:Str)(b:Int):decide ((Sum.inr a:Key)=Sum.inl b)=false:=xM (fun q=>nomatch q)
def lI (prog:Program)(w:World):PySem.KeyKind prog w Key where
 is:=uK
 hash:=xb w
 inj:=fun v a b ha hb=>by
  rcases bz ha with ⟨i,t,rfl,rfl⟩ | ⟨x,t,rfl,rfl⟩
  ·rcases bz hb with ⟨j,u,rfl,e⟩ | ⟨y,u,rfl,e⟩
   ·injection e with e1 _;rw [e1]
   ·exact nomatch e
  ·rcases bz hb with ⟨j,u,rfl,e⟩ | ⟨y,u,rfl,e⟩
   ·exact nomatch e
   ·injection e with e1 _;rw [e1]
 byValue:=fun k v h=>by
  rcases bz h with ⟨i,t,rfl,rfl⟩ | ⟨x,t,rfl,rfl⟩<;>rfl
 pyHash:=fun hv h=>by
  rcases bz hv with ⟨i,t,rfl,rfl⟩ | ⟨x,t,rfl,rfl⟩
  ·exact wpAny_pyHash_int h
  ·exact wpAny_pyHash_str h
 eqBool:=fun hu hv h=>by
  rcases bz hu with ⟨i,t,rfl,rfl⟩ | ⟨x,t,rfl,rfl⟩
  ·rcases bz hv with ⟨j,u,rfl,rfl⟩ | ⟨y,u,rfl,rfl⟩
   ·rw [uv] at h;exact wpAny_eqBool_int h
   ·rw [vq] at h;exact SeqAt.EqAt.int_str i t y u _ _ _ _ h
  ·rcases bz hv with ⟨j,u,rfl,rfl⟩ | ⟨y,u,rfl,rfl⟩
   ·rw [vh] at h;exact SeqAt.EqAt.str_int x t j u _ _ _ _ h
   ·rw [uT] at h;exact wpAny_eqBool_str h
 «strs»:=fun k x t v h=>by
  rcases bz h with ⟨i,u,rfl,e⟩ | ⟨y,u,rfl,e⟩
  ·exact nomatch e
  ·injection e with e1 _
   subst e1;cases v<;>rfl
inductive V where
 | non | bl (b:Bool) | int (i:Int) | str (x:Str) | byt (b:Array UInt8) | flt (b:UInt64) | ref (a:Addr) | ty (n:String)
 deriving DecidableEq
def RelV:V->Value->Prop
 | .non,u=>u=Value.none
 | .bl b,u=>u=Value.bool b
 | .int i,u=>∃ t,u=Value.int i t
 | .str x,u=>∃ t,u=Value.str x t
 | .byt b,u=>∃ t,u=Value.bytes b t
 | .flt b,u=>∃ t,u=Value.float b t
 | .ref a,u=>u=Value.ref a
 | .ty n,u=>u=Value.type n
abbrev Vals:List V->List Value->Prop:=Paired RelV
theorem Vals.length {xs:List V}{us:List Value}(r:Vals xs us):xs.length=us.length:=Paired.length r
theorem Vals.get:∀ {xs:List V} {us:List Value} {i:Nat} {x:V},Vals xs us->xs[i]? = some x->∃ u,us[i]? = some u/\RelV x u
 | _,_,_,_,.nil,e=>by simp at e
 | _,_,0,_,.cons r _,e=>by simp at e;subst e;exact⟨_,rfl,r⟩
 | _,_,i+1,x,.cons _ t,e=>by
  obtain⟨u,h1,h2⟩:=Vals.get (i:=i) (x:=x) t (by simpa using e);exact⟨u,by simpa using h1,h2⟩
theorem Vals.set {x:V}{u:Value}(r:RelV x u):∀ {xs:List V} {us:List Value} (i:Nat),Vals xs us->Vals (xs.set i x) (us.set i u)
 | _,_,_,.nil=>.nil
 | _,_,0,.cons _ t=>.cons r t
 | _,_,i+1,.cons q t=>.cons q (Vals.set r i t)
theorem Vals.append:∀ {xs ys:List V} {us ws:List Value},Vals xs us->Vals ys ws->Vals (xs++ys) (us++ws)
 | _,_,_,_,.nil,s=>s
 | _,_,_,_,.cons r t,s=>.cons r (Vals.append t s)
theorem Vals.take:∀ {xs:List V} {us:List Value} (n:Nat),Vals xs us->Vals (xs.take n) (us.take n)
 | _,_,0,_=>.nil
 | _,_,_+1,.nil=>.nil
 | _,_,n+1,.cons r t=>.cons r (Vals.take n t)
theorem Vals.drop:∀ {xs:List V} {us:List Value} (n:Nat),Vals xs us->Vals (xs.drop n) (us.drop n)
 | _,_,0,r=>r
 | _,_,_+1,.nil=>.nil
 | _,_,n+1,.cons _ t=>Vals.drop n t
def vZ:Option V->Option Value->Prop
 | some v,some u=>RelV v u
 | none,none=>True
 | _,_=>False
def KV {κ:Type}:List (κ×V)->List (κ×Value)->Prop:=Paired fun (p:κ×V) (q:κ×Value)=>p.1=q.1/\RelV p.2 q.2
def kV:Key->V
 | .inl i=>.int i
 | .inr x=>.str x
inductive HO where
 | lst (xs:List V)
 | tup (xs:List V)
 | dK (kvs:List (Key×V)) | dT (kvs:List (List Key×V))
 | set (S:Int->Bool) (n:Nat)
 | ins (C dx:Addr) (fs:List (Str×V))
 | own (x:Addr)
 | xd (fs:List (Str×V))
 | met (f x:Addr)
 | rng (lo hi:Int)
 | frz (o:Obj) (u:HO)
 | tbl (ps:Array Value)
 | ext (φ:Heap->Prop)
abbrev Hp:=Addr->Option HO
def upd (H:Hp)(a:Addr)(o:HO):Hp:=fun b=>if b=a then some o else H b
theorem ag {H:Hp}{a:Addr}{o:HO}:upd H a o a=some o:=by unfold upd;rw [if_pos rfl]
theorem ai {H:Hp}{a b:Addr}{o:HO}(h:b≠a):upd H a o b=H b:=by unfold upd;rw [if_neg h]
theorem oX {H:Hp}{a b:Addr}{o u:HO}(h:H a=some o)(h':H b=some u)(d:o≠u):a≠b:=by
 intro e;subst e;rw [h] at h';exact d (yz h')
theorem af {H:Hp}{a b:Addr}{o:HO}(h:H a=some o)(h':H b=none):a≠b:=by
 intro e;subst e;rw [h] at h';cases h'
section
variable (P:Program)(w:World)
def ObjOk (H:Hp)(h:Heap)(a:Addr):HO->Prop
 | .lst xs=>xs.length<=sizeLine/\∃ (its:List Value) (n:Nat),Vals xs its/\h.get? a=some { cls:=.type "list",data:=.seq its.toArray n }
 | .tup xs=>xs.length<=sizeLine/\∃ its:List Value,Vals xs its/\IsTup h a its.toArray
 | .dK kvs=>kvs.length<=sizeLine/\(a == sysModules)=false/\∃ vs,KV kvs vs/\h.DictOf (lI P w) a vs
 | .dT kvs=>kvs.length<=sizeLine/\(a == sysModules)=false/\∃ xs:List (List Key×Addr×Value),
  Paired (fun (p:List Key×V) (q:List Key×Addr×Value)=>p.1=q.1/\H q.2.1=some (.tup (p.1.map kV))/\RelV p.2 q.2.2) kvs xs ∧
  ∃ o es ep,h.get? a=some o/\o.ExactDict/\o.data=.dict es ep/\es.toList=xs.map (entryOfKey (tupleKind (lI P w)))/\(xs.map (·.1)).Nodup
 | .set S n=>h.SetOf (intKind P w) a S n
 | .ins C dx fs=>H dx=some (.own a)/\fs.length<=1000/\dx≠a/\h.get? a=some (instObj C dx) ∧
  ∃ mA,h.Ns1 dx mA/\(∀ f,vZ (fs.lookup f) (mA f))/\PySem.Within mA (fs.map (·.1))
 | .own _=>∃ o,h.get? a=some o
 | .xd fs=>∃ mA,h.Ns1 a mA/\∀ f,vZ (fs.lookup f) (mA f)
 | .rng lo hi=>∃ t u v,h.get? a=some { cls:=.type "range",data:=.fields #[.int lo t,.int hi u,.int 1 v] }
 | .frz o u=>h.get? a=some o/\ObjOk H h a u
 | .tbl ps=>h.get? a=some { cls:=.none,data:=.fields ps }
 | .met f x=>h.get? a=some (methodObj (.ref f) (.ref x))
 | .ext φ=>φ h/\(∃ o,h.get? a=some o)/\∀ h1 h2:Heap,φ h1->(∀ o,h1.get? a=some o->h2.get? a=some o)->φ h2
def HOk (H:Hp)(h:Heap):Prop:=∀ a o,H a=some o->ObjOk P w H h a o
end
section
variable {P:Program}{w:World}{H H':Hp}{h h':Heap}{a:Addr}{o:HO}
theorem ObjOk.lt (x:ObjOk P w H h a o):a < h.objs.size:=by
 cases o with
 | lst xs=>obtain⟨_,_,_,_,e⟩:=x;exact xF e
 | tup xs=>obtain⟨_,_,_,p⟩:=x;exact p.lt
 | dK kvs=>obtain⟨_,_,_,_,o,_,_,e,_⟩:=x;exact xF e
 | dT kvs=>obtain⟨_,_,_,_,o,_,_,e,_⟩:=x;exact xF e
 | set S n=>obtain⟨o,_,_,_,e,_⟩:=x;exact xF e
 | ins C dx fs=>obtain⟨_,_,_,e,_⟩:=x;exact xF e
 | own y=>obtain⟨_,e⟩:=x;exact xF e
 | xd fs=>obtain⟨_,⟨_,_,_,e,_⟩,_⟩:=x;exact xF e
 | rng lo hi=>obtain⟨_,_,_,e⟩:=x;exact xF e
 | frz ob u=>obtain⟨e,_⟩:=x;exact xF e
 | tbl ps=>exact xF (show h.get? a=some _ from x)
 | met f y=>exact xF (show h.get? a=some _ from x)
 | ext φ=>obtain⟨_,⟨_,e⟩,_⟩:=x;exact xF e
theorem Paired.mapP {α β:Type}{F G:α->β->Prop}:∀ {l₁:List α} {l₂:List β},Paired F l₁ l₂->(∀ a b,F a b->G a b)->Paired G l₁ l₂
 | _,_,.nil,_=>.nil
 | _,_,.cons r t,f=>.cons (f _ _ r) (Paired.mapP t f)
theorem ObjOk.stay (x:ObjOk P w H h a o)(k:∀ b u,(b=a\/H b=some (.own a))->h.get? b=some u->h'.get? b=some u)
 (ho:∀ b,H b=some (.own a)->H' b=some (.own a))(ht:∀ b xs,H b=some (.tup xs)->H' b=some (.tup xs)):ObjOk P w H' h' a o:=by
 induction o with
 | lst xs=>obtain⟨z,its,n,r,e⟩:=x;exact⟨z,its,n,r,k _ _ (.inl rfl) e⟩
 | tup xs=>obtain⟨z,its,r,ob,e,c⟩:=x;exact⟨z,its,r,ob,k _ _ (.inl rfl) e,c⟩
 | dK kvs=>obtain⟨z,y,vs,r,ob,es,ep,e,c⟩:=x;exact⟨z,y,vs,r,ob,es,ep,k _ _ (.inl rfl) e,c⟩
 | dT kvs =>
  obtain⟨z,y,xs,r,ob,es,ep,e,c⟩:=x;exact⟨z,y,xs,Paired.mapP r fun p q z=>⟨z.1,ht _ _ z.2.1,z.2.2⟩,ob,es,ep,k _ _ (.inl rfl) e,c⟩
 | set S n=>obtain⟨ob,es,ep,t,e,c⟩:=x;exact⟨ob,es,ep,t,k _ _ (.inl rfl) e,c⟩
 | ins C dx fs =>
  obtain⟨d,z,ne,e,mA,⟨od,es,ep,e2,c⟩,r⟩:=x;exact⟨ho _ d,z,ne,k _ _ (.inl rfl) e,mA,⟨od,es,ep,k _ _ (.inr d) e2,c⟩,r⟩
 | own y=>obtain⟨ob,e⟩:=x;exact⟨ob,k _ _ (.inl rfl) e⟩
 | xd fs=>obtain⟨mA,⟨od,es,ep,e,c⟩,r⟩:=x;exact⟨mA,⟨od,es,ep,k _ _ (.inl rfl) e,c⟩,r⟩
 | rng lo hi=>obtain⟨t,u,v,e⟩:=x;exact⟨t,u,v,k _ _ (.inl rfl) e⟩
 | frz ob u ih=>obtain⟨e,q⟩:=x;exact⟨k _ _ (.inl rfl) e,ih q⟩
 | tbl ps =>
  have e:h.get? a=some { cls:=.none,data:=.fields ps }:=x;show h'.get? a=some { cls:=.none,data:=.fields ps };exact k a _ (.inl rfl) e
 | met f y =>
  have e:h.get? a=some (methodObj (.ref f) (.ref y)):=x;show h'.get? a=some (methodObj (.ref f) (.ref y));exact k a _ (.inl rfl) e
 | ext φ=>obtain⟨p,⟨o,e⟩,st⟩:=x;exact⟨st _ _ p fun o q=>k _ _ (.inl rfl) q,⟨o,k _ _ (.inl rfl) e⟩,st⟩
theorem HOk.lt (x:HOk P w H h)(e:H a=some o):a < h.objs.size:=(x a o e).lt
theorem HOk.fresh (x:HOk P w H h)(e:h.objs.size<=a):H a=none:=by
 cases q:H a with
 | none=>rfl
 | some u=>exact absurd (xP (x.lt q) e) (yU _)
theorem HOk.kept (x:HOk P w H h)(k:∀ b u,h.get? b=some u->h'.get? b=some u):HOk P w H h':=fun a o e =>
 (x a o e).stay (fun b u _ q=>k b u q) (fun _ q=>q) fun _ _ q=>q
theorem HOk.laid (x:HOk P w H h)(k:∀ b u,h.get? b=some u->h'.get? b=some u)(hp:h.objs.size<=a)(new:ObjOk P w (upd H a o) h' a o):HOk P w (upd H a o) h':=fun b u e=>by
 have hn:=x.fresh hp;by_cases hb:b=a
 ·subst hb;rw [ag] at e;cases e;exact new
 ·rw [ai hb] at e;exact (x b u e).stay (fun c v _ q=>k c v q) (fun c q=>by rw [ai (af q hn)];exact q) fun c xs q=>by rw [ai (af q hn)];exact q
end
def Rd (H:Hp)(a:Addr)(u:HO):Prop:=H a=some u\/∃ o,H a=some (.frz o u)
theorem Rd.ok {P:Program}{w:World}{H:Hp}{h:Heap}{a:Addr}{u:HO}(r:Rd H a u)(x:HOk P w H h):ObjOk P w H h a u:=by
 rcases r with r | ⟨o,r⟩
 ·exact x a u r
 ·obtain⟨_,q⟩:=x a _ r;exact q
def Mut:Option HO->Prop
 | some (.lst _)=>True
 | some (.dK _)=>True
 | some (.dT _)=>True
 | some (.set _ _)=>True
 | some (.ins _ _ _)=>True
 | some (.ext _)=>True
 | _=>False
section
variable {P:Program}{w:World}{H:Hp}{h h':Heap}{x e:Addr}{o':HO}
theorem HOk.write (ok:HOk P w H h)(mu:Mut (H x))(he:e=x\/H e=some (.own x))(k:∀ b u,b≠e->h.get? b=some u->h'.get? b=some u)(heo:∃ u,h'.get? e=some u)
 (new:ObjOk P w (upd H x o') h' x o'):HOk P w (upd H x o') h':=fun b u q=>by
 have nown:∀ c y,H c=some (.own y)->c≠x:=fun c y r z=>by subst z;rw [r] at mu;exact mu
 have ntup:∀ c xs,H c=some (.tup xs)->c≠x:=fun c xs r z=>by subst z;rw [r] at mu;exact mu
 by_cases hb:b=x
 ·subst hb;rw [ag] at q;cases q;exact new
 ·rw [ai hb] at q;by_cases hbe:b=e
  ·have q':H b=some (.own x):=by
    rcases he with z | z
    ·exact absurd (hbe.trans z) hb
    ·rw [hbe];exact z
   rw [q] at q';cases q';obtain⟨v,hv⟩:=heo;exact⟨v,by rw [hbe];exact hv⟩
  ·refine (ok b u q).stay (fun c v hc r=>k c v ?_ r) (fun c r=>by rw [ai (nown c b r)];exact r) fun c xs r=>by rw [ai (ntup c xs r)];exact r
   rcases hc with rfl | hc
   ·exact hbe
   ·rintro rfl;rcases he with z | z
    ·exact nown c b hc z
    ·rw [hc] at z;cases z;exact hb rfl
end
structure Un (fs ex:List Addr)(H H':Hp)(h h':Heap):Prop where
 keep:∀ b o,h.get? b=some o->H b=none->b ∉ fs->b ∉ ex->h'.get? b=some o
 slot:∀ b o,h.get? b=some o->H b=none->b∈fs->b ∉ ex->∃ sl,h'.get? b=some { o with slots:=sl }
 free:∀ b o,h.get? b=some o->H b=none->b ∉ ex->H' b=none
 there:∀ b o,h.get? b=some o->b ∉ ex->∃ o',h'.get? b=some o'
 tups:∀ b xs,H b=some (.tup xs)->H' b=some (.tup xs)
 frzs:∀ b o u,H b=some (.frz o u)->H' b=some (.frz o u)
 tbls:∀ b ps,H b=some (.tbl ps)->∃ more,H' b=some (.tbl (ps++more))
section
variable {fs fs' ex ex':List Addr}{H H1 H2:Hp}{h h1 h2 h':Heap}{a x e:Addr}{o:HO}
theorem Un.any (u:Un fs ex H H1 h h1){b:Addr}{ob:Obj}(q:h.get? b=some ob)(n:H b=none)(hx:b ∉ ex):∃ sl,h1.get? b=some { ob with slots:=sl }:=by
 by_cases hb:b∈fs
 ·exact u.slot b ob q n hb hx
 ·exact⟨ob.slots,u.keep b ob q n hb hx⟩
theorem Un.kept (k:∀ b u,h.get? b=some u->h'.get? b=some u):Un fs ex H H h h' :=
 ⟨fun b ob q _ _ _=>k b ob q,fun b ob q _ _ _=>⟨ob.slots,k b ob q⟩,fun _ _ _ n _=>n,fun b ob q _=>⟨ob,k b ob q⟩,fun _ _ q=>q,fun _ _ _ q=>q,fun _ ps q=>⟨#[],by rw [q];simp⟩⟩
theorem Un.refl:Un fs ex H H h h:=Un.kept fun _ _ q=>q
theorem Un.laid (k:∀ b u,h.get? b=some u->h'.get? b=some u)(hp:h.objs.size<=a)(hn:H a=none):Un fs ex H (upd H a o) h h' where
 keep:=fun b u q _ _ _=>k b u q
 slot:=fun b u q _ _ _=>⟨u.slots,k b u q⟩
 free:=fun b u q n _=>by rw [ai (xY (xP (xF q) hp))];exact n
 there:=fun b u q _=>⟨u,k b u q⟩
 tups:=fun b xs q=>by rw [ai (af q hn)];exact q
 frzs:=fun b u xs q=>by rw [ai (af q hn)];exact q
 tbls:=fun b ps q=>⟨#[],by rw [ai (af q hn),q];simp⟩
theorem Un.write (mu:Mut (H x))(he:e=x\/H e=some (.own x))(k:∀ b u,b≠e->h.get? b=some u->h'.get? b=some u)(heo:∃ u,h'.get? e=some u):Un fs ex H (upd H x o) h h':=by
 have hx:∀ b,H b=none->b≠x:=fun b n z=>by subst z;rw [n] at mu;exact mu
 have hb:∀ b,H b=none->b≠e:=fun b n z=>by
  subst z;rcases he with r | r
  ·exact hx b n r
  ·rw [n] at r;cases r
 have hm:∀ b u,H b=some u->¬ Mut (some u)->b≠x:=fun b u q nm z=>by subst z;rw [q] at mu;exact nm mu
 refine⟨fun b u q n _ _=>k b u (hb b n) q,fun b u q n _ _=>⟨u.slots,k b u (hb b n) q⟩,fun b u q n _=>by rw [ai (hx b n)];exact n,fun b u q _=>?_,
  fun b xs q=>by rw [ai (hm b _ q fun z=>z)];exact q,fun b u xs q=>by rw [ai (hm b _ q fun z=>z)];exact q,fun b ps q=>⟨#[],by rw [ai (hm b _ q fun z=>z),q];simp⟩⟩
 by_cases hbe:b=e
 ·subst hbe;exact heo
 ·exact⟨u,k b u hbe q⟩
end
def trk (h:Heap)(H:Hp):List Addr:=(List.range h.objs.size).filter fun a=>(H a).isSome
def rq (h:Heap)(H:Hp):Heap:=hideAll h (trk h H)
theorem pZ (h:Heap)(H:Hp):(rq h H).objs.size=h.objs.size:=PySem.W.hideAll_size _ _
theorem qJ {h:Heap}{H:Hp}{b:Addr}{o:Obj}(e:h.get? b=some o)(n:H b=none):(rq h H).get? b=some o :=
 zI _ e fun hm=>by
  have q:(H b).isSome=true:=(z9.mp hm).2;rw [n] at q;simp at q
theorem tO {h:Heap}{H:Hp}{b:Addr}{o:Obj}(e:(rq h H).get? b=some o):h.get? b=some o/\H b=none:=by
 have e':h.get? b=some o:=aaP (trk h H) e;refine⟨e',?_⟩;cases q:H b with
 | none=>rfl
 | some x =>
  have hm:b∈trk h H:=z9.mpr ⟨aam.mpr (xF e'),by simp [q]⟩;have z:(rq h H).get? b=none:=zZ (trk h H) hm;rw [z] at e;cases e
def ub (g h:Heap)(L:Addr):List (Addr×Obj):=(List.range h.objs.size).filterMap fun a=>if a=L\/(g.get? a).isSome=true then none else (h.get? a).map fun o=>(a,o)
def rest (g h:Heap)(L d:Addr):List (Addr×Obj):=(ub g h L).filter fun p=>decide (p.1≠d)
structure Mod (K:PySem.W.Frag)(mg:Str->Option Value)(base:Heap):Prop where
 kin:K.In base
 glob:base.Ns mainGlobals mg
 blt:∃ mb,base.Ns builtinsNs mb/\∀ x:Str,x ≠ "__name__" → mb x=bootBuiltins x
 nolimit:base.NoLimit
structure Cx where
 prog:Program
 w:World
 K:PySem.W.Frag
 mg:Str->Option Value
 base:Heap
 A:Around
 N:List Str
 s₀:Shared
 H₀:Hp
 env:Env
 outer:List Env
 stack:List Env
 ex:List Addr
 fn:Str->Bool
 calm:Bool
 pn:List (Addr×Obj)
 xe:Value->Shared->Prop
def frs (l:List Env):List Addr:=l.filterMap (·.frame)
abbrev Cx.fs (X:Cx):List Addr:=frs X.outer
def Vis (sc:Scope)(x:Str):Prop:=sc.names.lookup x=some .local\/sc.names.lookup x=some .cell\/sc.names.lookup x=some .free
def Loc (sc:Scope)(x:Str):Prop:=sc.names.lookup x=some .local\/sc.names.lookup x=some .cell
def wI (env:Env)(h:Heap)(m:Str->Option Value)(x:Str)(u:Value):Prop :=
 (env.kindOf x=some .local/\m x=some u)\/((env.kindOf x=some .cell\/env.kindOf x=some .free)/\∃ c,env.cells.lookup x=some c/\h.IsCell c (some u))
structure Cx.Ok (X:Cx):Prop where
 mod:Mod X.K X.mg X.base
 kind:X.env.scope.kind=.function
 glob:X.env.globals=mainGlobals
 blt:X.env.builtins=builtinsNs
 above:X.s₀.heap.objs.size<=X.env.locals
 inj:∀ x y c,X.env.cells.lookup x=some c->X.env.cells.lookup y=some c->x=y
 has:∀ x,(X.env.kindOf x=some .cell\/X.env.kindOf x=some .free)->∃ c,X.env.cells.lookup x=some c
 cab:∀ x c,X.fn x=true->X.env.cells.lookup x=some c->X.s₀.heap.objs.size<=c
 hd:X.calm=true->X.A.handled=none
 frames:X.A.frames=some X.stack
 stk:X.stack=X.outer\/(X.stack=X.env::X.outer/\X.env.frame=some X.env.locals)
 exf:∀ b∈X.ex,b≠X.env.locals/\∀ x c,X.env.cells.lookup x=some c->c≠b
 bs:∀ b o,X.base.get? b=some o->X.s₀.heap.get? b=some o/\X.H₀ b=none
 bsz:X.base.objs.size<=X.s₀.heap.objs.size
 noex:∀ b o,X.base.get? b=some o->b ∉ X.ex
 exfs:∀ b∈X.ex,b ∉ X.fs
 funs:X.s₀.heap.FunFrames X.base X.outer
 frf:∀ b∈X.fs,X.H₀ b=none
structure Inv (X:Cx)(pins:List (Addr×Obj))(σ:List (Option V))(H:Hp)(s:Shared):Prop where
 ok:X.Ok
 os:s.os=X.s₀.os
 bare:AllBare s.gens
 base:Un X.fs X.ex X.H₀ H X.s₀.heap s.heap
 loc:∃ m,s.heap.Ns X.env.locals m/\∀ (i:Nat) (x:Str) (v:V),X.N[i]? = some x->σ[i]? = some (some v)->Vis X.env.scope x->∃ u,RelV v u/\wI X.env s.heap m x u
 cell:∀ x c,X.env.cells.lookup x=some c->∃ v,s.heap.IsCell c v
 free:H X.env.locals=none
 freeC:∀ x c,X.env.cells.lookup x=some c->H c=none
 pin:∀ p∈X.pn++pins,s.heap.get? p.1=some p.2/\H p.1=none/\p.1≠X.env.locals/\p.1 ∉ X.fs/\∀ v,p.2.data≠.cell v
 hok:HOk X.prog X.w H s.heap
 len:σ.length=X.N.length
section
variable {X:Cx}{pins:List (Addr×Obj)}{σ:List (Option V)}{H H':Hp}{s:Shared}{h':Heap}
theorem Cx.Ok.nofr (ok:X.Ok){b:Addr}{o:Obj}(e:X.base.get? b=some o):b ∉ X.fs:=fun hb=>by
 have:=(ok.funs.mem hb).1;rw [e] at this;cases this
theorem Inv.bs (I:Inv X pins σ H s):∀ b o,X.base.get? b=some o->s.heap.get? b=some o/\H b=none:=fun b o e =>
 ⟨I.base.keep b o (I.ok.bs b o e).1 (I.ok.bs b o e).2 (I.ok.nofr e) (I.ok.noex b o e),I.base.free b o (I.ok.bs b o e).1 (I.ok.bs b o e).2 (I.ok.noex b o e)⟩
theorem Inv.bk (I:Inv X pins σ H s):∀ b o,X.base.get? b=some o->s.heap.get? b=some o:=fun b o e=>(I.bs b o e).1
theorem Inv.mod (I:Inv X pins σ H s):Mod X.K X.mg X.base:=I.ok.mod
theorem Inv.kIn (I:Inv X pins σ H s):X.K.In s.heap:=I.ok.mod.kin.keeps I.bk
theorem Inv.fr (I:Inv X pins σ H s):∃ m,Fr X.base X.env.locals s.heap m :=
 let ⟨m,hn,_⟩:=I.loc
 ⟨m,hn,I.bk,xE I.ok.bsz I.ok.above⟩
theorem Inv.lt (I:Inv X pins σ H s):X.env.locals < s.heap.objs.size:=let ⟨_,hn,_⟩:=I.loc;hn.lt
theorem Inv.sz (I:Inv X pins σ H s):X.s₀.heap.objs.size<=s.heap.objs.size:=xE I.ok.above (y6 I.lt)
theorem Inv.nofs (I:Inv X pins σ H s){a:Addr}(h:s.heap.objs.size<=a):a ∉ X.fs:=fun hb=>by
 obtain⟨_,o,ho,_⟩:=I.ok.funs.mem hb;exact absurd (xP (xF ho) (xE I.sz h)) (yU _)
theorem Inv.cne (I:Inv X pins σ H s):∀ x c,X.env.cells.lookup x=some c->c≠X.env.locals:=fun x c e z=>by
 obtain⟨v,o,ho,hd⟩:=I.cell x c e;obtain⟨m,⟨o',es,ep,ho',hd',_⟩,_⟩:=I.loc;rw [z,ho'] at ho;cases ho;rw [hd'] at hd;cases hd
theorem Inv.funs (I:Inv X pins σ H s):s.heap.FunFrames X.base X.outer:=by
 have all:∀ (l:List Env),(∀ b∈frs l,b∈X.fs)->X.s₀.heap.FunFrames X.base l->s.heap.FunFrames X.base l:=by
  intro l
  induction l with
  | nil=>intro _ _;trivial
  | cons env r ih =>
   intro hs hl;obtain⟨hk,⟨L,o,hf,hn,ho,hd⟩,hr⟩:=hl;have hL:L∈X.fs:=hs L (by unfold frs;rw [zh,hf];exact xD);obtain⟨sl,e⟩:=I.base.slot L o ho (I.ok.frf L hL) hL fun z=>I.ok.exfs L z hL;exact⟨hk,⟨L,_,hf,hn,e,hd⟩,ih (fun b hb=>hs b (by unfold frs;rw [zh,hf];exact xu _ hb)) hr⟩
 exact all X.outer (fun _ hb=>hb) I.ok.funs
theorem Inv.stack (I:Inv X pins σ H s):s.heap.FunFrames X.base X.stack:=by
 rcases I.ok.stk with e | ⟨e,hf⟩
 ·rw [e];exact I.funs
 ·rw [e];obtain⟨m,hn,_⟩:=I.loc;refine .cons (by rw [I.ok.kind];decide) hf hn ?_ I.funs;exact zC (xE I.ok.bsz I.ok.above)
theorem Inv.stkSub (I:Inv X pins σ H s):∀ b∈frs X.stack,b∈X.env.locals::X.fs:=fun b hb=>by
 rcases I.ok.stk with e | ⟨e,hf⟩
 ·rw [e] at hb;exact xu _ hb
 ·rw [e] at hb;unfold frs at hb;rw [zh,hf] at hb;exact hb
theorem Inv.stkFree (I:Inv X pins σ H s):∀ b∈frs X.stack,H b=none:=fun b hb=>by
 rcases xA.mp (I.stkSub b hb) with e | hb
 ·rw [e];exact I.free
 ·obtain⟨_,o,ho,_⟩:=I.ok.funs.mem hb;exact I.base.free b o ho (I.ok.frf b hb) fun z=>I.ok.exfs b z hb
theorem Inv.step {g':Array GenState}{t':Nat}{d':Drawn}{ch:List Addr}(I:Inv X pins σ H s)
 (hch:∀ b∈ch,(b∈X.ex\/X.s₀.heap.objs.size<=b)/\b≠X.env.locals/\(∀ x c,X.env.cells.lookup x=some c->c≠b)/\∀ p∈X.pn++pins,p.1≠b)
 (keep:∀ b o,b≠X.env.locals->b ∉ X.fs->b ∉ ch->s.heap.get? b=some o->H b=none->h'.get? b=some o)
 (slot:∀ b o,b≠X.env.locals->b∈X.fs->b ∉ ch->s.heap.get? b=some o->H b=none->∃ sl,h'.get? b=some { o with slots:=sl })(free:∀ b o,b ∉ ch->s.heap.get? b=some o->H b=none->H' b=none)
 (there:∀ b o,b ∉ ch->s.heap.get? b=some o->∃ o',h'.get? b=some o')
 (tups:∀ b xs,H b=some (.tup xs)->H' b=some (.tup xs))(frzs:∀ b o u,H b=some (.frz o u)->H' b=some (.frz o u))(tbls:∀ b ps,H b=some (.tbl ps)->∃ more,H' b=some (.tbl (ps++more)))
 (ns:∀ m,s.heap.Ns X.env.locals m->h'.Ns X.env.locals m)(hok:HOk X.prog X.w H' h')(hg:AllBare g') :
 Inv X pins σ H' { s with heap:=h',gens:=g',drawn:=d',toks:=t' }:=by
 have neL:∀ b o,X.s₀.heap.get? b=some o->b≠X.env.locals:=fun b o e=>xY (xP (xF e) I.ok.above);have neC:∀ b o,X.s₀.heap.get? b=some o->b ∉ X.ex->b ∉ ch:=fun b o e hx hb=>by
  rcases (hch b hb).1 with z | z
  ·exact hx z
  ·exact absurd (xP (xF e) z) (yU _)
 have cellK:∀ x c,X.env.cells.lookup x=some c->∀ v,s.heap.IsCell c v->h'.IsCell c v:=fun x c e v ⟨o,ho,hd⟩=>by
  have nch:c ∉ ch:=fun z=>(hch c z).2.2.1 x c e rfl;by_cases hc:c∈X.fs
  ·obtain⟨sl,q⟩:=slot c o (I.cne x c e) hc nch ho (I.freeC x c e);exact⟨_,q,hd⟩
  ·exact⟨o,keep c o (I.cne x c e) hc nch ho (I.freeC x c e),hd⟩
 refine⟨I.ok,I.os,hg,⟨fun b o e n hb hx=>?_,fun b o e n hb hx=>?_,fun b o e n hx=>?_,fun b o e hx=>?_,fun b xs e=>tups b xs (I.base.tups b xs e),fun b o xs e=>frzs b o xs (I.base.frzs b o xs e),fun b ps e=>?_⟩,?_,fun x c e=>?_,?_,fun x c e=>?_,fun p hp=>?_,hok,I.len⟩
 ·exact keep b o (neL b o e) hb (neC b o e hx) (I.base.keep b o e n hb hx) (I.base.free b o e n hx)
 ·obtain⟨sl,e1⟩:=I.base.slot b o e n hb hx;obtain⟨sl',e2⟩:=slot b _ (neL b o e) hb (neC b o e hx) e1 (I.base.free b o e n hx);exact⟨sl',e2⟩
 ·obtain⟨o',e1⟩:=I.base.there b o e hx;exact free b o' (neC b o e hx) e1 (I.base.free b o e n hx)
 ·obtain⟨o',e1⟩:=I.base.there b o e hx;exact there b o' (neC b o e hx) e1
 ·obtain⟨m1,e1⟩:=I.base.tbls b ps e;obtain⟨m2,e2⟩:=tbls b _ e1;exact⟨m1++m2,by rw [e2,Array.append_assoc]⟩
 ·obtain⟨m,hn,hl⟩:=I.loc;refine⟨m,ns m hn,fun i x v e1 e2 e3=>?_⟩;obtain⟨u,r,l⟩:=hl i x v e1 e2 e3;refine⟨u,r,?_⟩;rcases l with l | ⟨k,c,e,z⟩
  ·exact .inl l
  ·exact .inr ⟨k,c,e,cellK x c e _ z⟩
 ·obtain⟨v,z⟩:=I.cell x c e;exact⟨v,cellK x c e v z⟩
 ·obtain⟨m,⟨o,_,_,ho,_⟩,_⟩:=I.loc;exact free _ o (fun z=>(hch _ z).2.1 rfl) ho I.free
 ·obtain⟨v,o,ho,hd⟩:=I.cell x c e;exact free c o (fun z=>(hch c z).2.2.1 x c e rfl) ho (I.freeC x c e)
 ·obtain⟨e,n,ne,nf,d⟩:=I.pin p hp;have nch:p.1 ∉ ch:=fun z=>(hch p.1 z).2.2.2 p hp rfl;exact⟨keep p.1 p.2 ne nf nch e n,free p.1 p.2 nch e n,ne,nf,d⟩
theorem Inv.un {t':Nat}(I:Inv X pins σ H s)(u:Un X.fs [] H H' s.heap h')(hok:HOk X.prog X.w H' h'):Inv X pins σ H' { s with heap:=h',toks:=t' }:=by
 obtain⟨m,⟨o,es,ep,ho,r⟩,_⟩:=id I.loc;obtain⟨sl,hL⟩:=u.any ho I.free (by simp);exact I.step (g':=s.gens) (d':=s.drawn) (ch:=[]) (fun _ z=>nomatch z) (fun b o _ hb _ e n=>u.keep b o e n hb (by simp)) (fun b o _ hb _ e n=>u.slot b o e n hb (by simp)) (fun b o _ e n=>u.free b o e n (by simp)) (fun b o _ e=>u.there b o e (by simp)) u.tups u.frzs u.tbls (fun m' hm=>by
  obtain⟨o',es',ep',ho',r'⟩:=hm;rw [ho] at ho';cases ho';exact⟨_,es',ep',hL,r'⟩) hok I.bare
theorem Inv.call {g':Array GenState}{t':Nat}{d':Drawn}{ch:List Addr}(I:Inv X pins σ H s)(u:Un (frs X.stack) ch H H' s.heap h')(hok:HOk X.prog X.w H' h')(hg:AllBare g')
 (hch:∀ b∈ch,(b∈X.ex\/X.s₀.heap.objs.size<=b)/\b≠X.env.locals/\(∀ x c,X.env.cells.lookup x=some c->c≠b)/\∀ p∈X.pn++pins,p.1≠b) :
 Inv X pins σ H' { s with heap:=h',gens:=g',drawn:=d',toks:=t' }:=by
 obtain⟨m,⟨o,es,ep,ho,r⟩,_⟩:=id I.loc;obtain⟨sl,hL⟩:=u.any ho I.free fun z=>(hch _ z).2.1 rfl;exact I.step (ch:=ch) hch (fun b o hL hb hc e n=>u.keep b o e n (fun z=>(xA.mp (I.stkSub b z)).elim hL hb) hc) (fun b o _ _ hc e n=>u.any e n hc) (fun b o hc e n=>u.free b o e n hc) (fun b o hc e=>u.there b o e hc) u.tups u.frzs u.tbls (fun m' hm=>by
  obtain⟨o',es',ep',ho',r'⟩:=hm;rw [ho] at ho';cases ho';exact⟨_,es',ep',hL,r'⟩) hok hg
theorem Inv.turned {t':Nat}{it:Addr}(I:Inv X pins σ H s)(k:∀ b o,b≠it->s.heap.get? b=some o->h'.get? b=some o)(hn:H it=none)(hL:it≠X.env.locals)
 (h1:it∈X.ex\/X.s₀.heap.objs.size<=it)(h2:∀ x c,X.env.cells.lookup x=some c->c≠it)(h3:∀ p∈X.pn++pins,p.1≠it):Inv X pins σ H { s with heap:=h',toks:=t' }:=by
 have nit:∀ b u,H b=some u->b≠it:=fun b u e z=>by rw [z,hn] at e;cases e
 refine I.step (g':=s.gens) (d':=s.drawn) (ch:=[it]) (fun b hb=>?_) (fun b o _ _ hc e _=>k b o (fun z=>hc (by simp [z])) e) (fun b o _ _ hc e _=>⟨o.slots,k b o (fun z=>hc (by simp [z])) e⟩) (fun _ _ _ _ n=>n)
  (fun b o hc e=>⟨o,k b o (fun z=>hc (by simp [z])) e⟩) (fun _ _ e=>e) (fun _ _ _ e=>e) (fun b ps e=>⟨#[],by rw [e];simp⟩) (fun m hm=>?_) (fun b u e=>?_) I.bare
 ·have e:b=it:=by simpa using hb
  subst e;exact⟨h1,hL,h2,h3⟩
 ·obtain⟨o,es,ep,ho,r⟩:=hm;exact⟨o,es,ep,k _ o (xZ hL) ho,r⟩
 ·refine (I.hok b u e).stay (fun c v hc q=>k c v ?_ q) (fun _ q=>q) fun _ _ q=>q;rcases hc with z | z
  ·rw [z];exact nit b u e
  ·exact nit c _ z
theorem Inv.tok (I:Inv X pins σ H s)(t:Nat):Inv X pins σ H { s with toks:=t }:=I.un (h':=s.heap) (t':=t) Un.refl I.hok
theorem Inv.kept {t':Nat}(I:Inv X pins σ H s)(k:∀ b u,s.heap.get? b=some u->h'.get? b=some u):Inv X pins σ H { s with heap:=h',toks:=t' }:=I.un (Un.kept k) (I.hok.kept k)
theorem Inv.laid {a:Addr}{o:HO}{t':Nat}(I:Inv X pins σ H s)(k:∀ b u,s.heap.get? b=some u->h'.get? b=some u)(hp:s.heap.objs.size<=a)(new:ObjOk X.prog X.w (upd H a o) h' a o) :
 Inv X pins σ (upd H a o) { s with heap:=h',toks:=t' }:=I.un (Un.laid k hp (I.hok.fresh hp)) (I.hok.laid k hp new)
theorem Inv.write {x e:Addr}{o:HO}{t':Nat}(I:Inv X pins σ H s)(mu:Mut (H x))(he:e=x\/H e=some (.own x))(k:∀ b u,b≠e->s.heap.get? b=some u->h'.get? b=some u)(heo:∃ u,h'.get? e=some u)
 (new:ObjOk X.prog X.w (upd H x o) h' x o):Inv X pins σ (upd H x o) { s with heap:=h',toks:=t' }:=I.un (Un.write mu he k heo) (I.hok.write mu he k heo new)
theorem Inv.weak {σ':List (Option V)}(I:Inv X pins σ H s)(hl:σ'.length=σ.length)(w:∀ (i:Nat) v,σ'[i]? = some (some v)->σ[i]? = some (some v)):Inv X pins σ' H s :=
 ⟨I.ok,I.os,I.bare,I.base,let ⟨m,hn,hl'⟩:=I.loc;⟨m,hn,fun i x v e1 e2 e3=>hl' i x v e1 (w i v e2) e3⟩,I.cell,I.free,I.freeC,I.pin,I.hok,hl.trans I.len⟩
theorem Inv.pins_of {pins':List (Addr×Obj)}(I:Inv X pins σ H s)(h:∀ p∈pins',s.heap.get? p.1=some p.2/\H p.1=none/\p.1≠X.env.locals/\p.1 ∉ X.fs/\∀ v,p.2.data≠.cell v):Inv X pins' σ H s :=
 ⟨I.ok,I.os,I.bare,I.base,I.loc,I.cell,I.free,I.freeC,fun p hp=>(xG.mp hp).elim (fun z=>I.pin p (z4 _ z)) (h p),I.hok,I.len⟩
theorem jH {N:List Str}(hN:N.Nodup){i j:Nat}{x:Str}(a:N[i]? = some x)(b:N[j]? = some x):i=j:=by
 obtain⟨h1,e1⟩:=xp.mp a;obtain⟨h2,e2⟩:=xp.mp b;exact (List.getElem_inj hN).mp (e1.trans e2.symm)
theorem iI {M:Model}{A:Around}{E:Value->Shared->Prop}{i:Nat}{x:Str}{v:V}{u:Value}{Q:Unit->Shared->Prop}(I:Inv X pins σ H s)(hN:X.N.Nodup)(hi:X.N[i]? = some x)(hx:Loc X.env.scope x)(r:RelV v u)
 (h:∀ s',Inv X pins (σ.set i (some v)) H s'->(∃ a,Heap.SameBut a s.heap s'.heap/\(a=X.env.locals\/X.env.cells.lookup x=some a))->Q () s')(hf:X.fn x=true\/X.env.scope.names.lookup x=some .local:=by first | exact .inl rfl | exact .inr rfl | assumption):wpAny M A (storeName X.env x u) Q E s:=by
 obtain⟨m,hn,hl⟩:=id I.loc;have hcls:(X.env.scope.kind == .class || (X.env.scope.kind == .module && X.env.locals != X.env.globals))=false:=by rw [I.ok.kind];rfl
 have hiσ:i < σ.length:=by rw [I.len];exact (xp.mp hi).1
 have cne:=I.cne;have tracked:∀ {a:Addr} {h':Heap},(∃ o,s.heap.get? a=some o/\H a=none)->Heap.SameBut a s.heap h'->HOk X.prog X.w H h':=fun {a h'} ha hs b ob e=>by
  obtain⟨_,_,hfree⟩:=ha;refine (I.hok b ob e).stay (fun c w' hc q=>(hs.2 c ?_).trans q) (fun _ q=>q) fun _ _ q=>q;rintro rfl;rcases hc with rfl | hc
  ·rw [hfree] at e;cases e
  ·rw [hfree] at hc;cases hc
 rcases hx with hk | hk
 ·refine wpAny_storeName_local hk hn (fun h' hn' hs=>?_) hcls;obtain⟨oL,_,_,hoL,_⟩:=id hn;refine h _ ⟨I.ok,I.os,I.bare,⟨fun b o e n hb hx=>?_,fun b o e n hb hx=>?_,I.base.free,fun b o e hx=>?_,I.base.tups,I.base.frzs,I.base.tbls⟩,⟨_,hn',fun j y v' e1 e2 e3=>?_⟩,fun y c e=>?_,I.free,I.freeC,fun p hp=>?_,tracked ⟨oL,hoL,I.free⟩ hs,by simpa using I.len⟩ ⟨_,hs,.inl rfl⟩
  ·exact (hs.2 b (xY (xP (xF e) I.ok.above))).trans (I.base.keep b o e n hb hx)
  ·obtain⟨sl,e1⟩:=I.base.slot b o e n hb hx;exact⟨sl,(hs.2 b (xY (xP (xF e) I.ok.above))).trans e1⟩
  ·obtain⟨o',e1⟩:=I.base.there b o e hx;exact⟨o',(hs.2 b (xY (xP (xF e) I.ok.above))).trans e1⟩
  ·by_cases hj:j=i
   ·subst hj;rw [hi] at e1;cases e1;rw [zk hiσ] at e2;cases e2;exact⟨u,r,.inl ⟨hk,by simp⟩⟩
   ·rw [z5 (xZ hj)] at e2;obtain⟨u',r',q⟩:=hl j y v' e1 e2 e3;refine⟨u',r',?_⟩;rcases q with ⟨k,e⟩ | ⟨k,c,e,z⟩
    ·refine .inl ⟨k,?_⟩;have:y≠x:=fun e=>hj (jH hN e1 (e▸hi));simp [this,e]
    ·exact .inr ⟨k,c,e,z.sameBut hs (cne y c e)⟩
  ·obtain⟨w',z⟩:=I.cell y c e;exact⟨w',z.sameBut hs (cne y c e)⟩
  ·obtain⟨e,n,ne,nf,d⟩:=I.pin p hp;exact⟨(hs.2 p.1 ne).trans e,n,ne,nf,d⟩
 ·have hfn:X.fn x=true:=by
   rcases hf with z | z
   ·exact z
   ·rw [z] at hk;cases hk
  obtain⟨c,hc⟩:=I.ok.has x (.inl hk);obtain⟨w',z⟩:=I.cell x c hc;refine wpAny_storeName_cell I.ok.kind hk hc z (fun h' hc' hs=>?_);obtain⟨oc,hoc,hocd⟩:=id z;refine h { s with heap:=h' } ⟨I.ok,I.os,I.bare,⟨fun b o e n hb hx=>?_,fun b o e n hb hx=>?_,I.base.free,fun b o e hx=>?_,I.base.tups,I.base.frzs,I.base.tbls⟩,⟨m,hn.sameBut hs (xZ (cne x c hc)),fun j y v' e1 e2 e3=>?_⟩,fun y c' e=>?_,I.free,I.freeC,fun p hp=>?_,tracked ⟨oc,hoc,I.freeC x c hc⟩ hs,by simpa using I.len⟩ ⟨c,hs,.inr hc⟩
  ·exact (hs.2 b (xY (xP (xF e) (I.ok.cab x c hfn hc)))).trans (I.base.keep b o e n hb hx)
  ·obtain⟨sl,e1⟩:=I.base.slot b o e n hb hx;exact⟨sl,(hs.2 b (xY (xP (xF e) (I.ok.cab x c hfn hc)))).trans e1⟩
  ·obtain⟨o',e1⟩:=I.base.there b o e hx;exact⟨o',(hs.2 b (xY (xP (xF e) (I.ok.cab x c hfn hc)))).trans e1⟩
  ·by_cases hj:j=i
   ·subst hj;rw [hi] at e1;cases e1;rw [zk hiσ] at e2;cases e2;exact⟨u,r,.inr ⟨.inl hk,c,hc,hc'⟩⟩
   ·rw [z5 (xZ hj)] at e2;obtain⟨u',r',q⟩:=hl j y v' e1 e2 e3;refine⟨u',r',?_⟩;rcases q with q | ⟨k,c',e,z'⟩
    ·exact .inl q
    ·refine .inr ⟨k,c',e,z'.sameBut hs ?_⟩;rintro rfl;exact hj (jH hN e1 (I.ok.inj _ _ _ e hc▸hi))
  ·by_cases hcc:c'=c
   ·subst hcc;exact⟨_,hc'⟩
   ·obtain⟨w2,z2⟩:=I.cell y c' e;exact⟨w2,z2.sameBut hs hcc⟩
  ·obtain⟨e,n,ne,nf,d⟩:=I.pin p hp;refine⟨(hs.2 p.1 ?_).trans e,n,ne,nf,d⟩;intro q;rw [q,hoc] at e;have q':oc=p.2:=yz e;exact d w' (by rw [← q'];exact hocd)
theorem mU {M:Model}{A:Around}{E:Value->Shared->Prop}{i:Nat}{x:Str}{v:V}{u:Value}{Q:Unit->Shared->Prop}(I:Inv X pins σ H s)(hN:X.N.Nodup)(hi:X.N[i]? = some x)(hx:Loc X.env.scope x)(r:RelV v u)
 (h:∀ s',Inv X pins (σ.set i (some v)) H s'->Q () s')(hf:X.fn x=true\/X.env.scope.names.lookup x=some .local:=by first | exact .inl rfl | exact .inr rfl | assumption):wpAny M A (storeName X.env x u) Q E s :=
 iI I hN hi hx r (fun s' I' _=>h s' I') hf
theorem Inv.call' {s':Shared}{ch:List Addr}(I:Inv X pins σ H s)(ho:s'.os=s.os)(u:Un (frs X.stack) ch H H' s.heap s'.heap)(hok:HOk X.prog X.w H' s'.heap)(hg:AllBare s'.gens)
 (hch:∀ b∈ch,(b∈X.ex\/X.s₀.heap.objs.size<=b)/\b≠X.env.locals/\(∀ x c,X.env.cells.lookup x=some c->c≠b)/\∀ p∈X.pn++pins,p.1≠b):Inv X pins σ H' s':=by
 obtain⟨h',g',d',t',o'⟩:=s';have e:o'=s.os:=ho;subst e;exact I.call (g':=g') (t':=t') (d':=d') u hok hg hch
end
abbrev XK:=Value->Option Addr->Hp->Prop
abbrev St:=List (Option V)
abbrev VK:=V->Hp->Prop
abbrev TE:=St->Hp->VK->Prop
abbrev TT:=St->Hp->(Bool->Hp->Prop)->Prop
abbrev TA:=St->Hp->(List V->Hp->Prop)->Prop
structure lg where
 nx:St->Hp->Prop
 rt:VK
 bk:St->Hp->Prop:=fun _ _=>False
 ct:St->Hp->Prop:=fun _ _=>False
abbrev TS:=lg->St->Hp->Prop
def EP (X:Cx)(pins:List (Addr×Obj))(σ:St)(Q:VK)(u:Value)(s':Shared):Prop:=∃ v H',Inv X pins σ H' s'/\RelV v u/\Q v H'
def TP (X:Cx)(pins:List (Addr×Obj))(σ:St)(Q:Bool->Hp->Prop)(b:Bool)(s':Shared):Prop:=∃ H',Inv X pins σ H' s'/\Q b H'
def AP (X:Cx)(pins:List (Addr×Obj))(σ:St)(Q:List V->Hp->Prop)(us:List Value)(s':Shared):Prop:=∃ vs H',Inv X pins σ H' s'/\Vals vs us/\Q vs H'
def SP (X:Cx)(pins:List (Addr×Obj))(D:lg)(f:Flow)(s':Shared):Prop :=
 match f with
 | .next=>∃ σ' H',Inv X pins σ' H' s'/\D.nx σ' H'
 | .brk=>∃ σ' H',Inv X pins σ' H' s'/\D.bk σ' H'
 | .cont=>∃ σ' H',Inv X pins σ' H' s'/\D.ct σ' H'
 | .ret u=>∃ v σ' H',Inv X pins σ' H' s'/\RelV v u/\D.rt v H'
def PE (X:Cx)(e:Expr)(t:TE):Prop :=
 ∀ (pins:List (Addr×Obj)) (s:Shared) (σ:St) (H:Hp) (Q:VK),Inv X pins σ H s->t σ H Q->wpAny (model X.prog X.w) X.A (eval e X.env) (EP X pins σ Q) X.xe s
def PT (X:Cx)(e:Expr)(t:TT):Prop :=
 ∀ (pins:List (Addr×Obj)) (s:Shared) (σ:St) (H:Hp) (Q:Bool->Hp->Prop),Inv X pins σ H s->t σ H Q->wpAny (model X.prog X.w) X.A (isTrue e X.env (eval e X.env)) (TP X pins σ Q) X.xe s
def PW (X:Cx)(e:Expr)(t:TT):Prop :=
 ∀ (whole:Sem Value) (pins:List (Addr×Obj)) (s:Shared) (σ:St) (H:Hp) (Q:Bool->Hp->Prop),Inv X pins σ H s->t σ H Q->wpAny (model X.prog X.w) X.A (isTrue e X.env whole) (TP X pins σ Q) X.xe s
theorem PW.pt {X:Cx}{e:Expr}{t:TT}(h:PW X e t):PT X e t:=h _
def PA (X:Cx)(es:List Expr)(t:TA):Prop :=
 ∀ (pos:Pos) (pins:List (Addr×Obj)) (s:Shared) (σ:St) (H:Hp) (Q:List V->Hp->Prop),Inv X pins σ H s->t σ H Q->wpAny (model X.prog X.w) X.A (spliced (backTo pos (starEach es X.env))) (AP X pins σ Q) X.xe s
def PS (X:Cx)(st:Stmt)(t:TS):Prop :=
 ∀ (pins:List (Addr×Obj)) (s:Shared) (σ:St) (H:Hp) (D:lg),Inv X pins σ H s->t D σ H->wpAny (model X.prog X.w) X.A (exec st X.env) (SP X pins D) X.xe s
def PSs (X:Cx)(st:List Stmt)(t:TS):Prop :=
 ∀ (pins:List (Addr×Obj)) (s:Shared) (σ:St) (H:Hp) (D:lg),Inv X pins σ H s->t D σ H->wpAny (model X.prog X.w) X.A (execs st X.env) (SP X pins D) X.xe s
theorem thn {α:Type}{t:Sem α}{Q Q':α->Shared->Prop}{M:Model}{A:Around}{E:Value->Shared->Prop}{s:Shared}(h:wpAny M A t Q E s)(hQ:∀ a s,Q a s->Q' a s):wpAny M A t Q' E s:=za h hQ fun _ _ x=>x
section
variable {X:Cx}
theorem bin {a b:Expr}{ta tb:TE}(ha:PE X a ta)(hb:PE X b tb){pins:List (Addr×Obj)}{s:Shared}{σ:St}{H:Hp}{R:V->V->Hp->Prop}(I:Inv X pins σ H s)(h:ta σ H fun x H1=>tb σ H1 fun y H2=>R x y H2)
 {α:Type}{Q:α->Shared->Prop}{f:Value->Value->Sem α}
 (hf:∀ v u s2 x y H2,Inv X pins σ H2 s2->RelV x v->RelV y u->R x y H2->wpAny (model X.prog X.w) X.A (f v u) Q X.xe s2) :
 wpAny (model X.prog X.w) X.A (eval a X.env) (fun v s₁=>wpAny (model X.prog X.w) X.A (eval b X.env) (fun u s₂=>wpAny (model X.prog X.w) X.A (f v u) Q X.xe s₂) X.xe s₁) X.xe s:=by
 refine thn (ha pins s σ H _ I h) fun v s1 ⟨x,H1,I1,r1,q1⟩=>?_;refine thn (hb pins s1 σ H1 _ I1 q1) fun u s2 ⟨y,H2,I2,r2,q2⟩=>?_;exact hf v u s2 x y H2 I2 r1 r2 q2
def du (i:Nat):TE:=fun σ H Q=>∃ v,σ[i]? = some (some v)/\Q v H
def tC (v:V):TE:=fun _ H Q=>Q v H
theorem uZ {i:Nat}{x:Str}{pos:Pos}(hN:X.N[i]? = some x)(hv:Vis X.env.scope x)(hd:(x == ("__debug__" : Str))=false:=by decide)(hcd:(x == ("__classdict__" : Str))=false:=by decide):PE X (.Name x pos) (du i):=by
 intro pins s σ H Q I h;obtain⟨v,e,h⟩:=h;obtain⟨m,hn,hl⟩:=I.loc;obtain⟨u,r,l⟩:=hl i x v hN e hv;have fin:EP X pins σ Q u s:=⟨v,H,I,r,h⟩;rcases l with ⟨hk,hm⟩ | ⟨hk,c,hc,hcell⟩
 ·exact wpAny_Name (wpAny_loadName_local I.ok.kind hk hn hm fin) hd
 ·rcases hk with hk | hk
  ·exact wpAny_Name (wpAny_loadName_cell I.ok.kind hk hc hcell fin) hd
  ·exact wpAny_Name (wpAny_loadName_free I.ok.kind hk hc hcell fin hcd) hd
theorem ao {i j pos}:PE X (.Constant (.int i) j pos) (tC (.int i)):=fun _ _ _ H _ I h=>wpAny_Constant_int ⟨.int i,H,I.tok _,⟨_,rfl⟩,h⟩
theorem gy {b j pos}:PE X (.Constant (.bool b) j pos) (tC (.bl b)):=fun _ _ _ H _ I h=>Constant_bool ⟨.bl b,H,I,rfl,h⟩
theorem sj {j pos}:PE X (.Constant .none j pos) (tC .non):=fun _ _ _ H _ I h=>Constant_none ⟨.non,H,I,rfl,h⟩
theorem iL {x j pos}:PE X (.Constant (.str x) j pos) (tC (.str x)):=fun _ _ _ H _ I h=>Calls.Constant_str ⟨.str x,H,I.tok _,⟨_,rfl⟩,h⟩
def Gl (X:Cx)(x:Str):Prop:=X.env.kindOf x=some .globalImplicit
theorem gD {E:Value->Shared->Prop}{pins:List (Addr×Obj)}{s:Shared}{σ:St}{H:Hp}{x:Str}{u:Value}{pos:Pos}{Q:Value->Shared->Prop}(I:Inv X pins σ H s)(hg:Gl X x)(hm:X.mg x=some u)(h:Q u s)
 (hd:(x == ("__debug__" : Str))=false:=by decide):wpAny (model X.prog X.w) X.A (eval (.Name x pos) X.env) Q E s :=
 Calls.Name_function_global I.ok.kind hg (Calls.loadGlobal_global (by rw [I.ok.glob];exact I.mod.glob.keeps I.bk) hm h) hd
theorem ji {E:Value->Shared->Prop}{pins:List (Addr×Obj)}{s:Shared}{σ:St}{H:Hp}{x:Str}{u:Value}{pos:Pos}{Q:Value->Shared->Prop}(I:Inv X pins σ H s)(hg:Gl X x)(hm:X.mg x=none)(hv:bootBuiltins x=some u)(h:Q u s)
 (hn:x ≠ "__name__" := by decide)(hd:(x == ("__debug__" : Str))=false:=by decide):wpAny (model X.prog X.w) X.A (eval (.Name x pos) X.env) Q E s:=by
 obtain⟨mb,h1,h2⟩:=I.mod.blt;exact Calls.Name_function_global I.ok.kind hg (Calls.loadGlobal_builtin (by rw [I.ok.glob];exact I.mod.glob.keeps I.bk) hm (by rw [I.ok.blt];exact h1.keeps I.bk) ((h2 x hn).trans hv) h) hd
theorem lh {x:Str}{v:V}{u:Value}{pos:Pos}(hg:Gl X x)(hm:X.mg x=some u)(r:RelV v u)(hd:(x == ("__debug__" : Str))=false:=by decide):PE X (.Name x pos) (tC v) :=
 fun _ _ _ H _ I h=>gD I hg hm ⟨v,H,I,r,h⟩ hd
theorem dM {x:Str}{v:V}{u:Value}{pos:Pos}(hg:Gl X x)(hm:X.mg x=none)(hv:bootBuiltins x=some u)(r:RelV v u)(hn:x ≠ "__name__" := by decide)(hd:(x == ("__debug__" : Str))=false:=by decide):PE X (.Name x pos) (tC v) :=
 fun _ _ _ H _ I h=>ji I hg hm hv ⟨v,H,I,r,h⟩ hn hd
variable {a b:Expr}{ta tb:TE}{pos:Pos}
def PC (X:Cx)(op:CmpOp)(a b:Expr)(t:TE):Prop :=
 ∀ (pins:List (Addr×Obj)) (s:Shared) (σ:St) (H:Hp) (Q:VK),Inv X pins σ H s->t σ H Q →
  wpAny (model X.prog X.w) X.A (eval a X.env) (fun v s₁=>wpAny (model X.prog X.w) X.A (eval b X.env) (fun u s₂=>wpAny (model X.prog X.w) X.A (compareOp op v u) (EP X pins σ Q) X.xe s₂) X.xe s₁) X.xe s
def tB (t:TE):TT:=fun σ H Q=>t σ H fun x H1=>∃ c,x=.bl c/\Q c H1
theorem wB {op:CmpOp}{t:TE}(h:PC X op a b t)(h1:behindInMarks op b=false:=by first | exact nobehind _ (by decide) (by decide) | rfl):PT X (.Compare a [op] [b] pos) (tB t):=by
 intro pins s σ H Q I hw;refine wpAny_isTrue_Compare1 (thn (h pins s σ H _ I hw) fun v s1 h1=>thn h1 fun u s2 h2=>thn h2 fun c s3 ⟨x,H1,I1,r1,q1⟩=>?_) h1;obtain⟨d,rfl,q⟩:=q1;cases r1;exact yJ ⟨H1,I1,q⟩
theorem dj {e:Expr}{t:TE}(h:PE X e t)(he:∀ whole,isTrue e X.env whole=(do let v ← whole;standAt e.pos;holding [v] (truthy v)):=by intro _;rfl):PT X e (tB t):=by
 intro pins s σ H Q I hw;refine isTrue_plain (thn (h pins s σ H _ I hw) fun v s1 ⟨x,H1,I1,r1,q1⟩=>?_) (he _);obtain⟨d,rfl,q⟩:=q1;cases r1;exact yJ ⟨H1,I1,q⟩
variable {tA tB':TT}{rest:List Expr}
def xf (t u:TT):TT:=fun σ H Q=>t σ H fun c H1=>if c=true then u σ H1 Q else Q false H1
def tOr (t u:TT):TT:=fun σ H Q=>t σ H fun c H1=>if c=true then Q true H1 else u σ H1 Q
def vz (t:TT):TT:=fun σ H Q=>t σ H fun c H1=>Q (!c) H1
theorem lU (ha:PT X a tA):PW X (.BoolOp .And [a] pos) tA:=by
 intro wh pins s σ H Q I h;refine isTrue_and (thn (ha pins s σ H Q I h) fun c s1 e=>?_);cases c with
 | true=>exact isTrue_and_nil e
 | false=>exact e
theorem jy (ha:PT X a tA):PW X (.BoolOp .Or [a] pos) tA:=by
 intro wh pins s σ H Q I h;refine isTrue_or (thn (ha pins s σ H Q I h) fun c s1 e=>?_);cases c with
 | false=>exact isTrue_or_nil e
 | true=>exact e
theorem pU (ha:PT X a tA)(hb:PW X (.BoolOp .And (b::rest) pos) tB'):PW X (.BoolOp .And (a::b::rest) pos) (xf tA tB'):=by
 intro wh pins s σ H Q I h;refine isTrue_and (thn (ha pins s σ H _ I h) fun c s1 ⟨H1,I1,q1⟩=>?_);cases c with
 | true=>exact hb wh pins s1 σ H1 Q I1 q1
 | false=>exact⟨H1,I1,q1⟩
theorem n8 (ha:PT X a tA)(hb:PW X (.BoolOp .Or (b::rest) pos) tB'):PW X (.BoolOp .Or (a::b::rest) pos) (tOr tA tB'):=by
 intro wh pins s σ H Q I h;refine isTrue_or (thn (ha pins s σ H _ I h) fun c s1 ⟨H1,I1,q1⟩=>?_);cases c with
 | true=>exact⟨H1,I1,q1⟩
 | false=>exact hb wh pins s1 σ H1 Q I1 q1
theorem cG (ha:PT X a tA):PT X (.UnaryOp .Not a pos) (vz tA):=by
 intro pins s σ H Q I h;exact isTrue_not (ha pins s σ H (fun c H1=>Q (!c) H1) I h)
def we (ta tb:TE):TE:=fun σ H Q=>ta σ H fun x H1=>∃ c,x=.bl c/\if c=true then tb σ H1 Q else Q (.bl false) H1
def wc (ta:TE):TE:=fun σ H Q=>ta σ H fun x H1=>∃ c,x=.bl c/\Q (.bl (!c)) H1
theorem gS {op}{t:TE}(h:PE X a t):PE X (.BoolOp op [a] pos) t:=fun pins s σ H Q I hw=>BoolOp_one (h pins s σ H Q I hw)
theorem dW (ha:PE X a ta)(hb:PE X (.BoolOp .And (b::rest) pos) tb):PE X (.BoolOp .And (a::b::rest) pos) (we ta tb):=by
 intro pins s σ H Q I h;refine BoolOp_and (thn (ha pins s σ H _ I h) fun v s1 ⟨x,H1,I1,r1,q1⟩=>?_);obtain⟨c,rfl,q1⟩:=q1;cases r1;refine yJ ?_;cases c with
 | true=>exact hb pins s1 σ H1 Q I1 q1
 | false=>exact⟨.bl false,H1,I1,rfl,q1⟩
theorem uV (ha:PE X a ta):PE X (.UnaryOp .Not a pos) (wc ta):=by
 intro pins s σ H Q I h;refine UnaryOp_ (thn (ha pins s σ H _ I h) fun v s1 ⟨x,H1,I1,r1,q1⟩=>?_);obtain⟨c,rfl,q1⟩:=q1;cases r1;exact not_of (yJ ⟨.bl (!c),H1,I1,rfl,q1⟩)
end
def SqL (K:PySem.W.Frag)(H:Hp)(a:Addr)(xs:List V):Prop :=
 Rd H a (.lst xs) ∨
  ∃ (o:Obj) (its:Array Value) (n:Nat),K.lookup a=some o/\o.cls=.type "list" ∧ o.dict=none/\o.data=.seq its n/\its.size<=sizeLine/\Vals xs its.toList
def SqT (K:PySem.W.Frag)(H:Hp)(a:Addr)(xs:List V):Prop :=
 Rd H a (.tup xs) ∨
  ∃ (o:Obj) (its:Array Value) (n:Nat),K.lookup a=some o/\o.cls=.type "tuple" ∧ o.data=.seq its n/\its.size<=sizeLine/\Vals xs its.toList
def xc:Value->Option V
 | .none=>some .non
 | .bool b=>some (.bl b)
 | .int i _=>some (.int i)
 | .str x _=>some (.str x)
 | .bytes b _=>some (.byt b)
 | .float b _=>some (.flt b)
 | .ref a=>some (.ref a)
 | .type n=>some (.ty n)
 | _=>none
theorem RelV.abs {x:V}{u:Value}(r:RelV x u):xc u=some x:=by
 cases x with
 | non=>cases r;rfl
 | bl _=>cases r;rfl
 | int _=>obtain⟨t,rfl⟩:=r;rfl
 | str _=>obtain⟨t,rfl⟩:=r;rfl
 | byt _=>obtain⟨t,rfl⟩:=r;rfl
 | flt _=>obtain⟨t,rfl⟩:=r;rfl
 | ref _=>cases r;rfl
 | ty _=>cases r;rfl
theorem RelV.inj {x y:V}{u:Value}(r:RelV x u)(q:RelV y u):x=y:=yz (r.abs.symm.trans q.abs)
theorem Vals.inj:∀ {xs ys:List V} {us:List Value},Vals xs us->Vals ys us->xs=ys
 | _,_,_,.nil,.nil=>rfl
 | _,_,_,.cons r t,.cons r' t'=>by rw [r.inj r',Vals.inj t t']
section
variable {X:Cx}{pins:List (Addr×Obj)}{σ:St}{H:Hp}{s:Shared}{a:Addr}{xs ys:List V}
theorem SqL.of {K:PySem.W.Frag}(h:H a=some (.lst xs)):SqL K H a xs:=.inl (.inl h)
def aAA:=@SqL.of
theorem SqT.of {K:PySem.W.Frag}(h:H a=some (.tup xs)):SqT K H a xs:=.inl (.inl h)
def aAB:=@SqT.of
theorem Inv.list (I:Inv X pins σ H s)(h:SqL X.K H a xs):∃ its:List Value,Vals xs its/\PlainL s.heap a its.toArray/\xs.length<=sizeLine:=by
 rcases h with h | ⟨o,its,n,hk,hc,hd,hs,hz,r⟩
 ·obtain⟨z,its,n,r,e⟩:=h.ok I.hok;exact⟨its,r,⟨_,n,e,rfl,rfl,rfl⟩,z⟩
 ·refine⟨its.toList,r,⟨o,n,I.kIn a o hk,hc,hd,by simpa using hs⟩,?_⟩;have e:=r.length;simp only [xJ] at e;lia
theorem Inv.tuple (I:Inv X pins σ H s)(h:SqT X.K H a xs):∃ its:List Value,Vals xs its/\IsTup s.heap a its.toArray/\xs.length<=sizeLine:=by
 rcases h with h | ⟨o,its,n,hk,hc,hs,hz,r⟩
 ·obtain⟨z,its,r,p⟩:=h.ok I.hok;exact⟨its,r,p,z⟩
 ·refine⟨its.toList,r,⟨o,I.kIn a o hk,hc,n,by simpa using hs⟩,?_⟩;have e:=r.length;simp only [xJ] at e;lia
theorem Inv.list_inj (I:Inv X pins σ H s)(h:SqL X.K H a xs)(h':SqL X.K H a ys):xs=ys:=by
 obtain⟨its,r,⟨o,n,e,_,_,d⟩,_⟩:=I.list h;obtain⟨its',r',⟨o',n',e',_,_,d'⟩,_⟩:=I.list h';rw [e] at e';cases e';rw [d] at d';injection d' with d1 _
 have:its=its':=by simpa using xQ Array.toList d1
 subst this;exact r.inj r'
end
abbrev Cx.wish (X:Cx)(E:Value->Shared->Prop):Cx:={ X with xe:=E }
abbrev Cx.nox (X:Cx):Cx:=X.wish fun _ _=>False
theorem Cx.Ok.wish {X:Cx}(ok:X.Ok)(E:Value->Shared->Prop):(X.wish E).Ok :=
 ⟨ok.mod,ok.kind,ok.glob,ok.blt,ok.above,ok.inj,ok.has,ok.cab,ok.hd,ok.frames,ok.stk,ok.exf,ok.bs,ok.bsz,ok.noex,ok.exfs,ok.funs,ok.frf⟩
theorem Cx.Ok.unwish {X:Cx}{E:Value->Shared->Prop}(ok:(X.wish E).Ok):X.Ok :=
 ⟨ok.mod,ok.kind,ok.glob,ok.blt,ok.above,ok.inj,ok.has,ok.cab,ok.hd,ok.frames,ok.stk,ok.exf,ok.bs,ok.bsz,ok.noex,ok.exfs,ok.funs,ok.frf⟩
section
variable {X:Cx}{pins:List (Addr×Obj)}{σ:St}{H:Hp}{s:Shared}{E:Value->Shared->Prop}
theorem Inv.wish (I:Inv X pins σ H s)(E:Value->Shared->Prop):Inv (X.wish E) pins σ H s:=⟨I.ok.wish E,I.os,I.bare,I.base,I.loc,I.cell,I.free,I.freeC,I.pin,I.hok,I.len⟩
theorem Inv.unwish (I:Inv (X.wish E) pins σ H s):Inv X pins σ H s:=⟨I.ok.unwish,I.os,I.bare,I.base,I.loc,I.cell,I.free,I.freeC,I.pin,I.hok,I.len⟩
theorem SP.unwish {D:lg}{f:Flow}{s':Shared}(h:SP (X.wish E) pins D f s'):SP X pins D f s':=by
 cases f with
 | next=>obtain⟨σ',H',I,q⟩:=h;exact⟨σ',H',I.unwish,q⟩
 | brk=>obtain⟨σ',H',I,q⟩:=h;exact⟨σ',H',I.unwish,q⟩
 | cont=>obtain⟨σ',H',I,q⟩:=h;exact⟨σ',H',I.unwish,q⟩
 | ret u=>obtain⟨v,σ',H',I,r,q⟩:=h;exact⟨v,σ',H',I.unwish,r,q⟩
theorem PSs.nox {st:List Stmt}{t:TS}(h:PSs X.nox st t):PSs X st t:=fun pins s σ H D I hw =>
 za (h pins s σ H D (I.wish _) hw) (fun _ _ q=>q.unwish) fun _ _ z=>False.elim z
end
section
variable {X:Cx}{st:Stmt}{rest:List Stmt}{t u:TS}{e:Expr}{te:TE}{pos:Pos}
def iY:TS:=fun D σ H=>D.nx σ H
def oF (t u:TS):TS:=fun D σ H=>t { D with nx:=u D } σ H
theorem aV:PSs X [] iY:=fun _ _ σ H _ I h=>aaa ⟨σ,H,I,h⟩
theorem aj (h1:PS X st t)(h2:PSs X rest u):PSs X (st::rest) (oF t u):=by
 intro pins s σ H D I h;refine wpAny_execs_cons (thn (h1 pins s σ H { D with nx:=u D } I h) fun f s1 q=>?_);cases f with
 | next =>
  obtain⟨σ',H',I',q⟩:=q;exact h2 pins s1 σ' H' D I' q
 | ret v=>exact q
 | brk=>exact q
 | cont=>exact q
theorem au (h1:PS X st t):PSs X [st] t:=by
 intro pins s σ H D I h;refine wpAny_execs_cons (thn (h1 pins s σ H D I h) fun f s1 q=>?_);cases f with
 | next=>exact aaa q
 | ret v=>exact q
 | brk=>exact q
 | cont=>exact q
theorem Inv.quiet {pins:List (Addr×Obj)}{σ:St}{H:Hp}{s:Shared}(I:Inv X pins σ H s):interactive X.env=false:=by simp [interactive,I.ok.kind]
def vI (te:TE):TS:=fun D σ H=>te σ H fun _ H1=>D.nx σ H1
theorem bO (he:PE X e te)(hs:swapsWith e none pos.line X.env=pure false:=by rfl):PS X (.Expr e pos) (vI te):=by
 intro pins s σ H D I h;exact wpAny_Expr_any (thn (he pins s σ H _ I h) fun v s1 ⟨x,H1,I1,r1,q1⟩=>⟨σ,H1,I1,q1⟩) I.quiet hs
def n9 (te:TE):TS:=fun D σ H=>te σ H D.rt
theorem aK (he:PE X e te):PS X (.Return (some e) pos) (n9 te):=by
 intro pins s σ H D I h;exact wpAny_Return_some (thn (he pins s σ H _ I h) fun v s1 ⟨x,H1,I1,r1,q1⟩=>⟨x,σ,H1,I1,r1,q1⟩)
def qU (c:TT)(t u:TS):TS:=fun D σ H=>c σ H fun b H1=>if b=true then t D σ H1 else u D σ H1
theorem cm {c:Expr}{a b:List Stmt}{tc:TT}(hc:PT X c tc)(ha:PSs X a t)(hb:PSs X b u):PS X (.If c a b pos) (qU tc t u):=by
 intro pins s σ H D I h;refine wpAny_If (thn (hc pins s σ H _ I h) fun d s1 ⟨H1,I1,q1⟩=>?_);cases d with
 | true=>exact ha pins s1 σ H1 D I1 q1
 | false=>exact hb pins s1 σ H1 D I1 q1
def u9:TS:=fun _ _ _=>False
theorem iU {sts:List Stmt}:PSs X sts u9:=fun _ _ _ _ _ _ h=>h.elim
end
abbrev TG:=V->St->Hp->(St->Hp->Prop)->Prop
abbrev TGs:=List V->St->Hp->(St->Hp->Prop)->Prop
def PG (X:Cx)(target:Expr)(t:TG):Prop :=
 ∀ (pins:List (Addr×Obj)) (s:Shared) (σ:St) (H:Hp) (v:V) (u:Value) (Q:St->Hp->Prop),Inv X pins σ H s->RelV v u->t v σ H Q →
  wpAny (model X.prog X.w) X.A (assign target X.env u) (fun _ s'=>∃ σ' H',Inv X pins σ' H' s'/\Q σ' H') X.xe s
def PGs (X:Cx)(ts:List Expr)(t:TGs):Prop :=
 ∀ (pins:List (Addr×Obj)) (s:Shared) (σ:St) (H:Hp) (vs:List V) (us:List Value) (Q:St->Hp->Prop),Inv X pins σ H s->Vals vs us->t vs σ H Q →
  wpAny (model X.prog X.w) X.A (assignInOrder ((assignEach ts X.env).map (·.2)) us) (fun _ s'=>∃ σ' H',Inv X pins σ' H' s'/\Q σ' H') X.xe s
abbrev vO:=V->V->V->Hp->(Hp->Prop)->Prop
def wO (X:Cx)(t:vO):Prop :=
 ∀ (pins:List (Addr×Obj)) (s:Shared) (σ:St) (H:Hp) (o i v:V) (ov iv u:Value) (Q:Hp->Prop),Inv X pins σ H s->RelV o ov->RelV i iv->RelV v u->t o i v H Q →
  wpAny (model X.prog X.w) X.A (setItem ov iv u) (fun _ s'=>∃ H',Inv X pins σ H' s'/\Q H') X.xe s
section
variable {X:Cx}{pos:Pos}
def dh (i:Nat):TG:=fun v σ H Q=>Q (σ.set i (some v)) H
theorem aF {i:Nat}{x:Str}(hN:X.N.Nodup)(hi:X.N[i]? = some x)(hx:Loc X.env.scope x)(hf:X.fn x=true\/X.env.scope.names.lookup x=some .local:=by first | exact .inl rfl | exact .inr rfl | assumption):PG X (.Name x pos) (dh i):=by
 intro pins s σ H v u Q I r h;exact wpAny_assign_Name (mU I hN hi hx r (fun s' I'=>⟨_,H,I',h⟩) hf)
def uo:TGs:=fun vs σ H Q=>vs=[]/\Q σ H
def jN (t:TG)(u:TGs):TGs:=fun vs σ H Q=>∃ v r,vs=v::r/\t v σ H fun σ' H'=>u r σ' H' Q
theorem dF:PGs X [] uo:=by
 intro pins s σ H vs us Q I r h;obtain⟨e,h⟩:=h;subst e;cases r;exact assignInOrder_nil ⟨σ,H,I,h⟩
theorem bo {e:Expr}{es:List Expr}{t:TG}{u:TGs}(h1:PG X e t)(h2:PGs X es u)
 (hs:(assignEach (e::es) X.env).map (·.2)=assign e X.env::(assignEach es X.env).map (·.2):=by rfl):PGs X (e::es) (jN t u):=by
 intro pins s σ H vs us Q I r h;obtain⟨v,vr,e1,h⟩:=h;subst e1;cases r with
 | cons r rr =>
  rw [hs];refine assignInOrder_cons (thn (h1 pins s σ H _ _ _ I r h) fun _ s1 ⟨σ1,H1,I1,q1⟩=>?_);exact h2 pins s1 σ1 H1 _ _ Q I1 rr q1
def tJ (K:PySem.W.Frag)(n:Nat)(t:TGs):TG:=fun v σ H Q=>∃ a xs,v=.ref a/\SqT K H a xs/\xs.length=n/\t xs σ H Q
theorem iW {es:List Expr}{k:Nat}{t:TGs}{n:Nat}(hc:X.calm=true)(h:PGs X es t)
 (hn:(assignEach es X.env).length=n:=by rfl)(hst:(assignEach es X.env).findIdx? (·.1)=none:=by rfl):PG X (.Tuple es k pos) (tJ X.K n t):=by
 intro pins s σ H v u Q I r hw;obtain⟨a,xs,e1,hq,hl,hw⟩:=hw;subst e1;cases r;obtain⟨its,rv,ht,hz⟩:=I.tuple hq;refine assign_Tuple_tuple (I.ok.hd hc) ht (by simp [hn,← hl,rv.length]) hst fun h' hx=>?_;have I1:Inv X pins σ H { s with heap:=h' }:=I.kept (t':=s.toks) fun b o e=>hx b o (xY (xF e)) e;exact h pins _ σ H xs _ Q I1 (by simpa using rv) hw
def wY (to ti:TE)(t:vO):TG:=fun v σ H Q=>to σ H fun o H1=>ti σ H1 fun i H2=>t o i v H2 fun H3=>Q σ H3
theorem sr {o i:Expr}{to ti:TE}{t:vO}(ho:PE X o to)(hi:PE X i ti)(hs:wO X t)
 (ha:∀ v,assign (.Subscript o i pos) X.env v=(do
  let ov ← holding [v] (eval o X.env)
  let iv ← holding [v,ov] (eval i X.env)
  standAt pos
  holding [v,ov,iv] (setItem ov iv v)
  release [v,ov,iv] []):=by intro _;rfl):PG X (.Subscript o i pos) (wY to ti t):=by
 intro pins s σ H v u Q I r h;rw [ha];refine xo (yZ (thn (ho pins s σ H _ I h) fun ov s1 ⟨x,H1,I1,r1,q1⟩=>?_));refine xo (yZ (thn (hi pins s1 σ H1 _ I1 q1) fun iv s2 ⟨y,H2,I2,r2,q2⟩=>?_));refine xo (aax (xo (yZ (thn (hs pins s2 σ H2 x y v ov iv u _ I2 r1 r2 r q2) fun _ s3 ⟨H3,I3,q3⟩=>?_))));exact wpAny_release ⟨σ,H3,I3,q3⟩
def qy (te:TE)(g:TG):TS:=fun D σ H=>te σ H fun x H1=>g x σ H1 D.nx
theorem jn {tg e:Expr}{te:TE}{g:TG}(he:PE X e te)(hg:PG X tg g)(hs:swapsWithSole [tg] e pos.line X.env=pure false:=by rfl)(hw:swappedStores [tg] e X.env=pure none:=by rfl)
 (h1:(assignEach [tg] X.env).map (·.2)=[assign tg X.env]:=by rfl):PS X (.Assign [tg] e pos) (qy te g):=by
 intro pins s σ H D I h;refine wpAny_Assign_stores (thn (he pins s σ H _ I h) fun v s1 ⟨x,H1,I1,r1,q1⟩=>?_) hs hw;rw [h1];exact thn (hg pins s1 σ H1 x v _ I1 r1 q1) fun _ s2 q=>q
theorem aD {i:Nat}{x:Str}{e:Expr}{te:TE}{pos':Pos}(hN:X.N.Nodup)(hi:X.N[i]? = some x)(hx:Loc X.env.scope x)(he:PE X e te)(hs:swapsWith e (some (.Name x pos')) pos.line X.env=pure false:=by rfl)(hf:X.fn x=true\/X.env.scope.names.lookup x=some .local:=by first | exact .inl rfl | exact .inr rfl | assumption) :
 PS X (.Assign [.Name x pos'] e pos) (qy te (dh i)):=by
 intro pins s σ H D I h;refine wpAny_Assign_Name (thn (he pins s σ H _ I h) fun v s1 ⟨y,H1,I1,r1,q1⟩=>?_) hs;exact mU I1 hN hi hx r1 (fun s2 I2=>⟨_,H1,I2,q1⟩) hf
end
section
variable {X:Cx}{pos:Pos}
def uR (c:TT)(tb:TS):TS:=fun D σ H=>∃ W:Nat->St->Hp->Prop,(∃ m,W m σ H)/\∀ m σ H,W m σ H →
 c σ H fun b H1=>if b=true then ∃ N:St->Hp->Prop,(∀ σ' H',N σ' H'->∃ m',m' < m/\W m' σ' H')/\tb { D with nx:=N,ct:=N,bk:=D.nx } σ H1 else D.nx σ H1
theorem mJ {c:Expr}{body:List Stmt}{tc:TT}{tb:TS}(hp:PassesOwn (model X.prog X.w) X.A X.env X.xe)(hc:PT X c tc)(hb:PSs X body tb):PS X (.While c body [] pos) (uR tc tb):=by
 intro pins s σ H D I h;obtain⟨W,⟨m0,w0⟩,turn⟩:=h;refine wpAny_While (codeAny_whileLoop (fun n s'=>∃ σ' H',Inv X pins σ' H' s'/\W n σ' H') ?_ m0 ⟨σ,H,I,w0⟩);rintro n s1 ⟨σ1,H1,I1,w1⟩;refine zE hp (thn (hc pins s1 σ1 H1 _ I1 (turn n σ1 H1 w1)) fun b s2 ⟨H2,I2,q2⟩=>?_);cases b with
 | true =>
  obtain⟨N,hN,q2⟩:=q2;rw [if_pos rfl];refine zE hp (thn (hb pins s2 σ1 H2 _ I2 q2) fun f s3 q3=>?_);cases f with
  | next =>
   obtain⟨σ3,H3,I3,n3⟩:=q3;obtain⟨m',hm,w3⟩:=hN σ3 H3 n3;exact⟨m',hm,σ3,H3,I3,w3⟩
  | cont =>
   obtain⟨σ3,H3,I3,n3⟩:=q3;obtain⟨m',hm,w3⟩:=hN σ3 H3 n3;exact⟨m',hm,σ3,H3,I3,w3⟩
  | brk=>exact q3
  | ret v=>exact q3
 | false =>
  rw [if_neg xt];exact aaa ⟨σ1,H2,I2,q2⟩
end
structure It where
 go:Nat->Hp->Prop
 yld:Nat->Hp->V->Hp->Prop
 stop:Nat->Hp->Prop
def kz (X:Cx)(pins:List (Addr×Obj))(H:Hp)(b:Addr):Prop :=
 H b=none/\b≠X.env.locals/\b ∉ X.fs/\(b∈X.ex\/X.s₀.heap.objs.size<=b)/\(∀ x c,X.env.cells.lookup x=some c->c≠b)/\∀ p∈X.pn++pins,p.1≠b
theorem Inv.fpOk {X:Cx}{pins:List (Addr×Obj)}{σ:St}{H H':Hp}{s:Shared}{b:Addr}(I:Inv X pins σ H s)(hb:s.heap.objs.size<=b)(hn:H' b=none):kz X pins H' b:=by
 refine⟨hn,abn (xP I.lt hb),I.nofs hb,.inr (xE I.sz hb),fun x c e z=>?_,fun p hp z=>?_⟩
 ·obtain⟨v,q⟩:=I.cell x c e;exact absurd (xP q.lt (by rw [z];exact hb)) (yU _)
 ·exact absurd (xP (xF (I.pin p hp).1) (by rw [z];exact hb)) (yU _)
structure uY (P:Program)(w:World)(K:PySem.W.Frag)(tg:Expr)(J:It)(fp:List Addr)(it:Addr)(tn:Nat->Heap->Prop):Prop where
 mem:it∈fp
 obj:∀ i h,tn i h->∀ b∈fp,∃ o,h.get? b=some o/\∀ v,o.data≠.cell v
 keep:∀ i h h',tn i h->(∀ b∈fp,∀ o,h.get? b=some o->h'.get? b=some o)->tn i h'
 item:∀ (X:Cx),X.prog=P->X.w=w->X.K=K->X.calm=true->∀ (i:Nat) (pins:List (Addr×Obj)) (s:Shared) (σ:St) (H:Hp) (E:Value->Shared->Prop),Inv X pins σ H s->(∀ b∈fp,kz X pins H b)->tn i s.heap->J.go i H →
  wpAny (model P w) X.A (pyNext (.ref it)) (fun r s1=>∃ u,r=some u ∧
   wpAny (model P w) X.A (letOwnedTupleGo tg (.ref it) u) (fun _ s2=>∃ x H',Inv X pins σ H' s2/\RelV x u/\J.yld i H x H'/\tn (i+1) s2.heap/\∀ b∈fp,H' b=none) E s1) E s
 done:∀ (X:Cx),X.prog=P->X.w=w->X.K=K->X.calm=true->∀ (i:Nat) (pins:List (Addr×Obj)) (s:Shared) (σ:St) (H:Hp) (E:Value->Shared->Prop),Inv X pins σ H s->(∀ b∈fp,kz X pins H b)->tn i s.heap->J.stop i H →
  wpAny (model P w) X.A (pyNext (.ref it)) (fun r s1=>r=none/\Inv X pins σ H s1) E s
 self:∀ (A:Around) (i:Nat) (s:Shared) (Q:Value->Shared->Prop) (E:Value->Shared->Prop),tn i s.heap->Q (.ref it) s->wpAny (model P w) A (pyIter (.ref it)) Q E s
abbrev TI:=St->Hp->(It->Hp->Prop)->Prop
def PIE (X:Cx)(pins:List (Addr×Obj))(σ:St)(tg:Expr)(R:It->Hp->Prop)(itv:Value)(s2:Shared):Prop :=
 ∃ (it:Addr) (fp:List Addr) (tn:Nat->Heap->Prop) (J:It) (H':Hp),itv=.ref it/\Inv X pins σ H' s2/\uY X.prog X.w X.K tg J fp it tn/\tn 0 s2.heap/\(∀ b∈fp,kz X pins H' b)/\R J H'
def PI (X:Cx)(tg iter:Expr)(wi:TI):Prop :=
 ∀ (pins:List (Addr×Obj)) (s:Shared) (σ:St) (H:Hp) (R:It->Hp->Prop),Inv X pins σ H s->wi σ H R →
  wpAny (model X.prog X.w) X.A (eval iter X.env) (fun v s1=>wpAny (model X.prog X.w) X.A (pyIter v) (PIE X pins σ tg R) X.xe s1) X.xe s
theorem uJ {M:Model}{A:Around}{E:Value->Shared->Prop}{s:Shared}{tg:Expr}{it:Addr}{u:Value}{o:Obj}{n:String}{vs:Array Value}{Q:Unit->Shared->Prop}(ho:s.heap.get? it=some o)(hc:o.cls=.type n)(hd:o.data=.fields vs)
 (hn:["enumerate","zip","dict_itemiterator","dict_reverseitemiterator","odict_iterator","itertools.zip_longest","itertools.pairwise"].contains n=false)(hQ:Q () s):wpAny M A (letOwnedTupleGo tg (.ref it) u) Q E s:=by
 unfold letOwnedTupleGo;cases tg<;>first
  | exact xC hQ
  | (cases u<;>first
   | exact xC hQ
   | (refine xo (wpAny_load ho ?_);rw [hc,hd];show wpAny M A (if (["enumerate","zip","dict_itemiterator","dict_reverseitemiterator","odict_iterator","itertools.zip_longest","itertools.pairwise"].contains n && vs[0]? == some (rawInt _))=true then _ else _) Q E s;rw [if_neg (by intro h;rw [hn,Bool.false_and] at h;cases h)];exact xC hQ))
def Itl (K:PySem.W.Frag)(a:Addr):It :=
 ⟨fun i H=>∃ xs x,SqL K H a xs/\xs[i]? = some x,fun i H x H'=>H'=H/\∀ xs,SqL K H a xs->xs[i]? = some x,fun i H=>∃ xs,SqL K H a xs/\xs.length<=i⟩
def Itr (lo:Int)(n:Nat):It:=⟨fun i _=>i < n,fun i H x H'=>H'=H/\x=.int (lo+i),fun i _=>n<=i⟩
theorem oO {P:Program}{w:World}{K:PySem.W.Frag}{tg:Expr}(a it:Addr):uY P w K tg (Itl K a) [it] it (fun i h=>h.IsListIter it a i) where
 mem:=by simp
 obj:=fun i h st b hb=>by
  have e:b=it:=by simpa using hb
  subst e;obtain⟨o,e,c,d⟩:=st;exact⟨o,e,fun v z=>by rw [d] at z;cases z⟩
 keep:=fun i h h' st k=>st.at fun o e=>k it (by simp) o e
 item:=by
  intro X hP hw hK hc i pins s σ H E I hf st hg;subst hP hw hK;obtain⟨xs,x,hq,hx⟩:=hg;obtain⟨its,rv,p,hz⟩:=I.list hq;obtain⟨u,hu,ru⟩:=rv.get hx;obtain⟨f0,f1,f2,f3,f4,f5⟩:=hf it (by simp);refine wpAny_pyNext_list_item st p.isList (x:=u) (by simpa using hu) fun h' st' sb=>?_;have I1:Inv X pins σ H { s with heap:=h' }:=I.turned (t':=s.toks) (fun b o hb e=>(sb.2 b hb).trans e) f0 f1 f3 f4 f5;obtain⟨o,e,c,d⟩:=id st';exact⟨u,rfl,uJ (s:={ s with heap:=h' }) e c d (by decide) ⟨x,H,I1,ru,⟨rfl,fun ys hy=>by rw [I.list_inj hy hq];exact hx⟩,st',fun b hb=>(hf b hb).1⟩⟩
 done:=by
  intro X hP hw hK hc i pins s σ H E I hf st hg;subst hP hw hK;obtain⟨xs,hq,hx⟩:=hg;obtain⟨its,rv,p,hz⟩:=I.list hq;obtain⟨f0,f1,f2,f3,f4,f5⟩:=hf it (by simp);have hl:=rv.length;exact wpAny_pyNext_list_end (I.ok.hd hc) st p.isList (by simp;lia) fun h' eb=>⟨rfl,I.turned (t':=s.toks) (fun b o hb e=>eb b o hb e) f0 f1 f3 f4 f5⟩
 self:=fun _ _ _ _ _ st h=>wpAny_pyIter_listiter st h
theorem nK {P:Program}{w:World}{K:PySem.W.Frag}{tg:Expr}(it:Addr)(lo:Int)(n:Nat):uY P w K tg (Itr lo n) [it] it (fun i h=>IsRangeIter h it (lo+(i:Nat) * 1) ((n:Int) - (i:Nat)) 1) where
 mem:=by simp
 obj:=fun i h st b hb=>by
  have e:b=it:=by simpa using hb
  subst e;exact⟨_,st,fun v z=>by
   have z':Data.fields _=Data.cell v:=z;cases z'⟩
 keep:=fun i h h' st k=>k it (by simp) _ st
 item:=by
  intro X hP hw hK hc i pins s σ H E I hf st hg;subst hP hw hK;obtain⟨f0,f1,f2,f3,f4,f5⟩:=hf it (by simp);have W:=Walks.range (prog:=X.prog) (w:=X.w) (I.ok.hd hc) it lo 1 n;refine W.item i s _ _ hg st fun v h' tk hv st' kk=>?_;obtain⟨t,rfl⟩:=hv;have I1:Inv X pins σ H { s with heap:=h',toks:=tk }:=I.turned (fun b o hb e=>kk b o (by simpa using hb) e) f0 f1 f3 f4 f5;refine⟨_,rfl,uJ (s:={ s with heap:=h',toks:=tk }) (n := "range_iterator") st' rfl rfl (by decide) ⟨.int (lo+i),H,I1,⟨t,?_⟩,⟨rfl,rfl⟩,st',fun b hb=>(hf b hb).1⟩⟩;rw [Int.mul_one]
 done:=by
  intro X hP hw hK hc i pins s σ H E I hf st hg;subst hP hw hK;obtain⟨f0,f1,f2,f3,f4,f5⟩:=hf it (by simp);exact wpAny_pyNext_range_end (I.ok.hd hc) st (by have:n<=i:=hg;lia) fun h' eb=>⟨rfl,I.turned (t':=s.toks) (fun b o hb e=>eb b o hb e) f0 f1 f3 f4 f5⟩
 self:=fun _ _ _ _ _ st h=>wpAny_pyIter_rangeiter st h
section
variable {X:Cx}{tg:Expr}
def tu (K:PySem.W.Frag)(tl:TE):TI:=fun σ H R=>tl σ H fun x H1=>∃ a,x=.ref a/\(∃ xs,SqL K H1 a xs)/\R (Itl K a) H1
theorem cF {l:Expr}{tl:TE}(hl:PE X l tl):PI X tg l (tu X.K tl):=by
 intro pins s σ H R I h;refine thn (hl pins s σ H _ I h) fun v s1 ⟨x,H1,I1,r1,q1⟩=>?_;obtain⟨a,e,⟨xs,hq⟩,q⟩:=q1;subst e;cases r1;obtain⟨its,rv,p,hz⟩:=I1.list hq;refine aa1 p.isList ?_;refine⟨s1.heap.objs.size,[s1.heap.objs.size],_,_,H1,rfl,I1.kept (t':=s1.toks) fun b o e=>xw _ e,oO a _,⟨_,ym _ rfl,rfl,rfl⟩,fun b hb=>?_,q⟩;have e:b=s1.heap.objs.size:=by simpa using hb
 subst e;exact I1.fpOk (xx _) (I1.hok.fresh (xx _))
theorem mr {pins:List (Addr×Obj)}{σ:St}{H:Hp}{s:Shared}{R:It->Hp->Prop}{E:Value->Shared->Prop}{lo hi:Int}{t u v:Tok}{tk:Nat}(I:Inv X pins σ H s)(h1:-(2 ^ 62)<=lo)(h2:lo < 2 ^ 62)(h3:-(2 ^ 62)<=hi)(h4:hi < 2 ^ 62)
 (q:R (Itr lo (hi - lo).toNat) H):wpAny (model X.prog X.w) X.A (pyIter (.ref s.heap.objs.size)) (PIE X pins σ tg R) E { s with heap:=s.heap.push { cls:=.type "range",data:=.fields #[.int lo t,.int hi u,.int 1 v] },toks:=tk }:=by
 refine wpAny_pyIter_range (IsRange.new ..) (small_one h1 h2 h3 h4) ?_;have I1:Inv X pins σ H { s with heap:=s.heap.push { cls:=.type "range",data:=.fields #[.int lo t,.int hi u,.int 1 v] },toks:=tk }:=I.kept fun b o e=>xw _ e;refine⟨(s.heap.push { cls:=.type "range",data:=.fields #[.int lo t,.int hi u,.int 1 v] }).objs.size,[(s.heap.push { cls:=.type "range",data:=.fields #[.int lo t,.int hi u,.int 1 v] }).objs.size],_,_,H,rfl,
  I1.kept (t':=tk) fun b o e=>xw _ e,nK _ lo (hi - lo).toNat,?_,fun b hb=>?_,q⟩
 ·have e1:lo+((0:Nat):Int) * 1=lo:=by simp
  have e2:(((hi - lo).toNat:Nat):Int) - ((0:Nat):Int)=Builtin.Range.rangeSize lo hi 1:=by rw [rangeSize_one];split<;>lia
  show IsRangeIter _ _ (lo+((0:Nat):Int) * 1) ((((hi - lo).toNat:Nat):Int) - ((0:Nat):Int)) 1;rw [e1,e2];exact ym _ rfl
 ·have e:b=(s.heap.push { cls:=.type "range",data:=.fields #[.int lo t,.int hi u,.int 1 v] }).objs.size:=by simpa using hb
  subst e;exact I1.fpOk (xx _) (I1.hok.fresh (xx _))
def vH (ta:TA):TI:=fun σ H R=>ta σ H fun vs H1=>∃ j:Int,vs=[.int j]/\-(2 ^ 62)<=j/\j < 2 ^ 62/\R (Itr 0 j.toNat) H1
def uu (ta:TA):TI:=fun σ H R=>ta σ H fun vs H1=>∃ i j:Int,vs=[.int i,.int j]/\(-(2 ^ 62)<=i/\i < 2 ^ 62/\-(2 ^ 62)<=j/\j < 2 ^ 62)/\R (Itr i (j - i).toNat) H1
theorem bL {a:Expr}{ta:TA}{p pos:Pos}(hg:Gl X "range")(hm:X.mg "range" = none)(ha:PA X [a] ta)(hs:starEach [a] X.env=[(false,eval a X.env)]:=by rfl):PI X tg (.Call (.Name "range" p) [a] [] pos) (vH ta):=by
 intro pins s σ H R I h;refine Call_ (ji I hg hm boot_range (zi (thn (ha pos pins s σ H _ I h) fun us s1 ⟨vs,H1,I1,r1,q1⟩=>?_) hs rfl));obtain⟨j,e,q1,q2,q⟩:=q1;subst e;cases r1 with
 | cons r rr =>
  cases rr;obtain⟨t,rfl⟩:=r;exact call_range_1 (mr I1 (by lia) (by lia) q1 q2 (by simpa using q))
theorem qo {a b:Expr}{ta:TA}{p pos:Pos}(hg:Gl X "range")(hm:X.mg "range" = none)(ha:PA X [a,b] ta)(hs:starEach [a,b] X.env=[(false,eval a X.env),(false,eval b X.env)]:=by rfl)(hs2:starEach [b] X.env=[(false,eval b X.env)]:=by rfl) :
 PI X tg (.Call (.Name "range" p) [a,b] [] pos) (uu ta):=by
 intro pins s σ H R I h;refine Call_ (ji I hg hm boot_range (zi (thn (ha pos pins s σ H _ I h) fun us s1 ⟨vs,H1,I1,r1,q1⟩=>?_) (by rw [hs,hs2]) (by rw [hs2];rfl)));obtain⟨i,j,e,⟨q1,q2,q3,q4⟩,q⟩:=q1;subst e;cases r1 with
 | cons r rr =>
  cases rr with
  | cons r' rr =>
   cases rr;obtain⟨t,rfl⟩:=r;obtain⟨t',rfl⟩:=r';exact call_range_2 (mr I1 q1 q2 q3 q4 q)
def w9 (wi:TI)(g:TG)(tb:TS):TS:=fun D σ H=>wi σ H fun J H1=>∃ W:Nat->Nat->St->Hp->Prop,(∃ m,W 0 m σ H1)/\∀ i m σ H,W i m σ H →
 (J.stop i H/\D.nx σ H)\/(J.go i H/\∃ N:St->Hp->Prop,(∀ σ' H',N σ' H'->∃ m',m' < m/\W (i+1) m' σ' H')/\∀ x H',J.yld i H x H'->g x σ H' fun σ2 H2=>tb { D with nx:=N,ct:=N,bk:=D.nx } σ2 H2)
def jF (fp:List Addr)(h:Heap):List (Addr×Obj):=fp.filterMap fun b=>(h.get? b).map fun o=>(b,o)
theorem cP {fp:List Addr}{h:Heap}{b:Addr}{o:Obj}(hb:b∈fp)(e:h.get? b=some o):(b,o)∈jF fp h:=List.mem_filterMap.mpr ⟨b,hb,by rw [e];rfl⟩
theorem pO {fp:List Addr}{h:Heap}{p:Addr×Obj}(hp:p∈jF fp h):p.1∈fp/\h.get? p.1=some p.2:=by
 obtain⟨b,hb,e⟩:=List.mem_filterMap.mp hp;cases q:h.get? b with
 | none=>rw [q] at e;cases e
 | some o =>
  rw [q] at e;have e':(b,o)=p:=yz e;subst e';exact⟨hb,q⟩
theorem Inv.pinned {pins:List (Addr×Obj)}{σ:St}{H:Hp}{s:Shared}{fp:List Addr}(I:Inv X pins σ H s)(hf:∀ b∈fp,kz X pins H b)(ho:∀ b∈fp,∃ o,s.heap.get? b=some o/\∀ v,o.data≠.cell v):Inv X (pins++jF fp s.heap) σ H s :=
 I.pins_of fun p hp=>(xG.mp hp).elim (fun z=>I.pin p (ye _ z)) fun z=>by
  obtain⟨hb,e⟩:=pO z;obtain⟨f0,f1,f2,_⟩:=hf p.1 hb;obtain⟨o,e',d⟩:=ho p.1 hb;rw [e] at e';cases e';exact⟨e,f0,f1,f2,d⟩
theorem Inv.unpinned {pins pl:List (Addr×Obj)}{σ:St}{H:Hp}{s:Shared}(I:Inv X (pins++pl) σ H s):Inv X pins σ H s:=I.pins_of fun p hp=>I.pin p (ye _ (z4 _ hp))
theorem dZ {iter:Expr}{body:List Stmt}{wi:TI}{g:TG}{tb:TS}{pos:Pos}(hp:PassesOwn (model X.prog X.w) X.A X.env X.xe)(hc:X.calm=true)(hi:PI X tg iter wi)(hg:PG X tg g)(hb:PSs X body tb)
 (hs:∀ x,foldedSetIterable iter X.env x=pure x:=by intro _;rfl):PS X (.For tg iter body [] pos) (w9 wi g tb):=by
 intro pins s σ H D I h;refine wpAny_For (thn (hi pins s σ H _ I h) fun v s1 h1=>thn h1 fun itv s2 h2=>?_) hs;obtain⟨it,fp,tn,J,H2,e,I2,T,st2,f2,W,⟨m0,w0⟩,turn⟩:=h2;subst e;have stat:∀ {H':Hp},(∀ b∈fp,H' b=none)->∀ b∈fp,kz X pins H' b:=fun hn b hb=>⟨hn b hb,(f2 b hb).2⟩;refine codeAny_forLoop_any (fun n s'=>∃ i σ' H',Inv X pins σ' H' s'/\tn i s'.heap/\(∀ b∈fp,H' b=none)/\W i n σ' H') ?_ m0 ⟨0,σ,H2,I2,st2,fun b hb=>(f2 b hb).1,w0⟩;rintro n s3 ⟨i,σ3,H3,I3,st3,fr3,w3⟩;rcases turn i n σ3 H3 w3 with ⟨stop,qn⟩ | ⟨go,N,hN,step⟩
 ·refine zE hp (thn (T.done X rfl rfl rfl hc i pins s3 σ3 H3 X.xe I3 (stat fr3) st3 stop) fun r s4 ⟨hr,I4⟩=>?_);subst hr;exact aaa ⟨σ3,H3,I4,qn⟩
 ·refine zE hp (thn (T.item X rfl rfl rfl hc i pins s3 σ3 H3 X.xe I3 (stat fr3) st3 go) fun r s4 ⟨u,hr,h4⟩=>?_);subst hr;refine zE hp (thn h4 fun _ s5 ⟨x,H5,I5,r5,y5,st5,fr5⟩=>?_);have I5':=I5.pinned (stat fr5) (T.obj _ _ st5);refine zE hp (thn (hg _ s5 σ3 H5 x u _ I5' r5 (step x H5 y5)) fun _ s6 ⟨σ6,H6,I6,q6⟩=>?_);refine zE hp (thn (hb _ s6 σ6 H6 _ I6 q6) fun f s7 q7=>?_);have again:∀ {σ7:St} {H7:Hp},Inv X (pins++jF fp s5.heap) σ7 H7 s7->N σ7 H7->∃ m,m < n/\∃ i σ' H',Inv X pins σ' H' s7/\tn i s7.heap/\(∀ b∈fp,H' b=none)/\W i m σ' H':=fun {σ7 H7} I7 n7=>by
   obtain⟨m',hm,w7⟩:=hN σ7 H7 n7;refine⟨m',hm,i+1,σ7,H7,I7.unpinned,T.keep _ _ _ st5 fun b hb o e=>(I7.pin (b,o) (ye _ (ye _ (cP hb e)))).1,fun b hb=>?_,w7⟩;obtain⟨o,e,d⟩:=T.obj _ _ st5 b hb;exact (I7.pin (b,o) (ye _ (ye _ (cP hb e)))).2.1
  cases f with
  | next=>obtain⟨σ7,H7,I7,n7⟩:=q7;exact again I7 n7
  | cont=>obtain⟨σ7,H7,I7,n7⟩:=q7;exact again I7 n7
  | brk=>obtain⟨σ7,H7,I7,q7⟩:=q7;exact⟨σ7,H7,I7.unpinned,q7⟩
  | ret v=>obtain⟨x7,σ7,H7,I7,r7,q7⟩:=q7;exact⟨x7,σ7,H7,I7.unpinned,r7,q7⟩
end
theorem ic {K:PySem.W.Frag}{a:Addr}{xs:List V}{g:TG}{tb:TS}{D:lg}{σ:St}{H:Hp}(Pv:Nat->St->Hp->Prop)(h0:Pv 0 σ H)(hl:∀ i σ H,i<=xs.length->Pv i σ H->SqL K H a xs)
 (hs:∀ i x σ H,xs[i]? = some x->Pv i σ H->g x σ H fun σ2 H2=>tb { D with nx:=Pv (i+1),ct:=Pv (i+1),bk:=D.nx } σ2 H2)(hd:∀ σ H,Pv xs.length σ H->D.nx σ H) :
 ∃ W:Nat->Nat->St->Hp->Prop,(∃ m,W 0 m σ H)/\∀ i m σ H,W i m σ H →
  ((Itl K a).stop i H/\D.nx σ H)\/((Itl K a).go i H/\∃ N:St->Hp->Prop,(∀ σ' H',N σ' H'->∃ m',m' < m/\W (i+1) m' σ' H')/\∀ x H',(Itl K a).yld i H x H'->g x σ H' fun σ2 H2=>tb { D with nx:=N,ct:=N,bk:=D.nx } σ2 H2):=by
 refine⟨fun i m σ H=>m=xs.length - i/\i<=xs.length/\Pv i σ H,⟨xs.length,by simp,xS _,h0⟩,?_⟩;rintro i m σ H ⟨rfl,hi,p⟩;have q:=hl i σ H hi p;by_cases hlt:i < xs.length
 ·refine .inr ⟨⟨xs,xs[i],q,by simp [hlt]⟩,Pv (i+1),fun σ' H' p'=>⟨xs.length - (i+1),by lia,rfl,hlt,p'⟩,fun x H' y=>?_⟩;obtain⟨e,y⟩:=y;subst e;exact hs i x σ _ (y xs q) p
 ·have e:i=xs.length:=by lia
  subst e;exact .inl ⟨⟨xs,q,xx _⟩,hd σ H p⟩
theorem dC {lo:Int}{n:Nat}{g:TG}{tb:TS}{D:lg}{σ:St}{H:Hp}(Pv:Nat->St->Hp->Prop)(h0:Pv 0 σ H)
 (hs:∀ i σ H,i < n->Pv i σ H->g (.int (lo+i)) σ H fun σ2 H2=>tb { D with nx:=Pv (i+1),ct:=Pv (i+1),bk:=D.nx } σ2 H2)(hd:∀ σ H,Pv n σ H->D.nx σ H) :
 ∃ W:Nat->Nat->St->Hp->Prop,(∃ m,W 0 m σ H)/\∀ i m σ H,W i m σ H →
  ((Itr lo n).stop i H/\D.nx σ H)\/((Itr lo n).go i H/\∃ N:St->Hp->Prop,(∀ σ' H',N σ' H'->∃ m',m' < m/\W (i+1) m' σ' H')/\∀ x H',(Itr lo n).yld i H x H'->g x σ H' fun σ2 H2=>tb { D with nx:=N,ct:=N,bk:=D.nx } σ2 H2):=by
 refine⟨fun i m σ H=>m=n - i/\i<=n/\Pv i σ H,⟨n,by simp,xS _,h0⟩,?_⟩;rintro i m σ H ⟨rfl,hi,p⟩;by_cases hlt:i < n
 ·refine .inr ⟨hlt,Pv (i+1),fun σ' H' p'=>⟨n - (i+1),by lia,rfl,hlt,p'⟩,fun x H' y=>?_⟩;obtain⟨e,y⟩:=y;subst e y;exact hs i σ _ hlt p
 ·have e:i=n:=by lia
  subst e;exact .inl ⟨xx _,hd σ H p⟩
abbrev R2:=V->V->Hp->VK->Prop
def OpR (X:Cx)(f:Value->Value->Sem Value)(r:R2):Prop :=
 ∀ (pins:List (Addr×Obj)) (s:Shared) (σ:St) (H:Hp) (x y:V) (v u:Value) (Q:VK),Inv X pins σ H s->RelV x v->RelV y u->r x y H Q →
  wpAny (model X.prog X.w) X.A (f v u) (EP X pins σ Q) X.xe s
def UnR (X:Cx)(f:Value->Sem Value)(r:V->Hp->VK->Prop):Prop :=
 ∀ (pins:List (Addr×Obj)) (s:Shared) (σ:St) (H:Hp) (x:V) (v:Value) (Q:VK),Inv X pins σ H s->RelV x v->r x H Q →
  wpAny (model X.prog X.w) X.A (f v) (EP X pins σ Q) X.xe s
def eW (X:Cx)(f:Value)(r:List V->Hp->VK->Prop):Prop :=
 ∀ (pins:List (Addr×Obj)) (s:Shared) (σ:St) (H:Hp) (xs:List V) (us:List Value) (Q:VK),Inv X pins σ H s->Vals xs us->r xs H Q →
  wpAny (model X.prog X.w) X.A (call f us) (EP X pins σ Q) X.xe s
def xh (X:Cx)(r:V->Hp->(Bool->Hp->Prop)->Prop):Prop :=
 ∀ (pins:List (Addr×Obj)) (s:Shared) (σ:St) (H:Hp) (x:V) (v:Value) (Q:Bool->Hp->Prop),Inv X pins σ H s->RelV x v->r x H Q →
  wpAny (model X.prog X.w) X.A (truthy v) (TP X pins σ Q) X.xe s
def tOp (r:R2)(ta tb:TE):TE:=fun σ H Q=>ta σ H fun x H1=>tb σ H1 fun y H2=>r x y H2 Q
def tUn (r:V->Hp->VK->Prop)(ta:TE):TE:=fun σ H Q=>ta σ H fun x H1=>r x H1 Q
def rI (C:Int->Int->Prop)(g:Int->Int->V):R2:=fun x y H Q=>∃ i j,x=.int i/\y=.int j/\C i j/\Q (g i j) H
def rI0 (g:Int->Int->V):R2:=fun x y H Q=>∃ i j,x=.int i/\y=.int j/\Q (g i j) H
def rU (g:Int->V):V->Hp->VK->Prop:=fun x H Q=>∃ i,x=.int i/\Q (g i) H
section
variable {X:Cx}{a b c:Expr}{ta tb tc:TE}{pos:Pos}
theorem vN (ha:PE X a ta)(hb:PE X b tb){pins:List (Addr×Obj)}{s:Shared}{σ:St}{H:Hp}{R:V->V->Hp->Prop}(I:Inv X pins σ H s)
 (h:ta σ H fun x H1=>tb σ H1 fun y H2=>R x y H2){Q:Value->Shared->Prop}{f:Value->Value->Sem Value}
 (hf:∀ v u s2 x y H2,Inv X pins σ H2 s2->RelV x v->RelV y u->R x y H2->wpAny (model X.prog X.w) X.A (f v u) Q X.xe s2) :
 wpAny (model X.prog X.w) X.A (eval a X.env) (fun v s₁=>wpAny (model X.prog X.w) X.A (eval b X.env) (fun u s₂=>wpAny (model X.prog X.w) X.A (f v u) Q X.xe s₂) X.xe s₁) X.xe s:=by
 refine thn (ha pins s σ H _ I h) fun v s1 ⟨x,H1,I1,r1,q1⟩=>?_;refine thn (hb pins s1 σ H1 _ I1 q1) fun u s2 ⟨y,H2,I2,r2,q2⟩=>?_;exact hf v u s2 x y H2 I2 r1 r2 q2
theorem aN {op:Operator}{r:R2}(ho:OpR X (binaryOp op) r)(ha:PE X a ta)(hb:PE X b tb):PE X (.BinOp a op b pos) (tOp r ta tb):=by
 intro pins s σ H Q I h;exact wpAny_BinOp (vN ha hb I h fun v u s2 x y H2 I2 rx ry q=>ho pins s2 σ H2 x y v u Q I2 rx ry q)
theorem qd {op:UnaryOp}{r:V->Hp->VK->Prop}(ho:UnR X (unaryOp op) r)(ha:PE X a ta):PE X (.UnaryOp op a pos) (tUn r ta):=by
 intro pins s σ H Q I h;exact UnaryOp_ (thn (ha pins s σ H _ I h) fun v s1 ⟨x,H1,I1,r1,q1⟩=>ho pins s1 σ H1 x v Q I1 r1 q1)
theorem opI {f:Value->Value->Sem Value}{C:Int->Int->Prop}{g:Int->Int->Int}
 (rule:∀ (i j:Int) (t u:Tok) (s:Shared) (Q:Value->Shared->Prop) (E:Value->Shared->Prop),C i j->Q (.int (g i j) s.toks) { s with toks:=s.toks+1 }->wpAny (model X.prog X.w) X.A (f (.int i t) (.int j u)) Q E s) :
 OpR X f (rI C fun i j=>.int (g i j)):=by
 intro pins s σ H x y v u Q I rx ry h;obtain⟨i,j,rfl,rfl,hc,q⟩:=h;obtain⟨t,rfl⟩:=rx;obtain⟨t',rfl⟩:=ry;exact rule i j t t' s _ _ hc ⟨.int (g i j),H,I.tok _,⟨_,rfl⟩,q⟩
theorem wQ {f:Value->Value->Sem Value}{g:Int->Int->Int}
 (rule:∀ (i j:Int) (t u:Tok) (s:Shared) (Q:Value->Shared->Prop) (E:Value->Shared->Prop),Q (.int (g i j) s.toks) { s with toks:=s.toks+1 }->wpAny (model X.prog X.w) X.A (f (.int i t) (.int j u)) Q E s) :
 OpR X f (rI0 fun i j=>.int (g i j)):=by
 intro pins s σ H x y v u Q I rx ry h;obtain⟨i,j,rfl,rfl,q⟩:=h;obtain⟨t,rfl⟩:=rx;obtain⟨t',rfl⟩:=ry;exact rule i j t t' s _ _ ⟨.int (g i j),H,I.tok _,⟨_,rfl⟩,q⟩
theorem vx {f:Value->Value->Sem Value}{g:Int->Int->Bool}
 (rule:∀ (i j:Int) (t u:Tok) (s:Shared) (Q:Value->Shared->Prop) (E:Value->Shared->Prop),Q (.bool (g i j)) s->wpAny (model X.prog X.w) X.A (f (.int i t) (.int j u)) Q E s) :
 OpR X f (rI0 fun i j=>.bl (g i j)):=by
 intro pins s σ H x y v u Q I rx ry h;obtain⟨i,j,rfl,rfl,q⟩:=h;obtain⟨t,rfl⟩:=rx;obtain⟨t',rfl⟩:=ry;exact rule i j t t' s _ _ ⟨.bl (g i j),H,I,rfl,q⟩
def wX (i j:Int):Prop:=0 < j/\j < 1073741824
def wZ (i j:Int):Prop:=0<=j/\j<=1000000/\i.natAbs < 2 ^ 64
def CMul (i j:Int):Prop:=(-(2 ^ 64) < i/\i < 2 ^ 64)\/(-(2 ^ 64) < j/\j < 2 ^ 64)
theorem CMul.ok {i j:Int}(h:CMul i j):IntMulOk i j:=by
 rcases h with ⟨h1,h2⟩ | ⟨h1,h2⟩
 ·exact .of_left (intBits_le_64 h1 h2)
 ·exact .of_right (intBits_le_64 h1 h2)
theorem bH:OpR X (binaryOp .Add) (rI0 fun i j=>.int (i+j)):=wQ fun _ _ _ _ _ _ _ q=>add_int q
theorem kP:OpR X (binaryOp .Sub) (rI0 fun i j=>.int (i - j)):=wQ fun _ _ _ _ _ _ _ q=>sub_int q
theorem gX:OpR X (binaryOp .Mult) (rI CMul fun i j=>.int (i * j)):=opI fun _ _ _ _ _ _ _ hc q=>mul_int q hc.ok
theorem jG:OpR X (binaryOp .FloorDiv) (rI wX fun i j=>.int (i / j)):=opI fun i j _ _ _ _ _ hc q=>by
 have h1:(0:Int) < j:=hc.1;have h2:j < 1073741824:=hc.2;exact floordiv_int (by lia) (by rw [Int.fdiv_eq_ediv_of_nonneg i (by lia)];exact q) (.inl (PyProof.noPylong_small (by lia)))
theorem ip:OpR X (binaryOp .Mod) (rI (fun _ j=>0 < j) fun i j=>.int (i % j)):=opI fun i j _ _ _ _ _ hc q=>by
 have h1:(0:Int) < j:=hc;exact mod_int' (by lia) (by rw [Int.fmod_eq_emod_of_nonneg i (by lia)];exact q)
theorem sG:OpR X (binaryOp .Pow) (rI wZ fun i j=>.int (i ^ j.toNat)):=opI fun _ _ _ _ _ _ _ hc q=>pow_int_small hc.1 hc.2.1 hc.2.2 q
theorem unI {f:Value->Sem Value}{g:Int->Int}
 (rule:∀ (i:Int) (t:Tok) (s:Shared) (Q:Value->Shared->Prop) (E:Value->Shared->Prop),Q (.int (g i) s.toks) { s with toks:=s.toks+1 }->wpAny (model X.prog X.w) X.A (f (.int i t)) Q E s) :
 UnR X f (rU fun i=>.int (g i)):=by
 intro pins s σ H x v Q I rx h;obtain⟨i,rfl,q⟩:=h;obtain⟨t,rfl⟩:=rx;exact rule i t s _ _ ⟨.int (g i),H,I.tok _,⟨_,rfl⟩,q⟩
theorem kJ:UnR X (unaryOp .USub) (rU fun i=>.int (-i)):=unI fun _ _ _ _ _ q=>neg_int q
end
def wK:V->V->Bool
 | .non,.non=>true | .non,.int _=>true | .int _,.non=>true | .non,.bl _=>true | .bl _,.non=>true | .non,.str _=>true | .str _,.non=>true
 | .int _,.int _=>true | .bl _,.bl _=>true | .str _,.str _=>true | .byt _,.byt _=>true
 | .int _,.str _=>true | .str _,.int _=>true | .bl _,.str _=>true | .str _,.bl _=>true
 | _,_=>false
def rEq:R2:=fun x y H Q=>wK x y=true/\Q (.bl (decide (x=y))) H
def rNe:R2:=fun x y H Q=>wK x y=true/\Q (.bl (!decide (x=y))) H
theorem pY {i j:Int}:decide (V.int i=V.int j)=(i == j):=by
 rw [aaF];simp
theorem se {i j:Bool}:decide (V.bl i=V.bl j)=(i == j):=by
 rw [aaF];simp
theorem pG {i j:Str}:decide (V.str i=V.str j)=(i == j):=by
 rw [aaF];simp
theorem qp {i j:Array UInt8}:decide (V.byt i=V.byt j)=(i.toList == j.toList):=by
 rw [aaF];cases i;cases j;simp
section
variable {X:Cx}{a b c:Expr}{ta tb tc:TE}{pos:Pos}
theorem bg {pins:List (Addr×Obj)}{σ:St}{H:Hp}{s:Shared}{Q:VK}{k k':Bool}(I:Inv X pins σ H s)(q:Q (.bl k) H)(e:k=k'):EP X pins σ Q (.bool k') s:=by
 subst e;exact⟨.bl k,H,I,rfl,q⟩
theorem iC:OpR X (compareOp .Eq) rEq:=by
 intro pins s σ H x y v u Q I rx ry h;obtain⟨hs,q⟩:=h;cases x with
 | non =>
  cases rx;cases y with
  | non=>cases ry;exact PySem.EqNone.eq_none_none (bg I q (by simp))
  | bl j=>cases ry;exact PySem.EqNone.eq_none_bool (bg I q (by simp))
  | int j=>obtain⟨t',rfl⟩:=ry;exact PySem.EqNone.eq_none_int (bg I q (by simp))
  | str j=>obtain⟨t',rfl⟩:=ry;exact PySem.EqNone.eq_none_str (bg I q (by simp))
  | _=>exact absurd (show false=true from hs) xt
 | bl i =>
  cases rx;cases y with
  | non=>cases ry;exact PySem.EqNone.eq_bool_none (bg I q (by simp))
  | bl j=>cases ry;exact eq_bool (bg I q se)
  | str j=>obtain⟨t',rfl⟩:=ry;exact PySem.EqMixed.eq_bool_str (bg I q (by simp))
  | _=>exact absurd (show false=true from hs) xt
 | int i =>
  obtain⟨t,rfl⟩:=rx;cases y with
  | non=>cases ry;exact PySem.EqNone.eq_int_none (bg I q (by simp))
  | int j=>obtain⟨t',rfl⟩:=ry;exact eq_int (bg I q pY)
  | str j=>obtain⟨t',rfl⟩:=ry;exact PySem.EqMixed.eq_int_str (bg I q (by simp))
  | _=>exact absurd (show false=true from hs) xt
 | str i =>
  obtain⟨t,rfl⟩:=rx;cases y with
  | non=>cases ry;exact PySem.EqNone.eq_str_none (bg I q (by simp))
  | bl j=>cases ry;exact PySem.EqMixed.eq_str_bool (bg I q (by simp))
  | int j=>obtain⟨t',rfl⟩:=ry;exact PySem.EqMixed.eq_str_int (bg I q (by simp))
  | str j=>obtain⟨t',rfl⟩:=ry;exact eq_str (bg I q pG)
  | _=>exact absurd (show false=true from hs) xt
 | byt i =>
  obtain⟨t,rfl⟩:=rx;cases y with
  | byt j=>obtain⟨t',rfl⟩:=ry;exact PySem.W.eq_bytes (bg I q qp)
  | _=>exact absurd (show false=true from hs) xt
 | _=>cases y<;>exact absurd (show false=true from hs) xt
theorem rf:OpR X (compareOp .NotEq) rNe:=by
 intro pins s σ H x y v u Q I rx ry h;obtain⟨hs,q⟩:=h;cases x with
 | non =>
  cases rx;cases y with
  | non=>cases ry;exact PySem.EqNone.ne_none_none (bg I q (by simp))
  | bl j=>cases ry;exact PySem.EqNone.ne_none_bool (bg I q (by simp))
  | int j=>obtain⟨t',rfl⟩:=ry;exact PySem.EqNone.ne_none_int (bg I q (by simp))
  | str j=>obtain⟨t',rfl⟩:=ry;exact PySem.EqNone.ne_none_str (bg I q (by simp))
  | _=>exact absurd (show false=true from hs) xt
 | bl i =>
  cases rx;cases y with
  | non=>cases ry;exact PySem.EqNone.ne_bool_none (bg I q (by simp))
  | bl j=>cases ry;exact ne_bool (bg I q (xQ not se))
  | str j=>obtain⟨t',rfl⟩:=ry;exact PySem.EqMixed.ne_bool_str (bg I q (by simp))
  | _=>exact absurd (show false=true from hs) xt
 | int i =>
  obtain⟨t,rfl⟩:=rx;cases y with
  | non=>cases ry;exact PySem.EqNone.ne_int_none (bg I q (by simp))
  | int j=>obtain⟨t',rfl⟩:=ry;exact ne_int (bg I q (xQ not pY))
  | str j=>obtain⟨t',rfl⟩:=ry;exact PySem.EqMixed.ne_int_str (bg I q (by simp))
  | _=>exact absurd (show false=true from hs) xt
 | str i =>
  obtain⟨t,rfl⟩:=rx;cases y with
  | non=>cases ry;exact PySem.EqNone.ne_str_none (bg I q (by simp))
  | bl j=>cases ry;exact PySem.EqMixed.ne_str_bool (bg I q (by simp))
  | int j=>obtain⟨t',rfl⟩:=ry;exact PySem.EqMixed.ne_str_int (bg I q (by simp))
  | str j=>obtain⟨t',rfl⟩:=ry;exact ne_str (bg I q (xQ not pG))
  | _=>exact absurd (show false=true from hs) xt
 | byt i =>
  obtain⟨t,rfl⟩:=rx;cases y with
  | byt j=>obtain⟨t',rfl⟩:=ry;exact PySem.W.ne_bytes (bg I q (xQ not qp))
  | _=>exact absurd (show false=true from hs) xt
 | _=>cases y<;>exact absurd (show false=true from hs) xt
theorem rj:OpR X (compareOp .Lt) (rI0 fun i j=>.bl (decide (i < j))):=vx fun _ _ _ _ _ _ _ q=>lt_int q
theorem oC:OpR X (compareOp .LtE) (rI0 fun i j=>.bl (decide (i<=j))):=vx fun _ _ _ _ _ _ _ q=>le_int q
theorem ve:OpR X (compareOp .Gt) (rI0 fun i j=>.bl (decide (j < i))):=vx fun _ _ _ _ _ _ _ q=>gt_int q
theorem vc:OpR X (compareOp .GtE) (rI0 fun i j=>.bl (decide (j<=i))):=vx fun _ _ _ _ _ _ _ q=>ge_int q
theorem pN:OpR X (compareOp .In) (fun x y H Q=>∃ i j,x=.str i/\y=.str j/\Q (.bl (!(Builtin.Str.occurrences j i 0 j.length 1).isEmpty)) H):=by
 intro pins s σ H x y v u Q I rx ry h;obtain⟨i,j,rfl,rfl,q⟩:=h;obtain⟨t,rfl⟩:=rx;obtain⟨t',rfl⟩:=ry;exact in_str (bg I q rfl)
theorem aY (b:Expr){op:CmpOp}(h:op≠.In:=by decide)(h2:op≠.NotIn:=by decide):behindInMarks op b=false:=by
 have e1:(op == CmpOp.In)=false:=by cases op<;>first | rfl | exact absurd rfl h
 have e2:(op == CmpOp.NotIn)=false:=by cases op<;>first | rfl | exact absurd rfl h2
 cases b<;>simp [behindInMarks,e1,e2]
theorem bI {op:CmpOp}{r:R2}(ho:OpR X (compareOp op) r)(ha:PE X a ta)(hb:PE X b tb)(hm:behindInMarks op b=false):PE X (.Compare a [op] [b] pos) (tOp r ta tb):=by
 intro pins s σ H Q I h;exact wpAny_Compare1 (vN ha hb I h fun v u s2 x y H2 I2 rx ry q=>ho pins s2 σ H2 x y v u Q I2 rx ry q) hm
def hG (t:TE):TT:=fun σ H Q=>t σ H fun x H'=>∃ k,x=.bl k/\Q k H'
theorem aZ {op:CmpOp}{r:R2}(ho:OpR X (compareOp op) r)(ha:PE X a ta)(hb:PE X b tb)(hm:behindInMarks op b=false):PT X (.Compare a [op] [b] pos) (hG (tOp r ta tb)):=by
 intro pins s σ H Q I h;refine wpAny_isTrue_Compare1 (thn (ha pins s σ H _ I h) fun v s1 ⟨x,H1,I1,r1,q1⟩=>thn (hb pins s1 σ H1 _ I1 q1) fun u s2 ⟨y,H2,I2,r2,q2⟩ =>
  thn (ho pins s2 σ H2 x y v u _ I2 r1 r2 q2) fun c s3 ⟨z,H3,I3,r3,k,e,q3⟩=>?_) hm
 subst e;cases r3;exact yJ ⟨H3,I3,q3⟩
def sx (r r':R2)(ta tb tc:TE):TE:=fun σ H Q=>ta σ H fun x H1=>tb σ H1 fun y H2=>r x y H2 fun z H3=>∃ k,z=.bl k ∧
 (if k=true then tc σ H3 fun w' H4=>r' y w' H4 Q else Q (.bl false) H3)
theorem qQ {op op':CmpOp}{r r':R2}(ho:OpR X (compareOp op) r)(ho':OpR X (compareOp op') r')(ha:PE X a ta)(hb:PE X b tb)(hc:PE X c tc)
 (hm:lastMarks [op,op'] [b,c]=false:=by with_unfolding_all rfl):PE X (.Compare a [op,op'] [b,c] pos) (sx r r' ta tb tc):=by
 intro pins s σ H Q I h;refine Compare_chain (thn (ha pins s σ H _ I h) fun v s1 ⟨x,H1,I1,r1,q1⟩=>chain_link (thn (hb pins s1 σ H1 _ I1 q1) fun u s2 ⟨y,H2,I2,r2,q2⟩ =>
  thn (ho pins s2 σ H2 x y v u _ I2 r1 r2 q2) fun d s3 ⟨z,H3,I3,r3,k,e,q3⟩=>?_)) hm
 subst e;cases r3;refine yJ ?_;cases k with
 | false=>exact ite_ff ⟨.bl false,H3,I3,rfl,q3⟩
 | true=>exact ite_tt (chain_last (thn (hc pins s3 σ H3 _ I3 q3) fun w' s4 ⟨z',H4,I4,r4,q4⟩=>ho' pins s4 σ H4 y z' u w' Q I4 r2 r4 q4))
theorem jW {op op':CmpOp}{r r':R2}(ho:OpR X (compareOp op) r)(ho':OpR X (compareOp op') r')(ha:PE X a ta)(hb:PE X b tb)(hc:PE X c tc)
 (hm:lastMarks [op,op'] [b,c]=false:=by with_unfolding_all rfl):PT X (.Compare a [op,op'] [b,c] pos) (hG (sx r r' ta tb tc)):=by
 intro pins s σ H Q I h;refine isTrue_chain (thn (ha pins s σ H _ I h) fun v s1 ⟨x,H1,I1,r1,q1⟩=>test_link (thn (hb pins s1 σ H1 _ I1 q1) fun u s2 ⟨y,H2,I2,r2,q2⟩ =>
  thn (ho pins s2 σ H2 x y v u _ I2 r1 r2 q2) fun d s3 ⟨z,H3,I3,r3,k,e,q3⟩=>?_)) hm
 subst e;cases r3;refine yJ ?_;cases k with
 | false =>
  obtain⟨k',e',q'⟩:=q3;cases e';exact ite_ff ⟨H3,I3,q'⟩
 | true =>
  refine ite_tt (test_last (thn (hc pins s3 σ H3 _ I3 q3) fun w' s4 ⟨z',H4,I4,r4,q4⟩=>thn (ho' pins s4 σ H4 y z' u w' _ I4 r2 r4 q4) fun d' s5 ⟨z2,H5,I5,r5,k2,e2,q5⟩=>?_));subst e2;cases r5;exact yJ ⟨H5,I5,q5⟩
def wC (K:PySem.W.Frag)(x:V)(H:Hp)(k:Bool):Prop :=
 match x with
 | .non=>k=false
 | .bl b=>k=b
 | .int i=>k=(i != 0)
 | .str y=>y.length<=sizeLine/\k=((y.length:Int) != 0)
 | .byt y=>y.size<=sizeLine/\k=((y.size:Int) != 0)
 | .ref p=>(∃ xs,SqL K H p xs/\k=!xs.isEmpty)\/(∃ xs,SqT K H p xs/\k=!xs.isEmpty)\/∃ kvs,H p=some (.dK kvs)/\k=!kvs.isEmpty
 | _=>False
theorem oa {κ:Type}{kvs:List (κ×V)}{vs:List (κ×Value)}(r:KV kvs vs):(!vs.isEmpty)=!kvs.isEmpty:=by
 cases r<;>rfl
theorem jC {xs:List V}{its:List Value}(r:Vals xs its):(!its.toArray.isEmpty)=!xs.isEmpty:=by
 cases r<;>simp
theorem iD:(sizeLine:Nat) < 2 ^ 63:=by rw [sizeLine_eq];decide
theorem uE:xh X (fun x H Q=>∃ k,wC X.K x H k/\Q k H):=by
 intro pins s σ H x v Q I rx h;obtain⟨k,e,q⟩:=h;have hl:=iD;have hs:sizeLine=16777216:=sizeLine_eq;cases x with
 | non =>
  cases rx;have e':k=false:=e;subst e';exact truthy_none ⟨H,I,q⟩
 | bl b =>
  cases rx;have e':k=b:=e;subst e';exact yJ ⟨H,I,q⟩
 | int i =>
  obtain⟨t,rfl⟩:=rx;have e':k=(i != 0):=e;subst e';exact PySem.P.truthy_int ⟨H,I,q⟩
 | str y =>
  obtain⟨t,rfl⟩:=rx;obtain⟨hy,e'⟩:y.length<=sizeLine/\k=((y.length:Int) != 0):=e;subst e';exact PySem.P.truthy_str (by lia) ⟨H,I.tok _,q⟩
 | byt y =>
  obtain⟨t,rfl⟩:=rx;obtain⟨hy,e'⟩:y.size<=sizeLine/\k=((y.size:Int) != 0):=e;subst e';exact PySem.W.truthy_bytes (by lia) ⟨H,I.tok _,q⟩
 | ref p =>
  cases rx;have e':(∃ xs,SqL X.K H p xs/\k=!xs.isEmpty)\/(∃ xs,SqT X.K H p xs/\k=!xs.isEmpty)\/∃ kvs,H p=some (.dK kvs)/\k=!kvs.isEmpty:=e;rcases e' with ⟨xs,hx,e'⟩ | ⟨xs,hx,e'⟩ | ⟨kvs,hx,e'⟩
  ·subst e';obtain⟨its,r,pl,hz⟩:=I.list hx;have hlen:=r.length;exact wpAny_truthy_list pl.isList (by simp only [xI];lia) ⟨H,I.tok _,by rw [jC r];exact q⟩
  ·subst e';obtain⟨its,r,pl,hz⟩:=I.tuple hx;have hlen:=r.length;exact truthy_tuple pl (by simp only [xI];lia) ⟨H,I.tok _,by rw [jC r];exact q⟩
  ·subst e';obtain⟨hz,hS,vs,r,m⟩:kvs.length<=sizeLine/\(p == sysModules)=false/\∃ vs,KV kvs vs/\s.heap.DictOf (lI X.prog X.w) p vs:=I.hok p _ hx;have hlen:kvs.length=vs.length:=Paired.length r;exact wpAny_truthy_dict hS m (by lia) ⟨H,I.tok _,by rw [oa r];exact q⟩
 | _=>exact (show False from e).elim
theorem dE:OpR X (binaryOp .Add) (fun x y H Q=>∃ i j,x=.str i/\y=.str j/\i.length+j.length<=sizeLine/\Q (.str (i++j)) H):=by
 intro pins s σ H x y v u Q I rx ry h;obtain⟨i,j,rfl,rfl,hz,q⟩:=h;obtain⟨t,rfl⟩:=rx;obtain⟨t',rfl⟩:=ry;exact add_str (fun t' tk=>⟨.str (i++j),H,I.tok _,⟨_,rfl⟩,q⟩) hz
theorem gZ {x:V}{us:List Value}(r:Vals [x] us):∃ u,us=[u]/\RelV x u:=by
 cases r with
 | cons r1 r2=>cases r2;exact⟨_,rfl,r1⟩
theorem rW {x y:V}{us:List Value}(r:Vals [x,y] us):∃ u w',us=[u,w']/\RelV x u/\RelV y w':=by
 cases r with
 | cons r1 r2 =>
  cases r2 with
  | cons r3 r4=>cases r4;exact⟨_,_,rfl,r1,r3⟩
theorem qs (hc:X.calm=true):eW X (.builtin "max") (fun xs H Q=>∃ i j,xs=[.int i,.int j]/\Q (.int (if j > i then j else i)) H):=by
 intro pins s σ H xs us Q I r h;obtain⟨i,j,rfl,q⟩:=h;obtain⟨u,w',rfl,⟨t,rfl⟩,⟨t',rfl⟩⟩:=rW r;refine max_two_ints (I.ok.hd hc) fun h' tk k=>⟨_,H,I.kept k,?_,q⟩;by_cases hj:j > i
 ·rw [if_pos hj,if_pos hj];exact⟨_,rfl⟩
 ·rw [if_neg hj,if_neg hj];exact⟨_,rfl⟩
theorem f7 (hc:X.calm=true):eW X (.builtin "min") (fun xs H Q=>∃ i j,xs=[.int i,.int j]/\Q (.int (if j < i then j else i)) H):=by
 intro pins s σ H xs us Q I r h;obtain⟨i,j,rfl,q⟩:=h;obtain⟨u,w',rfl,⟨t,rfl⟩,⟨t',rfl⟩⟩:=rW r;refine min_two_ints (I.ok.hd hc) fun h' tk k=>⟨_,H,I.kept k,?_,q⟩;by_cases hj:j < i
 ·rw [if_pos hj,if_pos hj];exact⟨_,rfl⟩
 ·rw [if_neg hj,if_neg hj];exact⟨_,rfl⟩
theorem iy:eW X (.type "int") (fun xs H Q=>(∃ i,xs=[.int i]/\Q (.int i) H)\/∃ k,xs=[.bl k]/\Q (.int (if k then 1 else 0)) H):=by
 intro pins s σ H xs us Q I r h;rcases h with ⟨i,rfl,q⟩ | ⟨k,rfl,q⟩
 ·obtain⟨u,rfl,t,rfl⟩:=gZ r;exact call_int_int ⟨.int i,H,I,⟨_,rfl⟩,q⟩
 ·obtain⟨u,rfl,r1⟩:=gZ r;cases r1;exact call_int_bool ⟨.int (if k then 1 else 0),H,I.tok _,⟨_,rfl⟩,q⟩
end
structure ObjM (h:Heap)(x dx C:Addr)(mA:Str->Option Value):Prop where
 obj:h.get? x=some (instObj C dx)
 ns:h.Ns1 dx mA
 ne:dx≠x
theorem pR {h:Heap}{dx:Addr}{mA:Str->Option Value}(n:h.Ns1 dx mA):∃ od,h.get? dx=some od/\∀ name,lookIn name od=some (mA name):=by
 obtain⟨o,es,ep,ho,hd,hk,_,hm⟩:=n;refine⟨o,ho,fun name=>?_⟩;have e:=hm name;unfold nsFind findBy at e;rw [← Array.find?_toList] at e;unfold lookIn;rw [hd];dsimp only;split
 ·rename_i y q;rw [q] at e;exact xQ some e
 ·rename_i q;rw [q] at e;have a:es.toList.any (·.refKey)=false:=by
   rw [List.any_eq_false];intro y hy;obtain⟨z,t,hkey⟩:=hk y (Array.mem_toList_iff.mp hy);simp [DictEntry.refKey,hkey]
  have a':¬ es.toList.any (·.refKey)=true:=by rw [a];exact xt
  rw [if_neg a'];exact xQ some e
theorem ObjM.look {h:Heap}{x dx C:Addr}{mA:Str->Option Value}(I:ObjM h x dx C mA):∃ od,InstAt h x (instObj C dx) C (some od)/\∀ name,lookIn name od=some (mA name) :=
 let ⟨od,ho,hl⟩:=pR I.ns
 ⟨od,⟨I.obj,rfl,rfl,ho⟩,hl⟩
section
variable {prog:Program}{w:World}{A:Around}{E:Value->Shared->Prop}{s:Shared}{K:PySem.W.Frag}{x dx C f:Addr}{mA:Str->Option Value}{name:Str}{v:Value}
end
section
variable {P:Program}{w:World}{H H':Hp}{h h':Heap}{a C dx:Addr}{fs fs':List (Str×V)}
theorem tH (hok:HOk P w H h)(e:H a=some (.ins C dx fs)):∃ mA,ObjM h a dx C mA/\(∀ f,vZ (fs.lookup f) (mA f))/\PySem.Within mA (fs.map (·.1))/\fs.length<=1000/\H dx=some (.own a):=by
 obtain⟨d,z,ne,ob,mA,n,r,q⟩:=(show ObjOk P w H h a (.ins C dx fs) from hok a _ e);exact⟨mA,⟨ob,n,ne⟩,r,q,z,d⟩
end
structure Cls (K:PySem.W.Frag)(C:Addr):Prop where
 pg:plainGet K C Str.empty=true
 hd:PySem.W.hasDictIn K C=true
 po:PySem.W.plainOver K C=true
 sa:findIn K (.ref C) "__setattr__" = some (some (.builtin "object.__setattr__"))
theorem Cls.get {K:PySem.W.Frag}{C:Addr}(c:Cls K C)(f:Str):plainGet K C f=true:=c.pg
section
variable {X:Cx}{pins:List (Addr×Obj)}{σ:St}{H:Hp}{s:Shared}{a C dx:Addr}{fs:List (Str×V)}{f:Str}{v:V}{A:Around}{E:Value->Shared->Prop}
theorem t8 {prog:Program}{w:World}{env:Env}{e:Expr}{f:Str}{pos:Pos}{s:Shared}{Q:Value->Shared->Prop}(hb:attributeBase e f env (eval e env)=eval e env)
 (h:wpAny (model prog w) A (eval e env) (fun o s₁=>wpAny (model prog w) A (getAttr o f true) Q E s₁) E s):wpAny (model prog w) A (eval (.Attribute e f pos) env) Q E s :=
 Attribute_any_ h (by rw [arm_eval_Attribute,hb])
end
section
variable {X:Cx}{o e value:Expr}{f:Str}{pos pos' tpos:Pos}{ta tv:TE}
end
section
variable {X:Cx}{pins:List (Addr×Obj)}{σ:St}{H:Hp}{s:Shared}{A:Around}{E:Value->Shared->Prop}{Q:Value->Shared->Prop}{c:Value}{b:Bool}
inductive nM (K:PySem.W.Frag)(H:Hp):V->Value->Prop where
 | non:nM K H .non (.type "NoneType")
 | bl (x:Bool):nM K H (.bl x) (.type "bool")
 | int (i:Int):nM K H (.int i) (.type "int")
 | str (x:Str):nM K H (.str x) (.type "str")
 | flt (x:UInt64):nM K H (.flt x) (.type "float")
 | lst {a:Addr} {xs:List V} (e:H a=some (.lst xs)):nM K H (.ref a) (.type "list")
 | frz {a:Addr} {o:Obj} {xs:List V} (e:H a=some (.frz o (.lst xs))):nM K H (.ref a) (.type "list")
 | tup {a:Addr} {xs:List V} (e:H a=some (.tup xs)):nM K H (.ref a) (.type "tuple")
 | dK {a:Addr} {kvs:List (Key×V)} (e:H a=some (.dK kvs)):nM K H (.ref a) (.type "dict")
 | dT {a:Addr} {kvs:List (List Key×V)} (e:H a=some (.dT kvs)):nM K H (.ref a) (.type "dict")
 | ins {a C dx:Addr} {fs:List (Str×V)} (e:H a=some (.ins C dx fs)) (cl:Cls K C) (ha:findIn K (.ref C) "__class__" = some (some (.builtin "object.__class__")))
  (hn:specialIn K (.builtin "object.__class__") "__get__" = some (some (.builtin "getset_descriptor.__get__"))) (htk:takesIn K (.builtin "object.__class__")=some true)
  (hm:PySem.W.mroIn K C (.type "object")=some true):nM K H (.ref a) (.ref C)
theorem pP {x:V}{u t:Value}(I:Inv X pins σ H s)(rx:RelV x u)(ty:nM X.K H x t)(e:kitOne X.K t c=some b)(h:∀ tk,Q (.bool b) { s with toks:=tk }) :
 wpAny (model X.prog X.w) A (call (.builtin "isinstance") [u,c]) Q E s:=by
 cases ty with
 | non=>cases (show u=Value.none from rx);exact yM PySem.W.kitx_none I.kIn True.intro e (fun z=>nomatch z) h
 | bl y=>cases (show u=Value.bool y from rx);exact yM PySem.W.kitx_bool I.kIn True.intro e (fun z=>nomatch z) h
 | int i=>obtain⟨t,q⟩:=(show ∃ t,u=Value.int i t from rx);cases q;exact yM PySem.W.kitx_int I.kIn True.intro e (fun z=>nomatch z) h
 | str y=>obtain⟨t,q⟩:=(show ∃ t,u=Value.str y t from rx);cases q;exact yM PySem.W.kitx_str I.kIn True.intro e (fun z=>nomatch z) h
 | flt y=>obtain⟨t,q⟩:=(show ∃ t,u=Value.float y t from rx);cases q;exact yM PySem.W.kitx_float I.kIn True.intro e (fun z=>nomatch z) h
 | @lst a xs ea =>
  cases (show u=Value.ref a from rx);obtain⟨_,_,n,_,h1⟩:=(show ObjOk X.prog X.w H s.heap a (.lst xs) from I.hok a _ ea);exact yM kitx_list I.kIn ⟨_,h1,rfl⟩ e (fun z=>nomatch z) h
 | @frz a ob xs ea =>
  cases (show u=Value.ref a from rx);obtain⟨_,_,_,n,_,h1⟩:=(show ObjOk X.prog X.w H s.heap a (.frz ob (.lst xs)) from I.hok a _ ea);exact yM kitx_list I.kIn ⟨_,h1,rfl⟩ e (fun z=>nomatch z) h
 | @tup a xs ea =>
  cases (show u=Value.ref a from rx);obtain⟨_,_,_,p⟩:=(show ObjOk X.prog X.w H s.heap a (.tup xs) from I.hok a _ ea);obtain⟨o,h1,h2,_⟩:=p;exact yM PySem.W.kitx_tuple I.kIn ⟨o,h1,h2⟩ e (fun z=>nomatch z) h
 | @dK a kvs ea =>
  cases (show u=Value.ref a from rx);obtain⟨_,_,vs,_,p⟩:=(show ObjOk X.prog X.w H s.heap a (.dK kvs) from I.hok a _ ea);obtain⟨o,es,ep,h1,h2,_⟩:=p;exact yM kitx_dict I.kIn ⟨o,h1,h2.1⟩ e (fun z=>nomatch z) h
 | @dT a kvs ea =>
  cases (show u=Value.ref a from rx);obtain⟨_,_,xs,_,o,es,ep,h1,h2,_⟩:=(show ObjOk X.prog X.w H s.heap a (.dT kvs) from I.hok a _ ea);exact yM kitx_dict I.kIn ⟨o,h1,h2.1⟩ e (fun z=>nomatch z) h
 | @ins a C dx fs ea cl ha hn htk hm =>
  cases (show u=Value.ref a from rx);obtain⟨mA,O,_⟩:=tH I.hok ea;obtain⟨od,J,_⟩:=O.look;exact yM (PySem.W.kitx_own (cl.get _) cl.hd ha hn htk hm) I.kIn J e (fun z=>nomatch z) h
end
structure Room (k:Nat)(A:Around):Prop where
 hd:A.handled=none
 dp:A.depth+3 * k+5 < recursionLimit
 un:A.units+16 * k+200 < cLine
theorem Room.mono {j k:Nat}{A:Around}(r:Room k A)(h:j<=k):Room j A:=⟨r.hd,by have:=r.dp;lia,by have:=r.un;lia⟩
theorem Room.deeper {k:Nat}{A:Around}(r:Room (k+1) A)(env:Env):Room k (A.deeper env) :=
 ⟨r.hd,by have:=r.dp;show A.depth+1+3 * k+5 < _;lia,by have:=r.un;show A.units+3+16 * k+200 < _;lia⟩
theorem nJ {A:Around}{C:Addr}{us:List Value}{kw:List (Str×Value)}:(A.under (.builtin "type.__call__" ⟨.ref C::us,kw⟩)).depth=A.depth+1:=by
 first | rfl | simp [Around.under,Code.weight,Code.isCreation,Code.isGuard,Code.isCaller,Code.frames,Code.isFrame,guardIds]
theorem ox {A:Around}{C:Addr}{us:List Value}{kw:List (Str×Value)}:(A.under (.builtin "type.__call__" ⟨.ref C::us,kw⟩)).units=A.units+1:=by
 first | rfl | simp [Around.under,Code.cUnits,Code.frames,Code.isFrame]
theorem Room.make {k:Nat}{A:Around}(r:Room (k+1) A)(C:Addr)(us:List Value)(kw:List (Str×Value)):Room k (A.under (.builtin "type.__call__" ⟨.ref C::us,kw⟩)) :=
 ⟨r.hd,by have:=r.dp;rw [nJ];lia,by have:=r.un;rw [ox];lia⟩
theorem Room.depth {k:Nat}{A:Around}(r:Room k A):A.depth < recursionLimit:=by have:=r.dp;lia
theorem Room.units {k:Nat}{A:Around}(r:Room k A):A.units+64 < cLine:=by have:=r.un;lia
def eZ:TA:=fun _ H Q=>Q [] H
def bq (ta:TE)(tr:TA):TA:=fun σ H Q=>ta σ H fun x H1=>tr σ H1 fun xs H2=>Q (x::xs) H2
section
variable {X:Cx}{e:Expr}{es:List Expr}{te:TE}{t:TA}{pos:Pos}
theorem ah:PA X [] eZ:=fun _ _ _ _ H Q I h=>Calls.spliced_nil ⟨[],H,I,.nil,h⟩
theorem ae (ha:PE X e te)(hr:PA X es t)(hs:starEach (e::es) X.env=(false,eval e X.env)::starEach es X.env:=by rfl):PA X (e::es) (bq te t):=by
 intro pos pins s σ H Q I h;rw [hs];show wpAny _ _ (spliced ((false,eval e X.env)::backTo pos (starEach es X.env))) _ _ s;refine Calls.spliced_cons (thn (ha pins s σ H _ I h) fun u s1 ⟨x,H1,I1,r1,q1⟩=>?_);exact thn (hr pos pins s1 σ H1 _ I1 q1) fun us s2 ⟨xs,H2,I2,r2,q2⟩=>⟨x::xs,H2,I2,.cons r1 r2,q2⟩
def wJ (t:TA):TE:=fun σ H Q=>t σ H fun xs H1=>xs.length<=sizeLine/\∀ p,H1 p=none->Q (.ref p) (upd H1 p (.tup xs))
def tG (t:TA):TE:=fun σ H Q=>t σ H fun xs H1=>xs.length<=sizeLine/\∀ p,H1 p=none->Q (.ref p) (upd H1 p (.lst xs))
theorem kO {x1}(h:PA X es t):PE X (.Tuple es x1 pos) (wJ t):=by
 intro pins s σ H Q I hq;refine wpAny_Tuple_spliced (thn (h pos pins s σ H _ I hq) fun us s1 ⟨xs,H1,I1,r,z,q⟩=>⟨by rw [← r.length];exact z,?_⟩);have hf:H1 s1.heap.objs.size=none:=I1.hok.fresh (xx _);refine⟨.ref s1.heap.objs.size,upd H1 s1.heap.objs.size (.tup xs),I1.laid (t':=s1.toks) (fun b u e=>xw _ e) (xx _) ?_,rfl,q _ hf⟩;exact⟨z,us,r,⟨_,ym _ rfl,rfl,_,rfl⟩⟩
theorem a7 (h:PA X es t):PE X (.List es pos) (tG t):=by
 intro pins s σ H Q I hq;refine wpAny_List_spliced (thn (h pos pins s σ H _ I hq) fun us s1 ⟨xs,H1,I1,r,z,q⟩=>⟨by rw [← r.length];exact z,?_⟩);have hf:H1 s1.heap.objs.size=none:=I1.hok.fresh (xx _);refine⟨.ref s1.heap.objs.size,upd H1 s1.heap.objs.size (.lst xs),I1.laid (t':=s1.toks) (fun b u e=>xw _ e) (xx _) ?_,rfl,q _ hf⟩;exact⟨z,us,0,r,ym _ rfl⟩
end
abbrev Sp:=List V->Hp->VK->XK->Prop
abbrev CXT:=List Env->Hp->Shared->XK->Value->Shared->Prop
structure Env0 (P:Program)(w:World)(K:PySem.W.Frag)(mg:Str->Option Value)(base:Heap)(A:Around)(outer:List Env)(s:Shared)(H:Hp):Prop where
 frames:A.frames=some outer
 mod:Mod K mg base
 bs:∀ b o,base.get? b=some o->s.heap.get? b=some o/\H b=none
 bsz:base.objs.size<=s.heap.objs.size
 funs:s.heap.FunFrames base outer
 frf:∀ b∈frs outer,H b=none
 hok:HOk P w H s.heap
 bare:AllBare s.gens
def CE (outer:List Env)(P:Program)(w:World)(H:Hp)(s:Shared)(Q:VK)(u:Value)(s':Shared):Prop :=
 ∃ v H',s'.os=s.os/\AllBare s'.gens/\Un (frs outer) [] H H' s.heap s'.heap/\HOk P w H' s'.heap/\RelV v u/\Q v H'
def CR (CX:CXT)(outer:List Env)(P:Program)(w:World)(H:Hp)(s:Shared)(Q:VK)(E:XK)(r:Result)(s':Shared):Prop :=
 match r with
 | .ok (.ret u)=>CE outer P w H s Q u s'
 | .ok _=>False
 | .error e=>CX outer H s E e s'
structure bf (P:Program)(w:World)(K:PySem.W.Frag)(mg:Str->Option Value)(base:Heap)(CX:CXT)(k:Nat)(f:Addr)(fd:FuncData)(ps:List Str)(sp:Sp):Prop where
 len:∀ vs H Q E,sp vs H Q E->vs.length=ps.length
 run:∀ (A:Around) (outer:List Env) (s:Shared) (H:Hp) (args:Args) (us:List Value) (vs:List V) (Q:VK) (E:XK),Room k A->Env0 P w K mg base A outer s H->BindsTo s fd args (ps.zip us)->Vals vs us->sp vs H Q E →
  codeAny (model P w) A (.call (.ref f) args) (CR CX outer P w H s Q E) s
theorem Env0.make {P:Program}{w:World}{K:PySem.W.Frag}{mg:Str->Option Value}{base:Heap}{A:Around}{outer:List Env}{s:Shared}{H:Hp}(e:Env0 P w K mg base A outer s H)(C:Addr)(us:List Value)(kw:List (Str×Value)) :
 Env0 P w K mg base (A.under (.builtin "type.__call__" ⟨.ref C::us,kw⟩)) outer s H:=⟨by first | exact e.frames | (simpa [Around.under,Code.envs,Code.isFrame,pushEnvs] using e.frames),e.mod,e.bs,e.bsz,e.funs,e.frf,e.hok,e.bare⟩
section
variable {X:Cx}{pins:List (Addr×Obj)}{σ:St}{H:Hp}{s s':Shared}
theorem Inv.env0 (I:Inv X pins σ H s):Env0 X.prog X.w X.K X.mg X.base X.A X.stack s H :=
 ⟨I.ok.frames,I.ok.mod,I.bs,xE I.ok.bsz I.sz,I.stack,I.stkFree,I.hok,I.bare⟩
theorem Inv.after {Q:VK}{u:Value}(I:Inv X pins σ H s)(h:CE X.stack X.prog X.w H s Q u s'):EP X pins σ Q u s':=by
 obtain⟨v,H',os,bare,un,hok,r,q⟩:=h;obtain⟨hh,g,d,t,os'⟩:=s';obtain rfl:os'=s.os:=os;exact⟨v,H',I.call (h':=hh) (g':=g) (d':=d) (t':=t) (ch:=[]) un hok bare (fun b z=>absurd z (by simp)),r,q⟩
end
def fX (sp:Sp)(dvs:List V)(E:XK)(t:TA):TE:=fun σ H Q=>t σ H fun vs H1=>sp (vs++dvs) H1 Q E
def Binds (K:PySem.W.Frag)(fd:FuncData)(ps:List Str)(ds:List Value):Prop :=
 ∀ (s:Shared) (us:List Value),K.In s.heap->(us++ds).length=ps.length->BindsTo s fd ⟨us,[]⟩ (ps.zip (us++ds))
theorem Binds.all {K:PySem.W.Frag}{fd:FuncData}{ps:List Str}(h:∀ us:List Value,us.length=ps.length->bindArgs fd ⟨us,[]⟩=pure (ps.zip us)):Binds K fd ps []:=fun s us _ hl=>by
 rw [yg] at hl ⊢;exact .of_eq (h us hl)
def mh (CX:CXT)(X:Cx)(E:XK):Prop:=∀ (pins:List (Addr×Obj)) (σ:St) (H:Hp) (s:Shared) (e:Value) (s':Shared),Inv X pins σ H s->CX X.stack H s E e s'->X.xe e s'
section
variable {X:Cx}{CX:CXT}{k:Nat}{f C:Addr}{fd:FuncData}{ps:List Str}{sp:Sp}{dvs:List V}{ds:List Value}{E:XK}{x m:Str}{p pos apos:Pos}{e o:Expr}{es:List Expr}{ta:TE}{t:TA}
theorem vm {pins:List (Addr×Obj)}{σ:St}{H:Hp}{s:Shared}{Q:VK}{us:List Value}{vs:List V}(F:bf X.prog X.w X.K X.mg X.base CX k f fd ps sp)(hr:Room k X.A)(hb:Binds X.K fd ps ds)(hd:Vals dvs ds)(hx:mh CX X E)
 (I:Inv X pins σ H s)(r:Vals vs us)(h:sp (vs++dvs) H Q E):wpAny (model X.prog X.w) X.A (call (.ref f) us) (EP X pins σ Q) X.xe s:=by
 have r2:Vals (vs++dvs) (us++ds):=r.append hd;have hl:(us++ds).length=ps.length:=by rw [← r2.length];exact F.len _ _ _ _ h
 refine aaD (aaQ (F.run X.A X.stack s H ⟨us,[]⟩ (us++ds) (vs++dvs) Q E hr I.env0 (hb s us I.kIn hl) r2 h) fun r s' hq=>?_);cases r with
 | error e=>exact hx pins σ H s e s' I hq
 | ok fl =>
  cases fl with
  | ret u=>exact I.after hq
  | next=>exact False.elim hq
  | brk=>exact False.elim hq
  | cont=>exact False.elim hq
theorem bK (F:bf X.prog X.w X.K X.mg X.base CX k f fd ps sp)(hr:Room k X.A)(hg:Gl X x)(hm:X.mg x=some (.ref f))(hk:keepIn X.K (.ref f)=true)(hb:Binds X.K fd ps ds)(hd:Vals dvs ds)(hx:mh CX X E)
 (ha:PA X (e::es) t)(hdb:(x == ("__debug__" : Str))=false:=by decide)(he:starEach (e::es) X.env=(false,eval e X.env)::starEach es X.env:=by rfl)(hpl:(backTo pos (starEach es X.env)).any (·.1)=false:=by rfl) :
 PE X (.Call (.Name x p) (e::es) [] pos) (fX sp dvs E t):=by
 intro pins s σ H Q I h;refine zR (gD I hg hm ?_ hdb);refine aaR (h₀:=X.base) I.ok.mod.kin hk (thn (ha pos pins s σ H _ I h) fun us s1 ⟨vs,H1,I1,r,q⟩=>⟨I1.kIn,?_⟩) he hpl;exact vm F hr hb hd hx I1 r q
end
section
variable {X:Cx}{CX:CXT}{k:Nat}{f C:Addr}{fd:FuncData}{ps ks:List Str}{sp:Sp}{E:XK}{x m:Str}{p pos apos kpos:Pos}{e o:Expr}{es:List Expr}{kws:List Keyword}{te ta:TE}{t tk:TA}{nm:Option Str}
variable {g:List Value->List Value->List Value}{gV:List V->List V->List V}
end
structure aL (N P:List Str)(sc:Scope):Prop where
 kind:sc.kind=.function
 co:sc.isCoroutine=false
 gen:sc.isGenerator=false
 nd:N.Nodup
 pre:N.take P.length=P
 par:∀ x∈P,sc.names.lookup x=some .local\/sc.names.lookup x=some .cell
 nofree:∀ y∈sc.names,y.2≠.free
theorem scM {N P:List Str}{sc:Scope}(a:sc.kind=.function)(b:sc.isCoroutine=false)(c:sc.isGenerator=false)(e:N.take P.length=P)(d:N.Nodup/\(∀ x∈P,sc.names.lookup x=some .local\/sc.names.lookup x=some .cell)/\∀ y∈sc.names,y.2≠.free):aL N P sc:=⟨a,b,c,d.1,e,d.2.1,d.2.2⟩
theorem kg {kindOf:Str->Option NameKind}{x:Str}:∀ {binds:List (Str×Value)} {m:Str->Option Value},(∀ v,(x,v) ∉ binds)->bindL kindOf binds m x=m x
 | [],_,_=>rfl
 | (n,v)::r,m,h=>by
  unfold bindL;rw [kg fun w hw=>h w (xu _ hw)];split
  ·have:x≠n:=by rintro rfl;exact h v xD
   simp [this]
  ·rfl
theorem kC {kindOf:Str->Option NameKind}{x:Str}:∀ {binds:List (Str×Value)} {m:Str->Option Value},(∀ v,(x,v) ∉ binds)->bindC kindOf binds m x=m x
 | [],_,_=>rfl
 | (n,v)::r,m,h=>by
  unfold bindC;rw [kC fun w hw=>h w (xu _ hw)];split
  ·rfl
  ·have:x≠n:=by rintro rfl;exact h v xD
   simp [this]
theorem kI {kindOf:Str->Option NameKind}{x:Str}{v:Value}:∀ {P:List Str} {vs:List Value} {i:Nat} {m:Str->Option Value},P.Nodup->P[i]? = some x->vs[i]? = some v->kindOf x=some .local →
 bindL kindOf (P.zip vs) m x=some v
 | [],_,_,_,_,h,_,_=>by simp at h
 | _::_,[],_,_,_,_,h,_=>by simp at h
 | p::P,w::vs,0,m,nd,h1,h2,hk=>by
  simp at h1 h2;subst h1;subst h2;show bindL kindOf ((p,w)::P.zip vs) m p=_;unfold bindL;rw [kg fun v hv=>(zS.mp nd).1 (abo hv).1,if_pos hk];simp
 | p::P,w::vs,i+1,m,nd,h1,h2,hk=>by
  show bindL kindOf ((p,w)::P.zip vs) m x=_;unfold bindL;exact kI (i:=i) (zS.mp nd).2 (by simpa using h1) (by simpa using h2) hk
theorem kM {kindOf:Str->Option NameKind}{x:Str}{v:Value}:∀ {P:List Str} {vs:List Value} {i:Nat} {m:Str->Option Value},P.Nodup->P[i]? = some x->vs[i]? = some v->kindOf x≠some .local →
 bindC kindOf (P.zip vs) m x=some v
 | [],_,_,_,_,h,_,_=>by simp at h
 | _::_,[],_,_,_,_,h,_=>by simp at h
 | p::P,w::vs,0,m,nd,h1,h2,hk=>by
  simp at h1 h2;subst h1;subst h2;show bindC kindOf ((p,w)::P.zip vs) m p=_;unfold bindC;rw [kC fun v hv=>(zS.mp nd).1 (abo hv).1,if_neg hk];simp
 | p::P,w::vs,i+1,m,nd,h1,h2,hk=>by
  show bindC kindOf ((p,w)::P.zip vs) m x=_;unfold bindC;exact kM (i:=i) (zS.mp nd).2 (by simpa using h1) (by simpa using h2) hk
def jS (N:List Str)(vs:List V):St:=vs.map some++List.replicate (N.length - vs.length) none
def gL (CX:CXT)(P:Program)(w:World)(K:PySem.W.Frag)(mg:Str->Option Value)(base:Heap)(N:List Str)(qual:Str)(scope:Scope)(f:Addr)(cd:Value)(A:Around)(outer:List Env)(s:Shared)(H:Hp)(E:XK):Cx where
 prog:=P
 w:=w
 K:=K
 mg:=mg
 base:=base
 A:=A.deeper (envOfC qual scope s.heap.objs.size f cd)
 N:=N
 s₀:=s
 H₀:=H
 env:=envOfC qual scope s.heap.objs.size f cd
 outer:=outer
 stack:=envOfC qual scope s.heap.objs.size f cd::outer
 ex:=[]
 calm:=true
 fn:=fun _=>true
 pn:=[]
 xe:=fun e s'=>wpAny (model P w) (A.deeper (envOfC qual scope s.heap.objs.size f cd)) (leaving (envOfC qual scope s.heap.objs.size f cd) e) (fun _ s''=>CX outer H s E e s'') (fun e' s''=>CX outer H s E e' s'') s'
theorem mj {sc:Scope}{n:Nat}{x:Str}(h:sc.names.lookup x=some .cell):∃ c,(cellsFrom n sc.names []).lookup x=some c:=by
 have q:=abi sc.names n [] (.inl h);exact Option.isSome_iff_exists.mp q
theorem pQ {CX:CXT}{P:Program}{w:World}{K:PySem.W.Frag}{mg:Str->Option Value}{base:Heap}{N ps:List Str}{qual:Str}{scope:Scope}{f:Addr}{cd:Value}{A:Around}{outer:List Env}{s s1:Shared}{H:Hp}{E:XK}{us:List Value}{vs:List V}
 (S:aL N ps scope)(hd:A.handled=none)(e0:Env0 P w K mg base A outer s H)(hl:vs.length=ps.length)(r:Vals vs us)
 (x:InCallC s s.heap.objs.size (bindL (envOfC qual scope s.heap.objs.size f cd).kindOf (ps.zip us) fun _=>none) (cellsFrom (s.heap.objs.size+1) scope.names []) (bindC (envOfC qual scope s.heap.objs.size f cd).kindOf (ps.zip us) fun _=>none) s1) :
 Inv (gL CX P w K mg base N qual scope f cd A outer s H E) [] (jS N vs) H s1:=by
 have hpl:ps.length<=N.length:=by have:=xQ List.length S.pre;rw [xN] at this;lia
 obtain⟨h1,tk,rfl,hk⟩:=x.done;have noA:∀ b:Addr,b ∉ (gL CX P w K mg base N qual scope f cd A outer s H E).ex:=fun b z=>absurd (show b∈([]:List Addr) from z) (by simp);refine⟨⟨e0.mod,S.kind,rfl,rfl,xx _,fun y z c h1 h2=>?_,fun y hy=>?_,fun y c _ h=>?_,fun _=>hd,Around.frames_deeper e0.frames,.inr ⟨rfl,rfl⟩,fun b z=>absurd z (noA b),e0.bs,e0.bsz,fun b _ _=>noA b,fun b z=>absurd z (noA b),e0.funs,e0.frf⟩,
  rfl,e0.bare,Un.kept hk,⟨_,x.toInCall.ns,fun i y v h1 h2 h3=>?_⟩,fun y c h=>⟨_,x.cell y c h⟩,e0.hok.fresh (xx _),fun y c h=>?_,fun p hp=>absurd (show p∈([]:List (Addr×Obj)) from hp) (by simp),e0.hok.kept hk,?_⟩
 ·exact name_of_addr x.apart (zJ h1) (zJ h2)
 ·have hy:scope.names.lookup y=some .cell\/scope.names.lookup y=some .free:=hy;rcases hy with hy | hy
  ·exact mj hy
  ·exact absurd rfl (S.nofree _ (zJ hy))
 ·exact y6 (x.above y c (zJ h))
 ·have hi:i < vs.length:=by
   unfold jS at h2;by_cases hi:i < vs.length
   ·exact hi
   ·rw [xX (by simpa using hi)] at h2;rw [aab] at h2;split at h2<;>cases h2
  have ha:vs[i]? = some v:=by
   unfold jS at h2;rw [yr (by simpa using hi),xO] at h2;cases e:vs[i]? with
   | none=>rw [e] at h2;cases h2
   | some a=>rw [e] at h2;cases h2;rfl
  obtain⟨u,hu,rv⟩:=r.get ha;have hp:ps[i]? = some y:=by
   rw [← S.pre,zF (by lia)];exact h1
  have ndP:ps.Nodup:=by rw [← S.pre];exact S.nd.sublist (aa2 _ _)
  refine⟨u,rv,?_⟩;rcases S.par y (xV hp) with k | k
  ·exact .inl ⟨k,kI ndP hp hu k⟩
  ·obtain⟨c,e⟩:=mj (n:=s.heap.objs.size+1) k;refine .inr ⟨.inl k,c,e,?_⟩;have q:=x.cell y c e;rw [kM ndP hp hu (by show scope.names.lookup y≠_;rw [k];decide)] at q;exact q
 ·exact e0.hok.fresh (y6 (x.above y c (zJ h)))
 ·unfold jS;show _=N.length;rw [xq,xn,xW];lia
theorem u0 {CX:CXT}{P:Program}{w:World}{K:PySem.W.Frag}{mg:Str->Option Value}{base:Heap}{k:Nat}{f:Addr}{name qual:Str}{params:Arguments}{body:List Stmt}{scope:Scope}{dV kV doc pm cdv ct oc:Value}{an od:Option Addr}
 {osl:Array (Option Value)}{N ps:List Str}{sp:Sp}(lk:K.lookup f=some ⟨oc,od,.func (fnOf name qual params body scope dV kV doc pm an cdv ct),osl⟩)(hcd:codeIn K cdv qual=true)(S:aL N ps scope)
 (len:∀ vs H Q E,sp vs H Q E->vs.length=ps.length)
 (hbody:∀ (A:Around) (outer:List Env) (s:Shared) (H:Hp) (vs:List V) (Q:VK) (E:XK),Room k (A.deeper (envOfC qual scope s.heap.objs.size f cdv))->sp vs H Q E →
  ∃ t,PSs (gL CX P w K mg base N qual scope f cdv A outer s H E) body t/\t { nx:=fun _ H'=>Q .non H',rt:=Q } (jS N vs) H) :
 bf P w K mg base CX (k+1) f (fnOf name qual params body scope dV kV doc pm an cdv ct) ps sp:=by
 refine⟨len,fun A outer s H args us vs Q E hr e0 hb r hsp=>?_⟩;have hl:=len _ _ _ _ hsp;have KX:K.In s.heap:=e0.mod.kin.keeps fun b o e=>(e0.bs b o e).1;have lim:s.heap.NoLimit:=e0.mod.nolimit.keeps fun b o e=>(e0.bs b o e).1;have hkind:∀ y∈ps.zip us,scope.names.lookup y.1=some .local\/(scope.names.lookup y.1=some .cell/\((cellsFrom (s.heap.objs.size+1) scope.names []).lookup y.1).isSome=true):=fun ⟨n,v⟩ hy=>by
  rcases S.par n (abo hy).1 with q | q
  ·exact .inl q
  ·exact .inr ⟨q,abi _ _ _ (.inl q)⟩
 refine codeAny_call_function hr.depth (KX _ _ lk) rfl S.co S.gen rfl (PySem.W.codeRec_of KX hcd) (hb _ _ _ _ ?_);refine wpAny_newFunctionEnv_cells S.kind hkind fun env he s1 x=>?_;subst he;refine⟨lim.keeps x.toInCall.keep,codeAny_func ?_⟩;obtain⟨t,ht,hq⟩:=hbody A outer s H vs Q E (hr.deeper _) hsp;have I:Inv (gL CX P w K mg base N qual scope f cdv A outer s H E) [] (jS N vs) H s1:=pQ S hr.hd e0 hl r x;refine za (ht [] s1 (jS N vs) H _ I hq) (fun fl s' hs=>?_) fun e s' hs=>hs;have fin:∀ {σ':St} {H':Hp} {v:V} {u:Value},Inv (gL CX P w K mg base N qual scope f cdv A outer s H E) [] σ' H' s'->RelV v u->Q v H'->CE outer P w H s Q u s' :=
  fun {σ' H' v u} J rv q=>⟨v,H',J.os,J.bare,J.base,J.hok,rv,q⟩
 cases fl with
 | ret u =>
  obtain⟨v,σ',H',J,rv,q⟩:=hs;exact fin J rv q
 | next =>
  obtain⟨σ',H',J,q⟩:=hs;exact fin (v:=V.non) (u:=Value.none) J rfl q
 | brk =>
  obtain⟨_,_,_,q⟩:=hs;exact False.elim q
 | cont =>
  obtain⟨_,_,_,q⟩:=hs;exact False.elim q
section
variable {X:Cx}{x:Str}{p pos:Pos}{e:Expr}{es:List Expr}{t:TA}{id T:String}{r:List V->Hp->VK->Prop}
def tCB (r:List V->Hp->VK->Prop)(t:TA):TE:=fun σ H Q=>t σ H fun vs H1=>r vs H1 Q
theorem av (hc:eW X (.builtin id) r)(hg:Gl X x)(hm:X.mg x=none)(hv:bootBuiltins x=some (.builtin id))(ha:PA X (e::es) t)(hn:x ≠ "__name__" := by decide)(hdb:(x == ("__debug__" : Str))=false:=by decide)
 (he:starEach (e::es) X.env=(false,eval e X.env)::starEach es X.env:=by rfl)(hpl:(backTo pos (starEach es X.env)).any (·.1)=false:=by rfl):PE X (.Call (.Name x p) (e::es) [] pos) (tCB r t):=by
 intro pins s σ H Q I h;refine zR (ji I hg hm hv ?_ hn hdb);exact aao (thn (ha pos pins s σ H _ I h) fun us s1 ⟨vs,H1,I1,r1,q1⟩=>hc pins s1 σ H1 vs us Q I1 r1 q1) he hpl
theorem bV (hc:eW X (.type T) r)(hg:Gl X x)(hm:X.mg x=none)(hv:bootBuiltins x=some (.type T))(ha:PA X (e::es) t)(hn:x ≠ "__name__" := by decide)(hdb:(x == ("__debug__" : Str))=false:=by decide)
 (he:starEach (e::es) X.env=(false,eval e X.env)::starEach es X.env:=by rfl)(hpl:(backTo pos (starEach es X.env)).any (·.1)=false:=by rfl):PE X (.Call (.Name x p) (e::es) [] pos) (tCB r t):=by
 intro pins s σ H Q I h;refine zR (ji I hg hm hv ?_ hn hdb);exact zi (thn (ha pos pins s σ H _ I h) fun us s1 ⟨vs,H1,I1,r1,q1⟩=>hc pins s1 σ H1 vs us Q I1 r1 q1) he hpl
end
end L2
namespace HT
open PySem PyProof.Rows
section
open PySem.SeqAt
open PySem.AutoSeq1 (wpAny_loadPart')
open PySem.MeetsSeq PySem.MeetsSeq2 PySem.MeetsSeq3
end
section
variable {prog:Program}{w:World}{A:Around}{E:Value->Shared->Prop}{s:Shared}
def sIx (n d:Nat):Option Int->Nat
 | none=>d
 | some v=>if v < 0 then (v+(n:Int)).toNat else min v.toNat n
theorem sIx_none (n d:Nat):sIx n d none=d:=rfl
theorem sIx_nat (n d k:Nat):sIx n d (some (k:Int))=min k n:=by
 show (if (k:Int) < 0 then ((k:Int)+(n:Int)).toNat else min (k:Int).toNat n)=min k n;rw [if_neg (by lia),yf]
end
end HT
namespace L2
open PySem PySem.Spec PyProof.Rows
abbrev TO:=St->Hp->(Option Int->Hp->Prop)->Prop
def PO (X:Cx)(e:Option Expr)(t:TO):Prop :=
 ∀ (pins:List (Addr×Obj)) (s:Shared) (σ:St) (H:Hp) (Q:Option Int->Hp->Prop),Inv X pins σ H s->t σ H Q →
  wpAny (model X.prog X.w) X.A (evalPart e X.env) (fun u s'=>∃ o H',Inv X pins σ H' s'/\IsPart u o/\Q o H') X.xe s
def gI:TO:=fun _ H Q=>Q none H
def nX (t:TE):TO:=fun σ H Q=>t σ H fun x H1=>∃ i,x=.int i/\Q (some i) H1
section
variable {X:Cx}{e:Expr}{te:TE}{lo hi:Option Expr}{tl th:TO}{pos p2:Pos}
theorem cZ:PO X none gI:=by
 intro pins s σ H Q I h;rw [evalPart_none];exact xC ⟨none,H,I,.none,h⟩
theorem dg (h:PE X e te):PO X (some e) (nX te):=by
 intro pins s σ H Q I hw;rw [evalPart_some];refine thn (h pins s σ H _ I hw) fun u s1 ⟨x,H1,I1,r1,q1⟩=>?_;obtain⟨i,rfl,q⟩:=q1;obtain⟨t,rfl⟩:=r1;exact⟨some i,H1,I1,.int i t,q⟩
def SlR (X:Cx)(r:V->Option Int->Option Int->Hp->VK->Prop):Prop :=
 ∀ (pins:List (Addr×Obj)) (s:Shared) (σ:St) (H:Hp) (x:V) (v vl vu:Value) (lo hi:Option Int) (sl:Addr) (Q:VK),Inv X pins σ H s->RelV x v->s.heap.IsSliceOf sl vl vu .none->IsPart vl lo->IsPart vu hi->r x lo hi H Q →
  ∃ T id,typeLookup (.type T) "__getitem__" = pure (some (.builtin id))/\s.TypeIs v T/\wpAny (model X.prog X.w) X.A (getItem v (.ref sl)) (EP X pins σ Q) X.xe s
def tSl (r:V->Option Int->Option Int->Hp->VK->Prop)(te:TE)(tl th:TO):TE:=fun σ H Q=>te σ H fun x H1=>tl σ H1 fun l H2=>th σ H2 fun u H3=>r x l u H3 Q
theorem bY {r:V->Option Int->Option Int->Hp->VK->Prop}(hr:SlR X r)(he:PE X e te)(hl:PO X lo tl)(hu:PO X hi th):PE X (.Subscript e (.Slice lo hi none p2) pos) (tSl r te tl th):=by
 intro pins s σ H Q I h;refine Subscript_ (thn (he pins s σ H _ I h) fun v s1 ⟨x,H1,I1,r1,q1⟩=>?_);refine wpAny_Slice (thn (hl pins s1 σ H1 _ I1 q1) fun vl s2 ⟨l,H2,I2,pl,q2⟩=>thn (hu pins s2 σ H2 _ I2 q2) fun vu s3 ⟨u,H3,I3,pu,q3⟩=>?_);rw [evalPart_none];refine xC ?_;have I4:Inv X pins σ H3 { s3 with heap:=s3.heap.push { cls:=.type "slice",data:=.fields #[vl,vu,.none] } }:=I3.kept (t':=s3.toks) fun b ob q=>xw _ q;obtain⟨T,id,hT,ht,hg⟩:=hr pins { s3 with heap:=s3.heap.push { cls:=.type "slice",data:=.fields #[vl,vu,.none] } } σ H3 x v vl vu l u s3.heap.objs.size Q I4 r1 (Heap.IsSliceOf.new ..) pl pu q3;show wpAny (model X.prog X.w) X.A (subscriptTail e (.Slice lo hi none p2) v (.ref s3.heap.objs.size)) (EP X pins σ Q) X.xe { s3 with heap:=s3.heap.push { cls:=.type "slice",data:=.fields #[vl,vu,.none] } };exact tail_any (ops:=[.ref s3.heap.objs.size,v]) ht hT hg (by with_unfolding_all rfl)
def sg (xs:List V)(lo hi:Option Int):List V:=(xs.drop (HT.sIx xs.length 0 lo)).take (HT.sIx xs.length xs.length hi - HT.sIx xs.length 0 lo)
theorem lX (xs:List V)(lo hi:Option Int):(sg xs lo hi).length<=xs.length:=by
 unfold sg;rw [xN,yV];lia
end
def ixN (n:Nat)(i:Int):Option Nat:=if 0<=i then (if i < n then some i.toNat else none) else if -(n:Int)<=i then some (i+n).toNat else none
def atI {α:Type}(xs:List α)(i:Int):Option α:=(ixN xs.length i).bind fun j=>xs[j]?
theorem lL {n:Nat}{i:Int}{j:Nat}(h:ixN n i=some j):seqIndex? i n=some j/\j < n/\-(n:Int)<=i/\i < n:=by
 unfold ixN at h;by_cases h0:0<=i
 ·rw [if_pos h0] at h;by_cases h1:i < n
  ·rw [if_pos h1] at h;have e:i.toNat=j:=yz h;exact⟨by rw [seqIndex_of h0 h1,e],by lia,by lia,h1⟩
  ·rw [if_neg h1] at h;cases h
 ·rw [if_neg h0] at h;by_cases h1:-(n:Int)<=i
  ·rw [if_pos h1] at h;have e:(i+n).toNat=j:=yz h;exact⟨by rw [seqIndex_neg (by lia) h1,e],by lia,h1,by lia⟩
  ·rw [if_neg h1] at h;cases h
theorem lR {α:Type}{xs:List α}{i:Int}{v:α}(h:atI xs i=some v):∃ j,seqIndex? i xs.length=some j/\xs[j]? = some v/\j < xs.length/\-(xs.length:Int)<=i/\i < xs.length:=by
 unfold atI at h;cases e:ixN xs.length i with
 | none=>rw [e] at h;cases h
 | some j =>
  rw [e] at h;obtain⟨h1,h2,h3,h4⟩:=lL e;exact⟨j,h1,h,h2,h3,h4⟩
theorem cf {α:Type}{xs:List α}{j:Nat}{v:α}(h:xs[j]? = some v):atI xs (j:Int)=some v:=by
 have hj:j < xs.length:=(xp.mp h).1;have e:ixN xs.length (j:Int)=some j:=by
  unfold ixN;rw [if_pos (by lia),if_pos (by lia)];simp
 unfold atI;rw [e];exact h
theorem rF {α:Type}(xs:List α)(v:α):atI (xs++[v]) (-1)=some v:=by
 have hl:(xs++[v]).length=xs.length+1:=by simp
 have e:ixN (xs++[v]).length (-1)=some xs.length:=by
  unfold ixN;rw [hl,if_neg (by decide),if_pos (by lia)];congr 1;lia
 unfold atI;rw [e];show (xs++[v])[xs.length]? = some v;simp
def sP (b:Expr):Prop:=∀ o i,subscripted b false o i=operate [o,i] (getItem o i)
def IxR (X:Cx)(r:R2):Prop :=
 ∀ (value slice:Expr) (pins:List (Addr×Obj)) (s:Shared) (σ:St) (H:Hp) (x y:V) (v u:Value) (Q:VK),Inv X pins σ H s->RelV x v->RelV y u->r x y H Q →
  subscripted slice false v u=operate [v,u] (getItem v u)->wpAny (model X.prog X.w) X.A (subscriptTail value slice v u) (EP X pins σ Q) X.xe s
def MtR (X:Cx)(id:String)(r:V->List V->Hp->VK->Prop):Prop :=
 ∀ (pins:List (Addr×Obj)) (s:Shared) (σ:St) (H:Hp) (x:V) (xs:List V) (v:Value) (us:List Value) (Q:VK),Inv X pins σ H s->RelV x v->Vals xs us->r x xs H Q →
  wpAny (model X.prog X.w) X.A (call (.builtin id) (v::us)) (EP X pins σ Q) X.xe s
section
variable {X:Cx}{a b:Expr}{ta tb:TE}{pos:Pos}
theorem aT {r:R2}(hr:IxR X r)(ha:PE X a ta)(hb:PE X b tb)(hs:sP b):PE X (.Subscript a b pos) (tOp r ta tb):=by
 intro pins s σ H Q I h;exact Subscript_ (vN ha hb I h fun v u s2 x y H2 I2 rx ry q=>hr a b pins s2 σ H2 x y v u Q I2 rx ry q (hs _ _))
def wd (K:PySem.W.Frag):R2:=fun x y H Q=>∃ p xs i v,x=.ref p/\y=.int i/\SqL K H p xs/\atI xs i=some v/\Q v H
def um (K:PySem.W.Frag):R2:=fun x y H Q=>∃ p xs i v,x=.ref p/\y=.int i/\SqT K H p xs/\atI xs i=some v/\Q v H
def w6:R2:=fun x y H Q=>∃ z i c,x=.str z/\y=.int i/\z.length<=sizeLine/\atI z.cps.toList i=some c/\Q (.str ⟨#[c]⟩) H
theorem aM:IxR X (wd X.K):=by
 intro value slice pins s σ H x y v u Q I rx ry h hs;obtain⟨p,xs,i,z,rfl,rfl,hq,he,q⟩:=h;cases rx;obtain⟨t,rfl⟩:=ry;obtain⟨its,r,pl,hz⟩:=I.list hq;obtain⟨j,h1,h2,h3,h4,h5⟩:=lR he;obtain⟨w,ew,rw'⟩:=r.get h2;have hl:=r.length;have hn:=iD;have fin:EP X pins σ Q w s:=⟨z,H,I,rw',q⟩;by_cases h0:0<=i
 ·have hj:i.toNat=j:=by
   rw [seqIndex_of h0 h5] at h1;exact yz h1
  exact item_listR pl.isList h0 (by lia) (by rw [hj];simpa using ew) fin hs
 ·have hj:(i+(its.toArray.size:Int)).toNat=j:=by
   rw [seqIndex_neg (by lia) h4] at h1;rw [xI,← hl];exact yz h1
  exact subscriptTail_builtinR (x:=w) pl.isList.typeIs slot_list_getitem.lookup
   (wpAny_getItem_list_neg (Q:=fun r s'=>r=w/\EP X pins σ Q r s') pl.isList (by lia) (by rw [xI]<;>lia) (by lia) (by rw [hj];simpa using ew) ⟨rfl,fin⟩) hs
theorem cw:IxR X (um X.K):=by
 intro value slice pins s σ H x y v u Q I rx ry h hs;obtain⟨p,xs,i,z,rfl,rfl,hq,he,q⟩:=h;cases rx;obtain⟨t,rfl⟩:=ry;obtain⟨its,r,pl,hz⟩:=I.tuple hq;obtain⟨j,h1,h2,h3,h4,h5⟩:=lR he;obtain⟨w,ew,rw'⟩:=r.get h2;have hl:=r.length;have hn:=iD;have fin:EP X pins σ Q w s:=⟨z,H,I,rw',q⟩;exact subscriptTail_builtinR (x:=w) pl.typeIs slot_tuple_getitem.lookup
  (getItem_tuple (j:=j) (Q:=fun r s'=>r=w/\EP X pins σ Q r s') pl (by lia) (by lia) (by rw [xI,← hl];exact h1) (by simpa using ew) ⟨rfl,fin⟩) hs
theorem jw:IxR X w6:=by
 intro value slice pins s σ H x y v u Q I rx ry h hs;obtain⟨z,i,c,rfl,rfl,hz,he,q⟩:=h;obtain⟨t,rfl⟩:=rx;obtain⟨t',rfl⟩:=ry;obtain⟨j,h1,h2,h3,h4,h5⟩:=lR he;have hl:z.cps.toList.length=z.length:=by simp [Str.length]
 rw [hl] at h1 h4 h5;have hn:=iD;exact tail_any (typeIs_str s z t) slot_str_getitem.lookup (getItem_str (c:=c) (by
  have e1:decide (i < -(2 ^ 63:Int))=false:=xM (by lia);have e2:decide (i ≥ 2 ^ 63)=false:=xM (by lia);rw [e1,e2,Bool.or_false]) (by rw [h1];simpa using h2) ⟨.str ⟨#[c]⟩,H,I.tok _,⟨_,rfl⟩,q⟩) hs
theorem nU (its:List Value)(n j:Nat)(u:Value):Obj.mapSeq (·.setIfInBounds j u) { cls:=.type "list",data:=.seq its.toArray n }={ cls:=.type "list",data:=.seq (its.set j u).toArray n }:=by
 simp [Obj.mapSeq]
theorem Inv.lst {pins:List (Addr×Obj)}{σ:St}{H:Hp}{s:Shared}{p:Addr}{xs:List V}(I:Inv X pins σ H s)(h:H p=some (.lst xs)) :
 ∃ (its:List Value) (n:Nat),Vals xs its/\s.heap.get? p=some { cls:=.type "list",data:=.seq its.toArray n }/\xs.length<=sizeLine:=by
 obtain⟨z,its,n,r,e⟩:=I.hok p _ h;exact⟨its,n,r,e,z⟩
theorem Inv.lstUpd {pins:List (Addr×Obj)}{σ:St}{H:Hp}{s:Shared}{p:Addr}{xs ys:List V}{its its':List Value}{n n':Nat}{f:Obj->Obj}(I:Inv X pins σ H s)(h:H p=some (.lst xs))
 (ho:s.heap.get? p=some { cls:=.type "list",data:=.seq its.toArray n })(hf:f { cls:=.type "list",data:=.seq its.toArray n }={ cls:=.type "list",data:=.seq its'.toArray n' })(r:Vals ys its')(hz:ys.length<=sizeLine)(t:Nat) :
 Inv X pins σ (upd H p (.lst ys)) { s with heap:=s.heap.update p f,toks:=t }:=by
 have e:(s.heap.update p f).get? p=some { cls:=.type "list",data:=.seq its'.toArray n' }:=by
  rw [yQ f ho (by rw [hf]<;>rfl),hf]
 refine I.write (x:=p) (e:=p) (by rw [h];trivial) (.inl rfl) (fun b u hb q=>(yA _ _ (xZ hb)).trans q) ⟨_,e⟩ ?_;exact⟨hz,its',n',r,e⟩
def vR:V->V->V->Hp->(Hp->Prop)->Prop:=fun o i v H Q=>∃ p xs k j,o=.ref p/\i=.int k/\H p=some (.lst xs)/\ixN xs.length k=some j/\Q (upd H p (.lst (xs.set j v)))
theorem mT:wO X vR:=by
 intro pins s σ H o i v ov iv u Q I ro ri rv h;obtain⟨p,xs,k,j,rfl,rfl,hp,hj,q⟩:=h;cases ro;obtain⟨t,rfl⟩:=ri;obtain⟨its,n,r,ho,hz⟩:=I.lst hp;obtain⟨h1,h2,h3,h4⟩:=lL hj;have hl:=r.length;have hn:=iD;have I':Inv X pins σ (upd H p (.lst (xs.set j v))) { s with heap:=s.heap.update p (Obj.mapSeq (·.setIfInBounds j u)) } :=
  I.lstUpd hp ho (nU its n j u) (r.set rv j) (by rw [List.length_set];exact hz) s.toks
 by_cases h0:0<=k
 ·have hk:k.toNat=j:=by
   rw [seqIndex_of h0 h4] at h1;exact yz h1
  exact PySem.W.ki_setAt ho h0 (by lia) (by rw [xI,← hl];exact h4) (by rw [hk];exact⟨_,I',q⟩)
 ·have hk:(k+(its.toArray.size:Int)).toNat=j:=by
   rw [seqIndex_neg (by lia) h3] at h1;rw [xI,← hl];exact yz h1
  exact PySem.W.ki_setBack ho (by lia) (by rw [xI,← hl];exact h3) (by lia) (by rw [hk];exact⟨_,I',q⟩)
theorem kN (lo hi:Option Int)(n:Nat):(sliceBounds lo hi none n).1=((HT.sIx n 0 lo:Nat):Int)/\(sliceBounds lo hi none n).2.1=((HT.sIx n n hi:Nat):Int)/\(sliceBounds lo hi none n).2.2=1:=by
 refine⟨?_,?_,rfl⟩
 ·cases lo with
  | none=>simp [sliceBounds,HT.sIx]
  | some i =>
   simp only [sliceBounds,HT.sIx,Option.getD_none,show (1:Int) > 0 by decide,aaV];by_cases h:i < 0
   ·simp only [h,aaV]<;>lia
   ·simp only [h,aay]<;>lia
 ·cases hi with
  | none=>simp [sliceBounds,HT.sIx]
  | some i =>
   simp only [sliceBounds,HT.sIx,Option.getD_none,show (1:Int) > 0 by decide,aaV];by_cases h:i < 0
   ·simp only [h,aaV]<;>lia
   ·simp only [h,aay]<;>lia
theorem jU (its:List Value)(lo hi:Option Int):slicePick its.toArray lo hi none=((its.drop (HT.sIx its.length 0 lo)).take (HT.sIx its.length its.length hi - HT.sIx its.length 0 lo)).toArray:=by
 obtain⟨h1,h2,h3⟩:=kN lo hi its.toArray.size;unfold slicePick;rw [h1,h2,h3];simp only [sliceRange_one,pick_run,xI]<;>rfl
def sL (K:PySem.W.Frag):V->Option Int->Option Int->Hp->VK->Prop:=fun x lo hi H Q=>∃ a xs,x=.ref a/\SqL K H a xs/\∀ p,H p=none->Q (.ref p) (upd H p (.lst (sg xs lo hi)))
theorem fO:SlR X (sL X.K):=by
 intro pins s σ H x v vl vu lo hi sl Q I rx hs pl pu h;obtain⟨a,xs,rfl,hx,q⟩:=h;cases rx;obtain⟨its,r,ht,hz⟩:=I.list hx;have hlen:=r.length;refine⟨"list",_,slot_list_getitem.lookup,ht.isList.typeIs,?_⟩;refine wpAny_getItem_list_slice ht.isList hs pl pu .none (by simp) ?_ (by rw [xI]<;>lia);rw [jU,← hlen];refine⟨.ref s.heap.objs.size,_,I.laid (t':=s.toks) (o:=.lst (sg xs lo hi)) (fun b ob q=>xw _ q) (xx _) ?_,rfl,q _ (I.hok.fresh (xx _))⟩;exact⟨xE (lX xs lo hi) hz,_,0,(r.drop (HT.sIx xs.length 0 lo)).take (HT.sIx xs.length xs.length hi - HT.sIx xs.length 0 lo),ym _ rfl⟩
def jd:V->Bool
 | .non=>true
 | .bl _=>true
 | .int _=>true
 | .str _=>true
 | _=>false
def eqV:V->V->Bool
 | .non,.non=>true
 | .bl a,.bl b=>a == b
 | .bl a,.int b=>(if a then 1 else 0) == b
 | .int a,.bl b=>a == (if b then 1 else 0)
 | .int a,.int b=>a == b
 | .str a,.str b=>a == b
 | _,_=>false
theorem uW {A:Around}{s:Shared}{y x:V}{u v:Value}(ry:RelV y u)(rx:RelV x v)(fy:jd y=true)(fx:jd x=true):SeqAt.EqAt A s u v (eqV y x):=by
 cases y with
 | non =>
  cases ry;cases x with
  | non=>cases rx;exact SeqAt.EqAt.same _
  | bl b=>cases rx;exact SeqAt.EqAt.none_bool b
  | int b=>obtain⟨t,rfl⟩:=rx;exact SeqAt.EqAt.none_int b t
  | str b=>obtain⟨t,rfl⟩:=rx;exact SeqAt.EqAt.none_str b t
  | _=>exact absurd (show false=true from fx) xt
 | bl a =>
  cases ry;cases x with
  | non=>cases rx;exact SeqAt.EqAt.bool_none a
  | bl b=>cases rx;exact SeqAt.EqAt.bool_bool a b
  | int b=>obtain⟨t,rfl⟩:=rx;exact SeqAt.EqAt.bool_int a b t
  | str b=>obtain⟨t,rfl⟩:=rx;exact SeqAt.EqAt.bool_str a b t
  | _=>exact absurd (show false=true from fx) xt
 | int a =>
  obtain⟨t',rfl⟩:=ry;cases x with
  | non=>cases rx;exact SeqAt.EqAt.int_none a t'
  | bl b=>cases rx;exact SeqAt.EqAt.int_bool a t' b
  | int b=>obtain⟨t,rfl⟩:=rx;exact SeqAt.EqAt.int_int a t' b t
  | str b=>obtain⟨t,rfl⟩:=rx;exact SeqAt.EqAt.int_str a t' b t
  | _=>exact absurd (show false=true from fx) xt
 | str a =>
  obtain⟨t',rfl⟩:=ry;cases x with
  | non=>cases rx;exact SeqAt.EqAt.str_none a t'
  | bl b=>cases rx;exact SeqAt.EqAt.str_bool a t' b
  | int b=>obtain⟨t,rfl⟩:=rx;exact SeqAt.EqAt.str_int a t' b t
  | str b=>obtain⟨t,rfl⟩:=rx;exact SeqAt.EqAt.str_str a t' b t
  | _=>exact absurd (show false=true from fx) xt
 | _=>exact absurd (show false=true from fy) xt
def eqU (x:V)(u:Value):Bool:=match u with
 | .none=>eqV .non x
 | .bool b=>eqV (.bl b) x
 | .int i _=>eqV (.int i) x
 | .str z _=>eqV (.str z) x
 | _=>false
theorem si {x y:V}{u:Value}(r:RelV y u)(f:jd y=true):eqU x u=eqV y x:=by
 cases y with
 | non=>cases r;rfl
 | bl b=>cases r;rfl
 | int i=>obtain⟨t,rfl⟩:=r;rfl
 | str z=>obtain⟨t,rfl⟩:=r;rfl
 | _=>exact absurd (show false=true from f) xt
theorem iB {x:V}:∀ {xs:List V} {us:List Value},Vals xs us->xs.all jd=true->us.any (eqU x)=xs.any fun y=>eqV y x
 | _,_,.nil,_=>rfl
 | y::xs,u::us,.cons r t,f=>by
  rw [aaz,yu] at f;rw [aaA,aaA,si r f.1,iB t f.2]
theorem gp {A:Around}{s:Shared}{x:V}{v:Value}(rx:RelV x v)(fx:jd x=true):∀ {xs:List V} {us:List Value},Vals xs us->xs.all jd=true->∀ u∈us,SeqAt.EqAt A s u v (eqU x u)
 | _,_,.nil,_=>fun u hu=>by cases hu
 | y::xs,u::us,.cons r t,f=>fun u' hu=>by
  rw [aaz,yu] at f;rcases xA.mp hu with rfl | hu
  ·rw [si r f.1];exact uW r rx f.1 fx
  ·exact gp rx fx t f.2 u' hu
def inV (x:V)(xs:List V):Bool:=xs.any fun y=>eqV y x
def rIn (K:PySem.W.Frag)(neg:Bool):R2:=fun x y H Q=>∃ p xs,y=.ref p/\(SqL K H p xs\/SqT K H p xs)/\jd x=true/\xs.all jd=true/\Q (.bl (if neg then !inV x xs else inV x xs)) H
theorem i6:OpR X (compareOp .In) (rIn X.K false):=by
 intro pins s σ H x y v u Q I rx ry h;obtain⟨p,xs,rfl,hq,fx,fs,q⟩:=h;cases ry;rcases hq with hq | hq
 ·obtain⟨its,r,pl,hz⟩:=I.list hq;refine SeqAt.in_listAt (eqU x) pl.isList (fun w hw=>gp rx fx r fs w (by simpa using hw)) ⟨.bl _,H,I,rfl,?_⟩;rw [show its.toArray.any (eqU x)=its.any (eqU x) by simp,iB r fs];exact q
 ·obtain⟨its,r,pl,hz⟩:=I.tuple hq;refine SeqAt.in_tupleAt (eqU x) pl (fun w hw=>gp rx fx r fs w (by simpa using hw)) ⟨.bl _,H,I,rfl,?_⟩;rw [show its.toArray.any (eqU x)=its.any (eqU x) by simp,iB r fs];exact q
theorem d9:OpR X (compareOp .NotIn) (rIn X.K true):=by
 intro pins s σ H x y v u Q I rx ry h;obtain⟨p,xs,rfl,hq,fx,fs,q⟩:=h;cases ry;rcases hq with hq | hq
 ·obtain⟨its,r,pl,hz⟩:=I.list hq;refine SeqAt.notIn_listAt (eqU x) pl.isList (fun w hw=>gp rx fx r fs w (by simpa using hw)) ⟨.bl _,H,I,rfl,?_⟩;rw [show its.toArray.any (eqU x)=its.any (eqU x) by simp,iB r fs];exact q
 ·obtain⟨its,r,pl,hz⟩:=I.tuple hq;refine SeqAt.notIn_tupleAt (eqU x) pl (fun w hw=>gp rx fx r fs w (by simpa using hw)) ⟨.bl _,H,I,rfl,?_⟩;rw [show its.toArray.any (eqU x)=its.any (eqU x) by simp,iB r fs];exact q
theorem aA:eW X (.builtin "len") (fun xs H Q=>∃ p ys,xs=[.ref p]/\(SqL X.K H p ys\/SqT X.K H p ys)/\Q (.int ys.length) H):=by
 intro pins s σ H xs us Q I r h;obtain⟨p,ys,rfl,hq,q⟩:=h;obtain⟨u,rfl,rx⟩:=gZ r;cases rx;have hn:=iD;rcases hq with hq | hq
 ·obtain⟨its,r',pl,hz⟩:=I.list hq;have hlen:=r'.length;exact Calls.call_len_list pl.isList (by simp only [xI]<;>lia) ⟨.int ys.length,H,I.tok _,⟨s.toks+1,by rw [xI,hlen]⟩,q⟩
 ·obtain⟨its,r',pl,hz⟩:=I.tuple hq;have hlen:=r'.length;exact len_tuple pl (by simp only [xI]<;>lia) ⟨.int ys.length,H,I.tok _,⟨s.toks+1,by rw [xI,hlen]⟩,q⟩
theorem gP:eW X (.builtin "len") (fun xs H Q=>∃ z,xs=[.str z]/\z.length<=sizeLine/\Q (.int z.length) H):=by
 intro pins s σ H xs us Q I r h;obtain⟨z,rfl,hz,q⟩:=h;obtain⟨u,rfl,t,rfl⟩:=gZ r;have hn:=iD;exact len_str (by lia) ⟨.int z.length,H,I.tok _,⟨_,rfl⟩,q⟩
theorem cy:eW X (.type "list") (fun xs H Q=>∃ p ys,xs=[.ref p]/\(SqL X.K H p ys\/SqT X.K H p ys)/\∀ l,H l=none->Q (.ref l) (upd H l (.lst ys))):=by
 intro pins s σ H xs us Q I r h;obtain⟨p,ys,rfl,hq,q⟩:=h;obtain⟨u,rfl,rx⟩:=gZ r;cases rx;have fin:∀ (its:List Value),Vals ys its->ys.length<=sizeLine->∀ (h':Heap) (c':Nat),(∀ b o',s.heap.get? b=some o'->h'.get? b=some o') →
  h'.get? s.heap.objs.size=some { cls:=.type "list",dict:=none,data:=.seq its.toArray c',slots:=#[] }->EP X pins σ Q (.ref s.heap.objs.size) { s with heap:=h' }:=fun its r' hz h' c' kp e =>
  ⟨.ref s.heap.objs.size,_,I.laid (t':=s.toks) kp (xx _) (show ObjOk X.prog X.w _ h' _ (.lst ys) from ⟨hz,its,c',r',e⟩),rfl,q _ (I.hok.fresh (xx _))⟩
 rcases hq with hq | hq
 ·obtain⟨its,r',pl,hz⟩:=I.list hq;have hlen:=r'.length;obtain⟨o,ho,hc,n,hd⟩:=pl.isList;exact call_list_seq p (.inl rfl) ho hc hd (fun h' c' kp e=>fin its r' hz h' c' kp e) (by simp only [xI]<;>lia)
 ·obtain⟨its,r',pl,hz⟩:=I.tuple hq;have hlen:=r'.length;obtain⟨o,ho,hc,n,hd⟩:=pl;exact call_list_seq p (.inr rfl) ho hc hd (fun h' c' kp e=>fin its r' hz h' c' kp e) (by simp only [xI]<;>lia)
def tyV (K:PySem.W.Frag)(T:String)(x:V)(H:Hp):Prop:=match x with
 | .str _=>T = "str"
 | .int _=>T = "int"
 | .ref p=>(T = "list" ∧ ∃ xs,SqL K H p xs)\/(T = "tuple" ∧ ∃ o,K.lookup p=some o/\o.cls=.type "tuple" ∧ o.dict=none) ∨
  (T = "dict" ∧ ((∃ kvs,H p=some (.dK kvs))\/∃ kvs,H p=some (.dT kvs)))\/(T = "set" ∧ ∃ S n,H p=some (.set S n))
 | _=>False
theorem uP {pins:List (Addr×Obj)}{σ:St}{H:Hp}{s:Shared}{T:String}{x:V}{v:Value}(I:Inv X pins σ H s)(r:RelV x v)(ty:tyV X.K T x H) :
 s.TypeIs v T/\∀ a,v=.ref a->∃ ob,s.heap.get? a=some ob/\ob.dict=none:=by
 cases x with
 | str z =>
  obtain⟨t,rfl⟩:=r;cases (show T = "str" from ty);exact⟨typeIs_str s z t,fun _ e=>nomatch e⟩
 | int i =>
  obtain⟨t,rfl⟩:=r;cases (show T = "int" from ty);exact⟨typeIs_int s i t,fun _ e=>nomatch e⟩
 | ref p =>
  cases r;rcases ty with ⟨rfl,xs,hq⟩ | ⟨rfl,o,hk,hc,hd⟩ | ⟨rfl,hk⟩ | ⟨rfl,S,n,hk⟩
  ·obtain⟨its,_,pl,_⟩:=I.list hq;refine⟨pl.isList.typeIs,fun a e=>?_⟩;cases e;obtain⟨o,n,e,c,hd,_⟩:=pl;exact⟨o,e,hd⟩
  ·refine⟨⟨o,I.kIn p o hk,hc⟩,fun a e=>?_⟩;cases e;exact⟨o,I.kIn _ o hk,hd⟩
  ·have z:∃ o,s.heap.get? p=some o/\o.ExactDict:=by
    rcases hk with ⟨kvs,hk⟩ | ⟨kvs,hk⟩
    ·obtain⟨_,_,_,_,o,_,_,e,ex,_⟩:=I.hok p _ hk;exact⟨o,e,ex⟩
    ·obtain⟨_,_,_,_,o,_,_,e,ex,_⟩:=I.hok p _ hk;exact⟨o,e,ex⟩
   obtain⟨o,e,ex⟩:=z;refine⟨⟨o,e,ex.1⟩,fun a e2=>?_⟩;cases e2;exact⟨o,e,ex.2.1⟩
  ·obtain⟨o,_,_,_,e,ex,_⟩:=I.hok p _ hk;refine⟨⟨o,e,ex.1⟩,fun a e2=>?_⟩;cases e2;exact⟨o,e,ex.2.1⟩
 | _=>exact False.elim ty
def tBM (K:PySem.W.Frag)(T:String)(r:V->List V->Hp->VK->Prop)(to:TE)(t:TA):TE:=fun σ H Q=>to σ H fun x H1=>tyV K T x H1/\t σ H1 fun xs H2=>r x xs H2 Q
variable {o e:Expr}{es:List Expr}{to:TE}{t:TA}{name:Str}{apos cpos:Pos}{T id:String}{r:V->List V->Hp->VK->Prop}
theorem iP (pa:PlainAttrs T)(slot:Slot T name id)(hty:typeOf (.builtin id)=pure (.type "method_descriptor"))(hm:MtR X id r)(ho:PE X o to)(ha:PA X (e::es) t)
 (hbase:attributeBase o name X.env (eval o X.env)=eval o X.env:=by rfl)
 (hfew:((backTo cpos (starEach (e::es) X.env)).all (fun x=>!x.1) && (backToKw cpos (keywordEach [] X.env)).all (fun x=>x.1.isSome)
  && decide ((e::es).length+([]:List Keyword).length+(if ([]:List Keyword).isEmpty then 0 else 1) < 30))=true:=by rfl)
 (hline:(apos.endLine == cpos.line)=true:=by rfl)(hs:starEach (e::es) X.env=(false,eval e X.env)::starEach es X.env:=by rfl)(hplain:(backTo cpos (starEach es X.env)).any (·.1)=false:=by rfl) :
 PE X (.Call (.Attribute o name apos) (e::es) [] cpos) (tBM X.K T r to t):=by
 intro pins s σ H Q I h;refine wpAny_Call_method_late hbase hfew hline rfl (thn (ho pins s σ H _ I h) fun v s1 ⟨x,H1,I1,r1,ty,q1⟩=>?_);obtain⟨h1,h2⟩:=uP I1 r1 ty;refine⟨T,id,pa,slot,hty,h1,h2,?_⟩;have hA:=ha cpos pins s1 σ H1 _ I1 q1;rw [hs] at hA ⊢;refine Calls.callWith_builtin (by show (false || (backTo cpos (starEach es X.env)).any (·.1))=false;rw [hplain]<;>rfl) (Calls.evalArgs_plain ?_);exact thn hA fun us s2 ⟨vs,H2,I2,r2,q2⟩=>hm pins s2 σ H2 x vs v us Q I2 r1 r2 q2
end
def MtM (X:Cx)(id:String)(r:V->List V->Hp->VK->Prop):Prop :=
 ∀ (pins:List (Addr×Obj)) (s:Shared) (σ:St) (H:Hp) (x:V) (xs:List V) (v:Value) (us:List Value) (Q:VK),Inv X pins σ H s->RelV x v->Vals xs us->r x xs H Q →
  wpAny (model X.prog X.w) X.A (call (.builtin id) (v::us)) (EP X pins σ Q) X.xe s
theorem Vals.one:∀ {x:V} {us:List Value},Vals [x] us->∃ u,us=[u]/\RelV x u
 | _,_,.cons r .nil=>⟨_,rfl,r⟩
theorem Vals.eraseIdx:∀ {xs:List V} {us:List Value} (i:Nat),Vals xs us->Vals (xs.eraseIdx i) (us.eraseIdx i)
 | _,_,_,.nil=>.nil
 | _,_,0,.cons _ t=>t
 | _,_,i+1,.cons r t=>.cons r (Vals.eraseIdx i t)
theorem Vals.rep {xs:List V}{us:List Value}(h:Vals xs us):∀ k:Nat,Vals (List.replicate k xs).flatten (List.replicate k us).flatten
 | 0=>.nil
 | k+1=>by
  rw [yY,yY,yR,yR];exact Vals.append h (Vals.rep h k)
theorem iX {α:Type}:∀ (l:List α) (i:Nat),(l.eraseIdx i).length<=l.length
 | [],_=>xx _
 | _::_,0=>zT _
 | _::r,i+1=>Nat.succ_le_succ (iX r i)
theorem k6 (its:List Value):∀ (k:Nat) (acc:List Value),
 List.foldl (fun x1 x2=>x1++x2) acc.toArray (List.replicate k its.toArray)=(acc++(List.replicate k its).flatten).toArray
 | 0,acc=>by simp
 | k+1,acc=>by
  have e:acc.toArray++its.toArray=(acc++its).toArray:=by simp
  have e2:(acc++its)++(List.replicate k its).flatten=acc++(List.replicate (k+1) its).flatten:=by
   rw [yY,yR,xB]
  rw [← e2,← k6 its k (acc++its),← e,yY,aac]
section
variable {X:Cx}{pins:List (Addr×Obj)}{σ:St}{H:Hp}{s:Shared}{l b:Addr}{xs ys zs:List V}
theorem Inv.lset {its its':List Value}{n:Nat}{f:Array Value->Array Value}{t':Nat}(I:Inv X pins σ H s)(hH:H l=some (.lst xs))
 (e:s.heap.get? l=some { cls:=.type "list",data:=.seq its.toArray n })(hf:f its.toArray=its'.toArray)(hv:Vals ys its')(hz:ys.length<=sizeLine) :
 Inv X pins σ (upd H l (.lst ys)) { s with heap:=s.heap.update l (Obj.mapSeq f),toks:=t' }:=by
 have q:=PySem.IsL.update e f;rw [hf] at q;refine I.write (x:=l) (e:=l) (by rw [hH];exact trivial) (.inl rfl) (fun b' u hb hu=>(yA s.heap (Obj.mapSeq f) (xZ hb)).trans hu) ⟨_,q⟩ ?_;exact⟨hz,its',_,hv,q⟩
theorem Inv.lnew {its:List Value}{t':Nat}(I:Inv X pins σ H s)(hv:Vals ys its)(hz:ys.length<=sizeLine) :
 Inv X pins σ (upd H s.heap.objs.size (.lst ys)) { s with heap:=s.heap.push { cls:=.type "list",data:=.seq its.toArray },toks:=t' } :=
 I.laid (fun _ _ q=>xw _ q) (xx _) ⟨hz,its,0,hv,ym _ rfl⟩
theorem Inv.fresh (I:Inv X pins σ H s):H s.heap.objs.size=none:=I.hok.fresh (xx _)
theorem Inv.lstM (I:Inv X pins σ H s)(hH:H l=some (.lst xs)):xs.length<=sizeLine/\∃ (its:List Value) (n:Nat),Vals xs its/\xs.length=its.length/\s.heap.get? l=some { cls:=.type "list",data:=.seq its.toArray n }:=by
 obtain⟨z,its,n,r,e⟩:=I.hok l _ hH;exact⟨z,its,n,r,r.length,e⟩
theorem nv {n:Nat}(h:n<=sizeLine):Builtin.List.listTooLong n=false:=by
 unfold Builtin.List.listTooLong;exact xM (by lia)
end
section
variable {X:Cx}
def sI:V->List V->Hp->VK->Prop:=fun x vs H Q=>∃ l xs y,x=.ref l/\vs=[y]/\H l=some (.lst xs)/\xs.length < sizeLine/\Q .non (upd H l (.lst (xs++[y])))
theorem cE:MtM X "list.append" sI:=by
 intro pins s σ H x vs v us Q I rx rv h;obtain⟨l,xs,y,rfl,rfl,hH,hz,q⟩:=h;cases rx;obtain⟨u,rfl,ru⟩:=rv.one;obtain⟨z,its,n,r,hl,e⟩:=I.lstM hH;refine aa3 F.slot_list_append ⟨_,e,rfl⟩ F.entry_list_append (F.args_list_append_2 _ _) (PySem.list_append l its.toArray n u (by rw [xI];lia)) ⟨e,?_⟩;refine⟨.non,_,I.lset (its':=its++[u]) hH e (by simp) (r.append (.cons ru .nil)) ?_,rfl,q⟩;rw [xq,y8];lia
def ug:V->List V->Hp->VK->Prop:=fun x vs H Q=>∃ l b xs zs,x=.ref l/\vs=[.ref b]/\H l=some (.lst xs)/\H b=some (.lst zs)/\xs.length+zs.length<=sizeLine/\Q .non (upd H l (.lst (xs++zs)))
theorem qh:MtM X "list.extend" ug:=by
 intro pins s σ H x vs v us Q I rx rv h;obtain⟨l,b,xs,zs,rfl,rfl,hH,hB,hz,q⟩:=h;cases rx;obtain⟨u,rfl,ru⟩:=rv.one;cases ru;obtain⟨z,its,n,r,hl,e⟩:=I.lstM hH;obtain⟨z2,its2,n2,r2,hl2,e2⟩:=I.lstM hB;have hsz:its.toArray.size+its2.toArray.size<=sizeLine:=by rw [xI,xI];lia
 have hlong:¬ (!its.toArray.isEmpty && Builtin.List.listTooLong (its.toArray.size+its2.toArray.size))=true:=by
  rw [nv hsz,Bool.and_false];exact xt
 refine aa3 F.slot_list_extend ⟨_,e,rfl⟩ F.entry_list_extend (F.args_list_extend_2 _ _)
  (AutoSeq1.list_extend_list_list_0 l its.toArray n b its2.toArray n2 hlong (by rw [xI];lia) (by lia)) ⟨e,e2,?_⟩
 refine⟨.non,_,I.lset (its':=its++its2) hH e (by simp) (r.append r2) ?_,rfl,q⟩;rw [xq];lia
def uG:V->List V->Hp->VK->Prop:=fun x vs H Q=>∃ l xs i k y,x=.ref l/\vs=[.int i]/\H l=some (.lst xs)/\-(2 ^ 63)<=i/\i < 2 ^ 63/\seqIndex? i xs.length=some k/\xs[k]? = some y/\Q y (upd H l (.lst (xs.eraseIdx k)))
theorem rh:MtM X "list.pop" uG:=by
 intro pins s σ H x vs v us Q I rx rv h;obtain⟨l,xs,i,k,y,rfl,rfl,hH,h1,h2,hk,hy,q⟩:=h;cases rx;obtain⟨u,rfl,ru⟩:=rv.one;obtain⟨t,rfl⟩:=ru;obtain⟨z,its,n,r,hl,e⟩:=I.lstM hH;obtain⟨w,hw,rw'⟩:=r.get hy;refine aa3 F.slot_list_pop ⟨_,e,rfl⟩ F.entry_list_pop (F.args_list_pop_2 _ _)
  (MeetsSeq.list_pop_at l its.toArray n i t k w (fitsIndex_both h1 h2) (by rw [xI,← hl];exact hk) (by rw [← yH];exact hw) (by rw [xI];lia)) ⟨e,?_⟩
 refine⟨y,_,I.lset (its':=its.eraseIdx k) hH e ?_ (r.eraseIdx k) ?_,rw',q⟩
 ·show its.toArray.eraseIdxIfInBounds k=(its.eraseIdx k).toArray;rw [aai]
 ·have:=iX xs k;lia
def vv:R2:=fun x y H Q=>∃ l b xs zs,x=.ref l/\y=.ref b/\H l=some (.lst xs)/\H b=some (.lst zs)/\xs.length+zs.length<=sizeLine/\∀ p,H p=none->Q (.ref p) (upd H p (.lst (xs++zs)))
theorem gu:OpR X (binaryOp .Add) vv:=by
 intro pins s σ H x y v u Q I rx ry h;obtain⟨l,b,xs,zs,rfl,rfl,hH,hB,hz,q⟩:=h;cases rx;cases ry;obtain⟨z,its,n,r,hl,e⟩:=I.lstM hH;obtain⟨z2,its2,n2,r2,hl2,e2⟩:=I.lstM hB;refine PySem.P.add_list e e2 ?_ (by rw [xI,xI];lia);have ea:its.toArray++its2.toArray=(its++its2).toArray:=by simp
 rw [ea];exact⟨.ref _,_,I.lnew (t':=s.toks) (r.append r2) (by rw [xq];lia),rfl,q _ I.fresh⟩
def wU:R2:=fun x y H Q=>∃ l k xs,x=.ref l/\y=.int k/\H l=some (.lst xs)/\-(2 ^ 63)<=k/\k < 2 ^ 63/\xs.length * k.toNat<=sizeLine ∧
 ∀ p,H p=none->Q (.ref p) (upd H p (.lst (List.replicate k.toNat xs).flatten))
theorem tN {α:Type}(xs:List α)(k:Nat):(List.replicate k xs).flatten.length=k * xs.length:=by
 induction k with
 | zero=>simp
 | succ k ih=>rw [yY,yR,xq,ih,Nat.succ_mul,Nat.add_comm]
theorem mH:OpR X (binaryOp .Mult) wU:=by
 intro pins s σ H x y v u Q I rx ry h;obtain⟨l,k,xs,rfl,rfl,hH,h1,h2,hz,q⟩:=h;cases rx;obtain⟨t,rfl⟩:=ry;obtain⟨z,its,n,r,hl,e⟩:=I.lstM hH;have hlen:its.toArray.size * k.toNat<=sizeLine:=by rw [xI,← hl];exact hz
 have hcap:¬ its.toArray.size * k.toNat > (2 ^ 63 - 1) / 8:=by
  have:(sizeLine:Nat)<=(2 ^ 63 - 1) / 8:=by decide
  lia
 have hfit:¬ (!Builtin.List.listFitsIndex k)=true:=by
  rw [fitsIndex_both h1 h2];exact xt
 have hlong:¬ Builtin.List.listTooLong (its.toArray.size * k.toNat)=true:=by
  rw [nv hlen];exact xt
 have hnew:List.foldl (fun x1 x2=>x1++x2) #[] (List.replicate (if its.toArray.isEmpty=true then 0 else k.toNat) its.toArray)=(List.replicate k.toNat its).flatten.toArray:=by
  have f0:∀ m:Nat,List.foldl (fun x1 x2=>x1++x2) #[] (List.replicate m its.toArray)=(List.replicate m its).flatten.toArray:=fun m=>by
   have:=k6 its m [];rw [abp] at this;exact this
  rw [f0];cases its with
  | nil=>simp
  | cons a r'=>rw [if_neg (by simp)]
 refine wpAny_binaryOp_repeat_ref (T := "list") (U := "int") (by decide) ⟨_,e,rfl⟩ (fun s'=>typeIs_int s' k t) noFill_list_mul F.fills_int_mul F.slot_int_rmul repeat_list F.slot_int_index.lookup
  (aa3 F.slot_int_rmul (typeIs_int s k t) F.entry_int_rmul (F.args_int_rmul_2 _ _) (int___rmul___int_list k t l its.toArray n)
   ⟨e,rfl,⟨_,e,rfl⟩,aa3 F.slot_list_mul ⟨_,e,rfl⟩ F.entry_list_mul (F.args_list_mul_2 _ _) (AutoListH.list___mul___list_int_3 l its.toArray n k t hfit hcap hlong) ⟨e,?_⟩⟩)
 rw [hnew];exact⟨.ref _,_,I.lnew (t':=s.toks) (r.rep k.toNat) (by rw [tN,Nat.mul_comm];exact hz),rfl,q _ I.fresh⟩
end
section
variable {prog:Program}{w:World}{A:Around}{E:Value->Shared->Prop}{s:Shared}
end
section
variable {X:Cx}
end
end L2
namespace Att
open PySem PySem.W PySem.Calls PyProof.Rows
theorem i5 {P:Params}{h:Heap}:∀ (ns:List Int) (vs:List Value),WellAll P h vs (ns.map WData.int)->IntsAre vs ns:=by
 intro ns
 induction ns with
 | nil =>
  intro vs w;rw [abq] at w;cases w;exact .nil
 | cons n ns ih =>
  intro vs w;rw [yh] at w;cases w with
  | cons a b =>
   cases a;exact .cons _ _ (ih _ b)
theorem pk {l:OpenLaw}{n:Nat}(hn:l.most=some n){P:Params}{h:Heap}{args:List WData}{vals:List Value}
 (hpre:l.row.toRowW.claim.pre args=true)(hwl:WellAll P h vals args) :
 ∃ a vs ns,vals=[Value.ref a]/\args=[WData.list (ns.map WData.int)]/\h.get? a=some { cls:=.type "list",data:=.seq vs.toArray }/\IntsAre vs ns/\ns.length<=n:=by
 have hsh:WShape.hasAll [] args [.list .int]=true:=(pre_splitW hpre).1;have hc:l.pre.holds [] { args:=args }=true:=(pre_splitW hpre).2;obtain⟨d,r,rfl,h1,h2⟩:=hasAllW_cons hsh;obtain rfl:=hasAllW_nil h2;obtain⟨xs,rfl,h3⟩:=hasW_list h1;obtain⟨ns,rfl⟩:=items_int h3;have hlen:ns.length<=n:=by
  unfold OpenLaw.pre at hc;have h4:(WTm.not (.lt (.lit (.int (n:Int))) (.len (.arg 0)))).holds [] { args:=[.list (ns.map .int)] }=true:=by
   have h4:=(holds_andW hc).1;rw [hn] at h4;exact h4
  have h5:=condW_of h4 (w_not (w_lt w_lit (w_len_list (w_arg rfl))));rw [xn] at h5;refine Nat.le_of_not_lt fun q=>?_;have q':(n:Int) < ((ns.length:Nat):Int):=by lia
  first
   | (rw [xK q'] at h5;exact absurd h5 (by decide))
   | (simp at h5;lia)
 cases hwl with
 | cons w1 w2 =>
  cases w2;cases w1 with
  | list ho hall=>exact⟨_,_,ns,rfl,rfl,ho,i5 ns _ hall,hlen⟩
theorem pB (l:OpenLaw)(args:List WData):l.row.toRowW.claim.post args (.bool true) args=true :=
 postW_of (r:=l.row.toRowW) (X:=(true == true))
  (show WShape.has [] (.bool true) .bool=true by first | rfl | decide | simp [WShape.has,WShape.arms,WShape.armsAll])
  (show (WTm.eq .res (.lit (.bool true))).value [] { args:=args,res:=some (.bool true),after:=args }=some (.bool (true == true)) from w_eq_bool (w_res rfl) w_lit) rfl
theorem attach_call {l:OpenLaw}{n:Nat}{q:Program}{loose:List Str}{XP:(Str->Option Value)->Heap->Prop}{YP:World->Heap->Prop}{d:DefRec}
 (hn:l.most=some n)(hdf:d.params.defaults=[])
 (call:∀ (w:World) (s₀ s₁:Shared) (mg mb:Str->Option Value) (fa:Addr) (o:Obj) (pm cd doc:Value) (a:Addr) (vs:List Value) (ns:List Int),
  Ground q loose [] XP w s₀ mg mb s₁.heap->YP w s₁.heap →
  s₁.heap.get? fa=some o->o.data=.func (docDef d.name d.params d.body d.scope pm cd doc)->s₁.heap.CodeRec cd d.name->mg d.name=some (.ref fa) →
  s₁.heap.get? a=some { cls:=.type "list",data:=.seq vs.toArray }->IntsAre vs ns->ns.length<=n->s₁.gens=#[] →
  codeAny (model l.prog w) callerA (.call (.ref fa) ⟨[.ref a],[]⟩) (fun r s'=>r=.ok (.ret (.bool true))/\OldK s₁.heap s'.heap/\s'.os=s₁.os/\AllBare s'.gens) s₁) :
 WalkO q loose XP YP l.row.toRowW d [] (fun f vs=>PySem.call f vs):=by
 intro w s₀ s₁ mg mb G Y fa o pm cd doc dV kV ho hd hcd hD hmg hg args vals as hpre hlay hrd hwl hlo;obtain rfl:dV=.none:=Dflts.none hD hdf;obtain rfl:kV=.none:=Dflts.noKw hD;obtain⟨a,vs,ns,rfl,rfl,hobj,hints,hlen⟩:=pk hn hpre hwl;refine enter_call (aaQ (call w s₀ s₁ mg mb fa o pm cd doc a vs ns G Y ho (fd_plain hd) hcd hmg hobj hints hlen hg) fun r s' hq=>?_);obtain⟨rfl,h2,h3,h4⟩:=hq;exact⟨.inl ⟨.bool true,.bool true,[],rfl,fun _=>rfl,.bool true,pB l _,fun _=>⟨List.Pairwise.nil,fun _ hm=>(nomatch hm)⟩⟩,h2,h3,h4⟩
section
variable {prog:Program}{w:World}{A:Around}{E:Value->Shared->Prop}{s:Shared}{K:Frag}
end
end Att
namespace L2
open PySem PySem.Spec PyProof.Rows
theorem km:∀ {vs:List Value} {ns:List Int},IntsAre vs ns->Vals (ns.map V.int) vs
 | _,_,.nil=>.nil
 | _,_,.cons n t h=>.cons ⟨t,rfl⟩ (km h)
def vW (H:Hp):Prop:=∀ b,H b=none\/∃ o xs,H b=some (.frz o (.lst xs))
theorem rO {P:Program}{w:World}{K:PySem.W.Frag}{mg mb:Str->Option Value}{CX:CXT}{k:Nat}{fa a:Addr}{fd:FuncData}{x:Str}{sp:Sp}{s₁:Shared}{vs:List Value}{ns:List Int}
 (KX:K.In s₁.heap)(hns:s₁.heap.Ns mainGlobals mg)(hb:s₁.heap.Ns builtinsNs mb)(hbb:∀ x:Str,x ≠ "__name__" → mb x=bootBuiltins x)(hlim:s₁.heap.NoLimit)(hg:s₁.gens=#[])
 (ha:s₁.heap.get? a=some { cls:=.type "list",data:=.seq vs.toArray })(hi:IntsAre vs ns)(hl:ns.length<=sizeLine)(hr:Room k callerA)
 (F:∀ base:Heap,K.In base->base.Ns mainGlobals mg->bf P w K mg base CX k fa fd [x] sp)(hbind:∀ (s:Shared) (u:Value),BindsTo s fd ⟨[u],[]⟩ [(x,u)])
 (hsp:∀ H:Hp,vW H->SqL K H a (ns.map V.int)->sp [.ref a] H (fun v _=>v=.bl true) fun _ _ _=>False)
 (hCX:∀ H e s',CX [] H s₁ (fun _ _ _=>False) e s'->False) :
 codeAny (model P w) callerA (.call (.ref fa) ⟨[.ref a],[]⟩) (fun r s'=>r=.ok (.ret (.bool true))/\OldK s₁.heap s'.heap/\s'.os=s₁.os/\AllBare s'.gens) s₁:=by
 have rv:=km hi;have lenV:=hi.length;have core:∀ H:Hp,vW H->SqL K H a (ns.map V.int)->HOk P w H s₁.heap->(∀ b,H b≠none->b=a)->(H a≠none->K.lookup a=none) →
  codeAny (model P w) callerA (.call (.ref fa) ⟨[.ref a],[]⟩) (fun r s'=>r=.ok (.ret (.bool true))/\OldK s₁.heap s'.heap/\s'.os=s₁.os/\AllBare s'.gens) s₁:=by
  intro H hO hS hok hA hK;have base_of:∀ {b:Addr} {o:Obj},s₁.heap.get? b=some o->H b=none->(rq s₁.heap H).get? b=some o:=fun e n=>qJ e n;have noA:∀ {b:Addr} {o:Obj} {es:Array DictEntry} {ep:Nat},s₁.heap.get? b=some o->o.data=.dict es ep->H b=none:=fun {b o es ep} e d=>by
   cases q:H b with
   | none=>rfl
   | some u =>
    have e':b=a:=hA b (by rw [q];simp);subst e';rw [ha] at e;cases e;have d':Data.seq vs.toArray _=Data.dict es ep:=d;cases d'
  have nsK:∀ {b:Addr} {m:Str->Option Value},s₁.heap.Ns b m->(rq s₁.heap H).Ns b m:=fun {b m} ⟨o,es,ep,e,d,r⟩=>⟨o,es,ep,base_of e (noA e d),d,r⟩;have hKb:K.In (rq s₁.heap H):=fun b o e=>base_of (KX b o e) (by
   cases q:H b with
   | none=>rfl
   | some u =>
    have e':b=a:=hA b (by rw [q];simp);subst e';rw [hK (by rw [q];simp)] at e;cases e)
  have hM:Mod K mg (rq s₁.heap H):=⟨hKb,nsK hns,⟨mb,nsK hb,hbb⟩,let ⟨mc,h1,h2⟩:=hlim;⟨mc,nsK h1,h2⟩⟩;have e0:Env0 P w K mg (rq s₁.heap H) callerA [] s₁ H:=⟨rfl,hM,fun b o e=>tO e,Nat.le_of_eq (pZ _ _),trivial,fun b hb=>absurd (show b∈([]:List Addr) from hb) (by simp),hok,.of_eq hg⟩;refine aaQ ((F _ hKb (nsK hns)).run callerA [] s₁ H ⟨[.ref a],[]⟩ [.ref a] [.ref a] _ _ hr e0 (hbind s₁ (.ref a)) (.cons rfl .nil) (hsp H hO hS)) fun r s' h=>?_;cases r with
  | error e=>exact (hCX H e s' h).elim
  | ok fl =>
   cases fl with
   | next=>exact False.elim h
   | brk=>exact False.elim h
   | cont=>exact False.elim h
   | ret u =>
    obtain⟨v,H',os,bare,un,hok',r',q⟩:=h;have q':v=.bl true:=q;subst q';obtain rfl:u=Value.bool true:=r';refine⟨rfl,OldK.of_keep fun b o e=>?_,os,bare⟩;cases q:H b with
    | none=>exact un.keep b o e q (by intro z;exact absurd (show b∈([]:List Addr) from z) (by simp)) (by simp)
    | some u =>
     rcases hO b with z | ⟨ob,xs,z⟩
     ·rw [q] at z;cases z
     ·have z2:=un.frzs b ob _ z;obtain⟨e1,_⟩:=hok b _ z;obtain⟨e2,_⟩:=hok' b _ z2;rw [e] at e1;cases e1;exact e2
 cases hk:K.lookup a with
 | some o =>
  have e:=KX a o hk;rw [ha] at e;cases e;refine core (fun _=>none) (fun _=>.inl rfl) (.inr ⟨_,vs.toArray,_,hk,rfl,rfl,rfl,by rw [xI,lenV];exact hl,by simpa using rv⟩) (fun b u z=>by have z':(none:Option HO)=some u:=z;cases z') (fun b z=>absurd rfl z) fun z=>absurd rfl z
 | none =>
  refine core (fun b=>if b=a then some (.frz { cls:=.type "list",data:=.seq vs.toArray } (.lst (ns.map V.int))) else none) (fun b=>?_) (.inl (.inr ⟨{ cls:=.type "list",data:=.seq vs.toArray },if_pos rfl⟩)) (fun b u z=>?_) (fun b z=>?_) fun _=>hk
  ·by_cases hb:b=a
   ·exact .inr ⟨_,_,if_pos hb⟩
   ·exact .inl (if_neg hb)
  ·by_cases hb:b=a
   ·have z':=(if_pos hb).symm.trans z;cases z';subst hb;exact⟨ha,by rw [xn];exact hl,vs,_,rv,ha⟩
   ·have z':=(if_neg hb).symm.trans z;cases z'
  ·by_cases hb:b=a
   ·exact hb
   ·exact absurd (if_neg hb) z
theorem walk_of {l:PySem.W.OpenLaw}{n k:Nat}{q:Program}{loose:List Str}{XP:(Str->Option Value)->Heap->Prop}{YP:World->Heap->Prop}{d:DefRec}{K:Params->PySem.W.Frag}{CX:World->CXT}{sp:World->Sp}{x:Str}
 (hn:l.most=some n)(hn2:n<=sizeLine)(hdf:d.params.defaults=[])(hr:Room k callerA)
 (hY:∀ (w:World) (h:Heap),YP w h->(K w.params).In h)
 (F:∀ (w:World) (mg:Str->Option Value) (fa:Addr) (h:Heap),(K w.params).In h->h.Ns mainGlobals mg->mg d.name=some (.ref fa) →
  ∃ fd:FuncData,(∀ (s:Shared) (u:Value),BindsTo s fd ⟨[u],[]⟩ [(x,u)]) ∧
   ∀ base:Heap,(K w.params).In base->base.Ns mainGlobals mg->bf l.prog w (K w.params) mg base (CX w) k fa fd [x] (sp w))
 (hsp:∀ (w:World) (H:Hp) (a:Addr) (ns:List Int),ns.length<=n->vW H->SqL (K w.params) H a (ns.map V.int)->sp w [.ref a] H (fun v _=>v=.bl true) fun _ _ _=>False)
 (hCX:∀ (w:World) (H:Hp) (s:Shared) (e:Value) (s':Shared),CX w [] H s (fun _ _ _=>False) e s'->False) :
 PySem.W.WalkO q loose XP YP l.row.toRowW d [] (fun f vs=>PySem.call f vs):=by
 refine Att.attach_call hn hdf fun w s₀ s₁ mg mb fa o pm cd doc a vs ns G Y ho hd hcd hmg hobj hints hlen hg=>?_;have KX:=hY w _ Y;obtain⟨fd,hb,hF⟩:=F w mg fa _ KX G.T.g hmg;exact rO KX G.T.g G.T.b G.T.builtins G.T.nolimit hg hobj hints (xE hlen hn2) hr hF hb (fun H hO hS=>hsp w H a ns hlen hO hS) fun H e s'=>hCX w H s₁ e s'
def dS (s:Stmt):Arguments:=match s with
 | .FunctionDef _ a _ _ _ _ _ _ _ _=>a
 | _=>{ posonlyargs:=[],args:=[],vararg:=none,kwonlyargs:=[],kw_defaults:=[],kwarg:=none,defaults:=[] }
def bJ (s:Stmt):List Stmt:=match s with
 | .FunctionDef _ _ b _ _ _ _ _ _ _=>b
 | _=>[]
def aq (s:Stmt):Scope:=match s with
 | .FunctionDef _ _ _ _ _ _ sc _ _ _=>sc
 | _=>{ kind:=.function,names:=[],isGenerator:=false,isCoroutine:=false }
abbrev CX0:CXT:=fun _ _ _ _ _ _=>False
abbrev E0:XK:=fun _ _ _=>False
theorem fE {X:Cx}:mh CX0 X E0:=fun _ _ _ _ _ _ _ h=>h.elim
structure Fun (K:PySem.W.Frag)(x qual:Str)(st:Stmt)(f:Addr)(fd:FuncData):Prop where
 ex:∃ (oc:Value) (od:Option Addr) (kV doc pm:Value) (an:Option Addr) (cdv ct:Value) (osl:Array (Option Value)),
  fd=fnOf x qual (dS st) (bJ st) (aq st) .none kV doc pm an cdv ct/\K.lookup f=some ⟨oc,od,.func fd,osl⟩/\codeIn K cdv qual=true
 kp:keepIn K (.ref f)=true
section
variable {P:Program}{w:World}{K:PySem.W.Frag}{mg:Str->Option Value}{base:Heap}
theorem Fun.ok {x qual:Str}{st:Stmt}{f:Addr}{fd:FuncData}{N ps:List Str}{k:Nat}{sp:Sp}(F:Fun K x qual st f fd)(S:aL N ps (aq st))(len:∀ vs H Q E,sp vs H Q E->vs.length=ps.length)
 (hbody:∀ (cdv:Value) (A:Around) (outer:List Env) (s:Shared) (H:Hp) (vs:List V) (Q:VK) (E:XK),Room k (A.deeper (envOfC qual (aq st) s.heap.objs.size f cdv))->sp vs H Q E →
  ∃ t,PSs (gL CX0 P w K mg base N qual (aq st) f cdv A outer s H E).nox (bJ st) t/\t { nx:=fun _ H'=>Q .non H',rt:=Q } (jS N vs) H):bf P w K mg base CX0 (k+1) f fd ps sp:=by
 obtain⟨oc,od,kV,doc,pm,an,cdv,ct,osl,rfl,lk,hcd⟩:=F.ex;refine u0 lk hcd S len fun A outer s H vs Q E hr hsp=>?_;obtain⟨t,h,q⟩:=hbody cdv A outer s H vs Q E hr hsp;exact⟨t,h.nox,q⟩
theorem Fun.binds {x qual:Str}{st:Stmt}{f:Addr}{fd:FuncData}{ps:List Str}(F:Fun K x qual st f fd)
 (h:∀ (kV doc pm:Value) (an:Option Addr) (cdv ct:Value) (us:List Value),us.length=ps.length->bindArgs (fnOf x qual (dS st) (bJ st) (aq st) .none kV doc pm an cdv ct) ⟨us,[]⟩=pure (ps.zip us)):Binds K fd ps []:=by
 obtain⟨oc,od,kV,doc,pm,an,cdv,ct,osl,rfl,lk,hcd⟩:=F.ex;exact .all (h kV doc pm an cdv ct)
theorem fun_mk {x qual:Str}{st:Stmt}{f:Addr}{oc:Value}{od an:Option Addr}{osl:Array (Option Value)}{kV doc pm cdv ct:Value}(l:K.lookup f=some ⟨oc,od,.func (fnOf x qual (dS st) (bJ st) (aq st) .none kV doc pm an cdv ct),osl⟩)
 (c:codeIn K cdv qual=true)(k:keepIn K (.ref f)=true):Fun K x qual st f (fnOf x qual (dS st) (bJ st) (aq st) .none kV doc pm an cdv ct):=⟨⟨oc,od,kV,doc,pm,an,cdv,ct,osl,rfl,l,c⟩,k⟩
end
theorem l7 {A:Around}{k:Nat}(hr:Room k A):A.units+1 < cLine:=yG (yI (by decide:1<=64) _) hr.units
theorem aH {n:Nat}(h:n<=1000):n < sizeLine:=yG h (by decide)
section
variable {X:Cx}
theorem pv (i:Nat){x:Str}{pos:Pos}(hN:X.N[i]? = some x:=by rfl)(hv:Vis X.env.scope x:=by first | exact Or.inl rfl | exact Or.inr (.inl rfl) | exact Or.inr (.inr rfl))(hd:(x == ("__debug__" : Str))=false:=by decide)
 (hcd:(x == ("__classdict__" : Str))=false:=by decide):PE X (.Name x pos) (du i):=uZ hN hv hd hcd
end
theorem dw {A B:Prop}(h:B):if false=true then A else B:=by
 rw [if_neg xt];exact h
theorem gz {A B:Prop}(h:A):if true=true then A else B:=by
 rw [if_pos rfl];exact h
theorem su {c A B:Prop}[Decidable c](h1:c->A)(h2:¬ c->B):if c then A else B:=by
 by_cases h:c
 ·rw [if_pos h];exact h1 h
 ·rw [if_neg h];exact h2 h
def Same (H H':Hp):Prop:=∀ b o,H b=some o->H' b=some o
theorem Same.refl (H:Hp):Same H H:=fun _ _ h=>h
theorem Same.trans {H H1 H2:Hp}(a:Same H H1)(b:Same H1 H2):Same H H2:=fun c o h=>b c o (a c o h)
theorem Same.free {H H':Hp}(e:Same H H'){l:Addr}(h:H' l=Option.none):H l=Option.none:=by
 cases q:H l with
 | none=>rfl
 | some o =>
  rw [e l o q] at h;cases h
theorem Same.seq {K:PySem.W.Frag}{H H':Hp}{a:Addr}{xs:List V}(e:Same H H')(h:SqL K H a xs):SqL K H' a xs:=by
 rcases h with (h | ⟨o,h⟩) | h
 ·exact .inl (.inl (e _ _ h))
 ·exact .inl (.inr ⟨o,e _ _ h⟩)
 ·exact .inr h
section
variable {κ:Type}[DecidableEq κ]
end
section
variable {P:Program}{w:World}{H:Hp}{h:Heap}{a:Addr}
end
section
variable {X:Cx}{pins:List (Addr×Obj)}{σ:St}{H:Hp}{s:Shared}{a:Addr}{y v:V}{u r:Value}{o:Option V}{A:Around}{E:Value->Shared->Prop}
end
section
variable {X:Cx}{pins:List (Addr×Obj)}{σ:St}{H:Hp}{s:Shared}{a:Addr}{kvs:List (Key×V)}{k:Key}{u:Value}{A:Around}{E:Value->Shared->Prop}
end
section
variable {X:Cx}{o i e value:Expr}{pos pos' tpos:Pos}{td ty tv:TE}
end
section
variable {X:Cx}{pos:Pos}
end
structure M1 (X:Cx)(o:Expr)(m:Str)(apos:Pos)(e:Expr)(cpos:Pos):Prop where
 base:attributeBase o m X.env (eval o X.env)=eval o X.env
 few:((backTo cpos (starEach [e] X.env)).all (fun x=>!x.1) && (backToKw cpos (keywordEach [] X.env)).all (fun x=>x.1.isSome)
  && decide (([e]:List Expr).length+([]:List Keyword).length+(if ([]:List Keyword).isEmpty then 0 else 1) < 30))=true
 line:(apos.endLine == cpos.line)=true
 trees:backTo cpos (starEach [e] X.env)=[(false,eval e X.env)]
structure M2 (X:Cx)(o:Expr)(m:Str)(apos:Pos)(e f:Expr)(cpos:Pos):Prop where
 base:attributeBase o m X.env (eval o X.env)=eval o X.env
 few:((backTo cpos (starEach [e,f] X.env)).all (fun x=>!x.1) && (backToKw cpos (keywordEach [] X.env)).all (fun x=>x.1.isSome)
  && decide (([e,f]:List Expr).length+([]:List Keyword).length+(if ([]:List Keyword).isEmpty then 0 else 1) < 30))=true
 line:(apos.endLine == cpos.line)=true
 trees:backTo cpos (starEach [e,f] X.env)=[(false,eval e X.env),(false,eval f X.env)]
section
variable {X:Cx}{pins:List (Addr×Obj)}{σ:St}{H:Hp}{s:Shared}{a:Addr}{y d:V}{u r:Value}{o:Option V}{A:Around}{E:Value->Shared->Prop}
end
section
variable {X:Cx}{o e f:Expr}{apos cpos:Pos}{td ty tx:TE}
end
section
variable {X:Cx}{pins:List (Addr×Obj)}{σ:St}{H:Hp}{s:Shared}{a:Addr}{kvs:List (Key×V)}{A:Around}{E:Value->Shared->Prop}
end
section
variable {X:Cx}{pins:List (Addr×Obj)}{σ:St}{H:Hp}{s:Shared}{a:Addr}{y:V}{u:Value}{A:Around}{E:Value->Shared->Prop}
end
def lD (env:Env):List (Str×NameKind)->List (Str×Addr)->List (Str×Addr)
 | [],cs=>cs
 | (n,k)::r,cs=>lD env r (if k=.free then (n,(env.cells.lookup n).getD 0)::cs else cs)
theorem ql {env:Env}:∀ (ns:List (Str×NameKind)) (cs:List (Str×Addr)),(∀ x∈ns,x.2=.free->∃ c,env.cells.lookup x.1=some c) →
 (forIn (m:=Sem) ns cs fun (x:Str×NameKind) (r:List (Str×Addr))=>(if (x.2 == .free)=true then (do let a ← cellOf env x.1;pure (ForInStep.yield ((x.1,a)::r))) else pure (ForInStep.yield r)))=pure (lD env ns cs)
 | [],cs,_=>by simp [lD]
 | (n,k)::r,cs,h=>by
  have ih:=fun cs=>ql r cs fun x hx=>h x (xu _ hx);rw [abr];by_cases hk:k=.free
  ·subst hk;obtain⟨c,hc⟩:=h (n,.free) xD rfl;have e1:cellOf env n=pure c:=by unfold cellOf;rw [hc]
   have hb:(NameKind.free == NameKind.free)=true:=rfl;simp only [hb,aaV,e1,pure_bind,lD,hc,Option.getD_some];exact ih _
  ·have hb:(k == NameKind.free)=false:=by simpa using hk
   simp only [hb,zw,aay,pure_bind,lD,if_neg hk];exact ih _
theorem ng {env:Env}:∀ (ns:List (Str×NameKind)) (cs:List (Str×Addr)) (x:Str) (c:Addr),(∀ x∈ns,x.2=.free->∃ c,env.cells.lookup x.1=some c)->(lD env ns cs).lookup x=some c->cs.lookup x=some c\/env.cells.lookup x=some c
 | [],cs,x,c,_,e=>.inl e
 | (n,k)::r,cs,x,c,h,e=>by
  have ih:=ng r (if k=.free then (n,(env.cells.lookup n).getD 0)::cs else cs) x c (fun x hx=>h x (xu _ hx)) e;rcases ih with ih | ih
  ·by_cases hk:k=.free
   ·subst hk;rw [if_pos rfl] at ih;obtain⟨d,hd⟩:=h (n,.free) xD rfl;have hd':env.cells.lookup n=some d:=hd;rw [hd'] at ih;rw [aaq] at ih;cases hx:x == n with
    | true =>
     rw [hx] at ih;have:x=n:=by simpa using hx
     subst this;right;rw [hd'];exact ih
    | false =>
     rw [hx] at ih;exact .inl ih
   ·rw [if_neg hk] at ih;exact .inl ih
  ·exact .inr ih
theorem kT {env:Env}:∀ (ns:List (Str×NameKind)) (cs:List (Str×Addr)) (x:Str),(∃ c,cs.lookup x=some c)->∃ c,(lD env ns cs).lookup x=some c
 | [],_,_,h=>h
 | (n,k)::r,cs,x,h=>by
  refine kT r _ x ?_;split
  ·rw [aaq];split
   ·exact⟨_,rfl⟩
   ·exact h
  ·exact h
theorem jX {env:Env}:∀ (ns:List (Str×NameKind)) (cs:List (Str×Addr)) (x:Str),(x,NameKind.free)∈ns->∃ c,(lD env ns cs).lookup x=some c
 | [],_,_,h=>nomatch h
 | (n,k)::r,cs,x,h=>by
  rcases xA.mp h with e | h
  ·cases e;refine kT r _ _ ⟨(env.cells.lookup n).getD 0,?_⟩;rw [if_pos rfl,aaq,aar]
  ·exact jX r _ x h
theorem jq {scope:Scope}{env:Env}(h:∀ x∈scope.names,x.2=.free->∃ c,env.cells.lookup x.1=some c):closureFor scope env=pure (lD env scope.names []):=by
 have e:=ql scope.names [] h;unfold closureFor;simp only [] at e ⊢;rw [e]
 rfl
theorem ig {scope:Scope}{env:Env}{x:Str}{k:NameKind}:(relabel scope env).names.lookup x=some k->∃ k',(x,k')∈scope.names/\(k=k'\/(k'=.free/\k=.cell)):=by
 intro h;have all:∀ (ns:List (Str×NameKind)),(ns.map fun (n,k)=>if (k == NameKind.free && env.scope.kind == .function && env.kindOf n == some .cell) then (n,NameKind.cell) else (n,k)).lookup x=some k->∃ k',(x,k')∈ns/\(k=k'\/(k'=.free/\k=.cell)):=by
  intro ns
  induction ns with
  | nil=>intro h;simp at h
  | cons y r ih =>
   obtain⟨n,k'⟩:=y;intro h;rw [yh,aaq] at h;by_cases hc:(k' == NameKind.free && env.scope.kind == .function && env.kindOf n == some .cell)=true
   ·simp only [hc,aaV] at h;cases hx:x == n with
    | true =>
     rw [hx] at h;have e:x=n:=by simpa using hx
     subst e;have hk:k'=.free:=by
      simp only [yu] at hc;simpa using hc.1.1
     exact⟨k',xD,.inr ⟨hk,(yz h).symm⟩⟩
    | false =>
     rw [hx] at h;obtain⟨k2,h1,h2⟩:=ih h;exact⟨k2,xu _ h1,h2⟩
   ·simp only [hc,zw,aay] at h;cases hx:x == n with
    | true =>
     rw [hx] at h;have e:x=n:=by simpa using hx
     subst e;exact⟨k',xD,.inl (yz h).symm⟩
    | false =>
     rw [hx] at h;obtain⟨k2,h1,h2⟩:=ih h;exact⟨k2,xu _ h1,h2⟩
 exact all scope.names h
def Cx.comp (X:Cx)(scope:Scope)(N':List Str)(C:Addr)(fp:List Addr)(s₀:Shared)(H₀:Hp):Cx :=
 { X with N:=N',s₀:=s₀,H₀:=H₀,env:=compEnvC scope (lD X.env scope.names []) C X.env,outer:=X.stack,stack:=X.stack,ex:=fp,fn:=fun _=>false,pn:=[],xe:=fun _ _=>False }
structure CompScope (X:Cx)(scope:Scope):Prop where
 kind:scope.kind=.function
 nocell:∀ x∈scope.names,x.2≠.cell
 loc:∀ x∈scope.names,x.2=.local->scope.names.lookup x.1=some .local
 free:∀ x∈scope.names,x.2=.free->X.env.kindOf x.1=some .cell
section
variable {X:Cx}{pins:List (Addr×Obj)}{σ:St}{H:Hp}{s:Shared}{scope:Scope}{N':List Str}{fp:List Addr}
theorem CompScope.cells (S:CompScope X scope)(ok:X.Ok):∀ x∈scope.names,x.2=.free->∃ c,X.env.cells.lookup x.1=some c:=fun x hx hk=>ok.has x.1 (.inl (S.free x hx hk))
theorem CompScope.sub (S:CompScope X scope)(ok:X.Ok){x:Str}{c:Addr}(e:(lD X.env scope.names []).lookup x=some c):X.env.cells.lookup x=some c:=by
 rcases ng scope.names [] x c (S.cells ok) e with h | h
 ·cases h
 ·exact h
theorem CompScope.ok (S:CompScope X scope)(I:Inv X pins σ H s)(hf:∀ b∈fp,kz X pins H b)(ho:∀ b∈fp,b < s.heap.objs.size):(X.comp scope N' s.heap.objs.size fp s H).Ok where
 mod:=I.ok.mod
 kind:=S.kind
 glob:=I.ok.glob
 blt:=I.ok.blt
 above:=xx _
 inj:=fun x y c e1 e2=>I.ok.inj x y c (S.sub I.ok e1) (S.sub I.ok e2)
 has:=fun x hx=>by
  have hx':(relabel scope X.env).names.lookup x=some .cell\/(relabel scope X.env).names.lookup x=some .free:=hx;have fr:(x,NameKind.free)∈scope.names:=by
   rcases hx' with h | h
   ·obtain⟨k',h1,h2⟩:=ig h;rcases h2 with h2 | ⟨h2,_⟩
    ·subst h2;exact absurd rfl (S.nocell _ h1)
    ·subst h2;exact h1
   ·obtain⟨k',h1,h2⟩:=ig h;rcases h2 with h2 | ⟨h2,h3⟩
    ·subst h2;exact h1
    ·cases h3
  exact jX scope.names [] x fr
 cab:=fun x c h _=>by cases h
 hd:=I.ok.hd
 frames:=I.ok.frames
 stk:=.inl rfl
 exf:=fun b hb=>⟨xY (ho b hb),fun x c e=>(hf b hb).2.2.2.2.1 x c (S.sub I.ok e)⟩
 bs:=I.bs
 bsz:=xE I.ok.bsz I.sz
 noex:=fun b o e hb=>by
  rcases (hf b hb).2.2.2.1 with h | h
  ·exact I.ok.noex b o e h
  ·exact absurd (xP (xF e) (xE I.ok.bsz h)) (yU _)
 exfs:=fun b hb hs=>by
  rcases xA.mp (I.stkSub b hs) with h | h
  ·exact (hf b hb).2.1 h
  ·exact (hf b hb).2.2.1 h
 funs:=I.stack
 frf:=I.stkFree
def gM (nl:Nat)(ix:List Nat)(σ:St):St:=List.replicate nl none++ix.map fun j=>(σ[j]?).join
structure vw (X:Cx)(scope:Scope)(N':List Str)(nl:Nat)(ix:List Nat):Prop where
 len:N'.length=nl+ix.length
 at':∀ (k j:Nat),ix[k]? = some j->∃ x,X.N[j]? = some x/\N'[nl+k]? = some x/\X.env.kindOf x=some .cell/\(relabel scope X.env).names.lookup x=some .cell/\(x,NameKind.free)∈scope.names
theorem m9 {nl:Nat}{ix:List Nat}{h1:Heap}{tk:Nat}(S:CompScope X scope)(Cp:vw X scope N' nl ix)(I:Inv X pins σ H s)(hf:∀ b∈fp,kz X pins H b)(ho:∀ b∈fp,b < s.heap.objs.size)
 (hn:h1.Ns s.heap.objs.size (fun _=>none))(hk:∀ b o,s.heap.get? b=some o->h1.get? b=some o):Inv (X.comp scope N' s.heap.objs.size fp s H) [] (gM nl ix σ) H { s with heap:=h1,toks:=tk }:=by
 have ok:=S.ok (N':=N') I hf ho;refine⟨ok,rfl,I.bare,Un.kept hk,⟨_,hn,fun i x v e1 e2 e3=>?_⟩,fun x c e=>?_,I.hok.fresh (xx _),fun x c e=>I.freeC x c (S.sub I.ok e),fun p hp=>by simp [Cx.comp] at hp,I.hok.kept hk,?_⟩
 ·unfold gM at e2;rw [List.getElem?_append] at e2;split at e2
  ·rw [aab] at e2;split at e2<;>simp at e2
  ·rename_i hi;rw [xW] at hi e2;rw [xO] at e2;cases ej:ix[i - nl]? with
   | none=>rw [ej] at e2;simp at e2
   | some j =>
    rw [ej] at e2;have e2':(σ[j]?).join=some v:=by simpa using e2
    have e2'':σ[j]? = some (some v):=by
     cases q:σ[j]? with
     | none=>rw [q] at e2';simp at e2'
     | some z=>rw [q] at e2';simp at e2';rw [e2']
    obtain⟨x',a1,a2,a3,a4,a5⟩:=Cp.at' _ _ ej;have hi2:nl+(i - nl)=i:=by lia
    rw [hi2] at a2;have e1':N'[i]? = some x:=e1;rw [a2] at e1';cases e1';obtain⟨m,hm,hl⟩:=I.loc;obtain⟨u,r,l⟩:=hl j x v a1 e2'' (.inr (.inl a3));refine⟨u,r,?_⟩;rcases l with ⟨k,_⟩ | ⟨_,c,ec,z⟩
    ·rw [k] at a3;cases a3
    ·obtain⟨c',hc'⟩:=jX (env:=X.env) scope.names [] x a5;have ec':=S.sub I.ok hc';rw [ec] at ec';cases ec';obtain⟨o,ho',hd⟩:=z;exact .inr ⟨.inl a4,c,hc',o,hk _ _ ho',hd⟩
 ·obtain⟨v,o,ho',hd⟩:=I.cell x c (S.sub I.ok e);exact⟨v,o,hk _ _ ho',hd⟩
 ·show (gM nl ix σ).length=N'.length;unfold gM;rw [xq,xW,xn,Cp.len]
theorem k4 {H':Hp}{σ':St}{pins':List (Addr×Obj)}{s':Shared}{h':Heap}(I:Inv X pins σ H s)(hf:∀ b∈fp,kz X pins H b)
 (I':Inv (X.comp scope N' s.heap.objs.size fp s H) pins' σ' H' s')(hs:Heap.SameBut s.heap.objs.size s'.heap h'):Inv X pins σ H' { s' with heap:=h' }:=by
 have lo:∀ b o,s.heap.get? b=some o->b≠s.heap.objs.size:=fun b o e=>xY (xF e);have B:=I'.base;refine I.call' (ch:=fp) (show s'.os=s.os from I'.os) ⟨fun b o e n hb hx=>?_,fun b o e n hb hx=>?_,fun b o e n hx=>B.free b o e n hx,fun b o e hx=>?_,B.tups,B.frzs,B.tbls⟩ (fun b u e=>?_) I'.bare fun b hb=>⟨(hf b hb).2.2.2.1,(hf b hb).2.1,(hf b hb).2.2.2.2.1,(hf b hb).2.2.2.2.2⟩
 ·exact (hs.2 b (lo b o e)).trans (B.keep b o e n hb hx)
 ·obtain⟨sl,q⟩:=B.slot b o e n hb hx;exact⟨sl,(hs.2 b (lo b o e)).trans q⟩
 ·obtain⟨o',q⟩:=B.there b o e hx;exact⟨o',(hs.2 b (lo b o e)).trans q⟩
 ·have nl:H' s.heap.objs.size=none:=I'.free;refine (I'.hok b u e).stay (fun c v hc q=>(hs.2 c ?_).trans q) (fun _ q=>q) fun _ _ q=>q;rintro rfl;rcases hc with z | z
  ·rw [← z,nl] at e;cases e
  ·rw [nl] at z;cases z
end
def PIf (X:Cx)(ifs:List Expr)(t:TT):Prop :=
 ∀ (pins:List (Addr×Obj)) (s:Shared) (σ:St) (H:Hp) (Q:Bool->Hp->Prop),Inv X pins σ H s->t σ H Q →
  wpAny (model X.prog X.w) X.A (forIn ifs true fun c r=>if r=true then do let ok ← isTrue c X.env (eval c X.env);pure (ForInStep.yield ok) else pure (ForInStep.yield r)) (TP X pins σ Q) X.xe s
def uD:TT:=fun _ H Q=>Q true H
theorem dJ {X:Cx}:PIf X [] uD:=fun _ _ _ H _ I h=>wpAny_tests_nil ⟨H,I,h⟩
theorem iE {X:Cx}{c:Expr}{t:TT}(h:PT X c t):PIf X [c] t:=fun pins s σ H Q I hw=>wpAny_tests_one (h pins s σ H Q I hw)
section
variable {prog:Program}{w:World}{A:Around}{R:Result->Shared->Prop}{s:Shared}
theorem jr {elt target iter:Expr}{ifs:List Expr}{scope:Scope}{pos:Pos}{it acc:Value}{env:Env}(I:Nat->Shared->Prop)
 (turn:∀ n s,I n s->wpAny (model prog w) A (pyNext it) (fun r s₁=>match r with
  | none=>R (.ok .next) s₁
  | some v=>wpAny (model prog w) A (letOwnedTupleGo target it v) (fun _ s₁'=>wpAny (model prog w) A (assign target env v) (fun _ s₂ =>
   wpAny (model prog w) A (forIn ifs true fun c r=>if r=true then do let ok ← isTrue c env (eval c env);pure (ForInStep.yield ok) else pure (ForInStep.yield r)) (fun ok s₃ =>
    if ok=true then wpAny (model prog w) A (eval elt env) (fun x s₄ =>
     wpAny (model prog w) A (call (.builtin "list.append") [acc,x]) (fun _ s₅=>∃ m,m < n/\I m s₅) (fun _ _=>False) s₄) (fun _ _=>False) s₃
    else ∃ m,m < n/\I m s₃) (fun _ _=>False) s₂) (fun _ _=>False) s₁') (fun _ _=>False) s₁) (fun _ _=>False) s)
 (n:Nat)(h:I n s) :
 codeAny (model prog w) A (.compLoop (.ListComp elt [⟨target,iter,ifs,0⟩] scope pos) 0 it acc env) R s:=by
 have no:∀ {E:Value->Shared->Prop} (x:Value) (s:Shared),False->E x s:=fun _ _ z=>z.elim;refine codeAny_loop rfl I (fun n s hI=>?_) n h;show wpAny _ A ((compTurn (.ListComp elt [⟨target,iter,ifs,0⟩] scope pos) 0 it acc env).onRaise (fun x=>do noteFrame x env;theTreesLotGoes x)) _ _ s;refine wpAny_noted ?_;rw [compTurn_list];refine xo (aax (xo (za (turn n s hI) (fun r s₁ h₁=>?_) no)));cases r with
 | none=>exact xC h₁
 | some v =>
  refine xo (za h₁ (fun _ s₁' h₁'=>xo (za h₁' (fun _ s₂ h₂=>xo (za h₂ (fun ok s₃ h₃=>?_) no)) no)) no);cases ok with
  | false=>exact xC ⟨rfl,h₃⟩
  | true =>
   exact xo (xo (za h₃ (fun x s₄ h₄=>xo (za h₄ (fun _ s₅ h₅=>xC (xC ⟨rfl,h₅⟩)) no)) no))
end
def gQ (nl:Nat)(ix:List Nat)(wi:TI)(g:TG)(tf:TT)(te:TE):TE:=fun σ H Q=>wi σ H fun J H1=>∀ D,H1 D=none->∃ W:Nat->Nat->List V->Hp->Prop,(∃ m,W 0 m [] (upd H1 D (.lst []))) ∧
 ∀ i m ys H2,W i m ys H2->H2 D=some (.lst ys)/\((J.stop i H2/\Q (.ref D) H2)\/(J.go i H2/\∀ x H3,J.yld i H2 x H3->g x (gM nl ix σ) H3 fun σ4 H4=>(σ4.length=(gM nl ix σ).length/\σ4.drop nl=ix.map fun j=>(σ[j]?).join)/\tf σ4 H4 fun b H5 =>
  if b=true then te σ4 H5 fun y H6=>H6 D=some (.lst ys)/\ys.length < sizeLine/\∃ m',m' < m/\W (i+1) m' (ys++[y]) (upd H6 D (.lst (ys++[y]))) else ∃ m',m' < m/\W (i+1) m' ys H5))
theorem kx {X:Cx}{pins:List (Addr×Obj)}{σ σ4:St}{H:Hp}{s:Shared}{nl:Nat}{ix:List Nat}(I:Inv X pins σ4 H s)(hl:σ4.length=(gM nl ix σ).length)(hd:σ4.drop nl=ix.map fun j=>(σ[j]?).join):Inv X pins (gM nl ix σ) H s:=by
 refine I.weak hl.symm fun i v e=>?_;unfold gM at e;rw [List.getElem?_append] at e;split at e
 ·rw [aab] at e;split at e<;>simp at e
 ·rename_i hi;rw [xW] at hi e;rw [← hd,List.getElem?_drop] at e;have hi2:nl+(i - nl)=i:=by lia
  rw [hi2] at e;exact e
section
variable {X:Cx}
theorem eM {elt tg iter:Expr}{ifs:List Expr}{scope:Scope}{pos:Pos}{N':List Str}{nl:Nat}{ix:List Nat}{wi:TI}{g:TG}{tf:TT}{te:TE}(hc:X.calm=true)(S:CompScope X scope)(Cp:vw X scope N' nl ix)(hi:PI X tg iter wi)
 (hg:∀ C fp s₀ H₀,PG (X.comp scope N' C fp s₀ H₀) tg g)(hf:∀ C fp s₀ H₀,PIf (X.comp scope N' C fp s₀ H₀) ifs tf)(he:∀ C fp s₀ H₀,PE (X.comp scope N' C fp s₀ H₀) elt te)
 (hs:∀ x,foldedSetIterable iter X.env x=pure x:=by intro _;rfl):PE X (.ListComp elt [⟨tg,iter,ifs,0⟩] scope pos) (gQ nl ix wi g tf te):=by
 intro pins s σ H Q I h;rw [eval_ListComp];refine wpAny_comprehension_free (use:=none) (cl:=lD X.env scope.names []) rfl hs (jq (S.cells I.ok)) S.kind S.loc ?_;refine thn (hi pins s σ H _ I h) fun v s1 h1=>thn h1 fun itv s2 h2=>?_;obtain⟨it,fp,tn,J,H2,rfl,I2,T,st2,f2,h2⟩:=h2;obtain⟨W,⟨m0,w0⟩,turn⟩:=h2 s2.heap.objs.size I2.fresh;refine aa5 (wpAny_newFunctionEnv S.nocell (by intro y hy;simp at hy) (fun h₁ hns₁ hsb₁=>?_) S.kind);dsimp only at hns₁ hsb₁ ⊢;have fpo:∀ b∈fp,b < s2.heap.objs.size:=fun b hb=>by
  obtain⟨o,e,_⟩:=T.obj 0 _ st2 b hb;exact xF e
 have I3:Inv X pins σ (upd H2 s2.heap.objs.size (.lst [])) { s2 with heap:=s2.heap.push { cls:=.type "list",data:=.seq ([]:List Value).toArray },toks:=s2.toks }:=I2.lnew .nil (xS _);have hD:(upd H2 s2.heap.objs.size (.lst [])) s2.heap.objs.size=some (.lst []):=ag;have f3:∀ b∈fp,kz X pins (upd H2 s2.heap.objs.size (.lst [])) b:=fun b hb=>by
  refine⟨?_,(f2 b hb).2⟩;rw [ai (xY (fpo b hb))];exact (f2 b hb).1
 generalize hS3:s2.heap.push { cls:=.type "list",dict:=none,data:=.seq ([]:List Value).toArray }=g3 at hns₁ hsb₁ I3 ⊢;have sz3:g3.objs.size=s2.heap.objs.size+1:=by rw [← hS3,aaW]
 have fpo3:∀ b∈fp,b < ({ s2 with heap:=g3,toks:=s2.toks }:Shared).heap.objs.size:=fun b hb=>by
  show b < g3.objs.size;rw [sz3];exact aa6 (fpo b hb)
 have old:∀ b o,g3.get? b=some o->h₁.get? b=some o:=fun b o e=>hsb₁.extBut b o (xY (xF e)) (xw _ e);have I4:=m9 (tk:=s2.toks+([]:List (Str×Value)).length) S Cp I3 f3 fpo3 hns₁ old;generalize hX:X.comp scope N' g3.objs.size fp { s2 with heap:=g3,toks:=s2.toks } (upd H2 s2.heap.objs.size (.lst []))=X' at *;have hPr:X'.prog=X.prog:=by rw [← hX];rfl
 have hWr:X'.w=X.w:=by rw [← hX];rfl
 have hKr:X'.K=X.K:=by rw [← hX];rfl
 have hAr:X'.A=X.A:=by rw [← hX];rfl
 have hCa:X'.calm=true:=by rw [← hX];exact hc
 have hXe:X'.xe=fun _ _=>False:=by rw [← hX];rfl
 have hEx:X'.ex=fp:=by rw [← hX];rfl
 have hPn:X'.pn=[]:=by rw [← hX];rfl
 have hLo:X'.env.locals=g3.objs.size:=by rw [← hX];rfl
 have hEn:X'.env=compEnvC scope (lD X.env scope.names []) g3.objs.size X.env:=by rw [← hX];rfl
 have hg':=hg g3.objs.size fp { s2 with heap:=g3,toks:=s2.toks } (upd H2 s2.heap.objs.size (.lst []));have hf':=hf g3.objs.size fp { s2 with heap:=g3,toks:=s2.toks } (upd H2 s2.heap.objs.size (.lst []));have he':=he g3.objs.size fp { s2 with heap:=g3,toks:=s2.toks } (upd H2 s2.heap.objs.size (.lst []));rw [hX] at hg' hf' he';have I4':Inv X' [] (gM nl ix σ) (upd H2 s2.heap.objs.size (.lst [])) { s2 with heap:=h₁,toks:=s2.toks+([]:List (Str×Value)).length }:=I4;have back:∀ {H':Hp} {σ':St} {pins':List (Addr×Obj)} {s':Shared} {h':Heap},Inv X' pins' σ' H' s'->Heap.SameBut g3.objs.size s'.heap h'->Inv X pins σ H' { s' with heap:=h' }:=fun I' sb=>by
  subst hX;exact k4 I3 f3 I' sb
 have stat:∀ {H':Hp},(∀ b∈fp,H' b=none)->∀ b∈fp,kz X' [] H' b:=fun hn b hb=>by
  refine⟨hn b hb,?_,?_,.inl (by rw [hEx];exact hb),?_,fun p hp=>by rw [hPn] at hp;cases hp⟩
  ·rw [hLo];exact xY (fpo3 b hb)
  ·exact I4'.ok.exfs b (by rw [hEx];exact hb)
  ·exact (I4'.ok.exf b (by rw [hEx];exact hb)).2
 have loop:codeAny (model X.prog X.w) X.A (.compLoop (.ListComp elt [⟨tg,iter,ifs,0⟩] scope pos) 0 (.ref it) (.ref s2.heap.objs.size) X'.env)
  (compPost (model X.prog X.w) X.A X.xe none (EP X pins σ Q) (.ref s2.heap.objs.size) g3.objs.size) { s2 with heap:=h₁,toks:=s2.toks+([]:List (Str×Value)).length }:=by
  rw [← hPr,← hWr,← hAr];refine jr (fun n s'=>∃ i ys H',Inv X' [] (gM nl ix σ) H' s'/\tn i s'.heap/\(∀ b∈fp,H' b=none)/\W i n ys H') ?_ m0
   ⟨0,[],_,I4',T.keep _ _ _ st2 (fun b hb o e=>old b o (by rw [← hS3];exact xw _ e)),fun b hb=>(f3 b hb).1,w0⟩
  rintro n s5 ⟨i,ys,H5,I5,st5,fr5,w5⟩;obtain⟨hD5,alt⟩:=turn i n ys H5 w5;rcases alt with ⟨stop,qn⟩ | ⟨go,step⟩
  ·rw [hPr,hWr];refine thn (T.done X' hPr hWr hKr hCa i [] s5 _ H5 _ I5 (stat fr5) st5 stop) fun r s6 ⟨hr,I6⟩=>?_;subst hr;obtain⟨m,hn,_⟩:=I6.loc;rw [hLo] at hn;exact⟨m,hn,fun h' sb=>⟨.ref s2.heap.objs.size,H5,back I6 sb,rfl,qn⟩⟩
  ·have it5:=T.item X' hPr hWr hKr hCa i [] s5 _ H5 (fun _ _=>False) I5 (stat fr5) st5 go;rw [← hPr,← hWr] at it5;refine thn it5 fun r s6 ⟨u,hr,h6⟩=>?_;subst hr;refine thn h6 fun _ s7 ⟨x,H7,I7,r7,y7,st7,fr7⟩=>?_;have I7':=I7.pinned (stat fr7) (T.obj _ _ st7);have g7:=hg' _ s7 _ H7 x u _ I7' r7 (step x H7 y7);rw [hXe] at g7;refine thn g7 fun _ s8 ⟨σ8,H8,I8,⟨hl8,hd8⟩,q8⟩=>?_;have f8:=hf' _ s8 σ8 H8 _ I8 q8;rw [hXe] at f8;refine thn f8 fun ok s9 ⟨H9,I9,q9⟩=>?_;have again:∀ {H10:Hp} {s10:Shared} {ys':List V},Inv X' ([]++jF fp s7.heap) σ8 H10 s10->(∃ m',m' < n/\W (i+1) m' ys' H10)->∃ m,m < n/\∃ i ys H',Inv X' [] (gM nl ix σ) H' s10/\tn i s10.heap/\(∀ b∈fp,H' b=none)/\W i m ys H':=fun {H10 s10 ys'} I10 ⟨m',hm,w'⟩=>by
    refine⟨m',hm,i+1,ys',H10,kx I10.unpinned hl8 hd8,T.keep _ _ _ st7 fun b hb o e=>(I10.pin (b,o) (ye _ (ye _ (cP hb e)))).1,fun b hb=>?_,w'⟩;obtain⟨o,e,d⟩:=T.obj _ _ st7 b hb;exact (I10.pin (b,o) (ye _ (ye _ (cP hb e)))).2.1
   cases ok with
   | false =>
    rw [if_neg xt] at q9 ⊢;exact again I9 q9
   | true =>
    rw [if_pos rfl] at q9 ⊢;have e9:=he' _ s9 σ8 H9 _ I9 q9;rw [hXe] at e9;refine thn e9 fun xv s10 ⟨y,H10,I10,r10,hD10,hz,mw⟩=>?_;have a10:=cE (X:=X') _ s10 σ8 H10 (.ref s2.heap.objs.size) [y] _ [xv] (fun _ H'=>H'=upd H10 s2.heap.objs.size (.lst (ys++[y]))) I10 rfl (.cons r10 .nil) ⟨_,ys,y,rfl,rfl,hD10,hz,rfl⟩;rw [hXe] at a10;refine thn a10 fun _ s11 ⟨_,H11,I11,_,e11⟩=>?_;subst e11;exact again I11 mw
 rw [hEn] at loop;exact codeAny_compStart_list loop (T.self _ 0 _ _ _ (T.keep _ _ _ st2 (fun b hb o e=>old b o (by rw [← hS3];exact xw _ e))) loop)
theorem cQ:∀ {ss:List Str} {us:List Value},Vals (ss.map V.str) us->StrsAre us ss
 | [],_,.nil=>.nil
 | _::_,_,.cons r t=>by
  obtain⟨k,rfl⟩:=r;exact .cons _ k (cQ t)
theorem gG:∀ {ss:List Str} {us:List Value},StrsAre us ss->Vals (ss.map V.str) us
 | _,_,.nil=>.nil
 | _,_,.cons y t h=>.cons ⟨t,rfl⟩ (gG h)
theorem ni:∀ bs:List Bool,(List.range bs.length).all (fun i=>bs.getD i false)=bs.all id
 | []=>rfl
 | b::r=>by
  rw [yx,List.range_succ_eq_map,aaz,aaS,aaz,← ni r]
  rfl
theorem fY (hc:X.calm=true):eW X (.builtin "all") (fun xs H Q=>∃ (p:Addr) (bs:List Bool),xs=[.ref p]/\SqL X.K H p (bs.map V.bl)/\Q (.bl (bs.all id)) H):=by
 intro pins s σ H xs us Q I r h;obtain⟨p,bs,rfl,hq,q⟩:=h;obtain⟨u,rfl,rx⟩:=gZ r;cases rx;obtain⟨its,rv,pl,hz⟩:=I.list hq;have hh:X.A.in1.handled=none:=I.ok.hd hc;have hlt:p < s.heap.objs.size:=by obtain⟨o,e,_⟩:=pl.isList;exact xF e
 have hlen:=rv.length;rw [xn] at hlen;refine call_all_walk (aa1 pl.isList ?_);refine⟨s.heap.objs.size,_,_,_,_,_,fun i=>bs.getD i false,rfl,Walks.list hh s.heap.objs.size p (xY hlt) its.toArray,⟨⟨_,ym _ rfl,rfl,rfl⟩,pl.isList.push _⟩,fun i v s' Q' E' hv hq'=>?_,fun h' tk hk=>?_⟩
 ·have hv':its[i]? = some v:=by simpa using hv
  have hi:i < its.length:=(xp.mp hv').1;have hb:bs[i]? = some (bs.getD i false):=by
   rw [zt];rw [xm (by lia)]
   rfl
  obtain⟨u,hu,ru⟩:=rv.get (i:=i) (x:=.bl (bs.getD i false)) (by rw [xO,hb];rfl);rw [hv'] at hu;cases hu;cases ru;exact yJ hq'
 ·have e:(List.range its.toArray.size).all (fun i=>bs.getD i false)=bs.all id:=by
   rw [xI,← hlen,ni]
  rw [e];refine⟨.bl _,H,?_,rfl,q⟩;refine (I.kept (t':=s.toks) (h':=s.heap.push { cls:=.type "list_iterator",data:=.fields #[.ref p,.int 0 0] }) fun b o e=>xw _ e).turned (it:=s.heap.objs.size) (t':=tk) (h':=h') (fun b o hb e=>hk b o (by simpa using hb) e) I.fresh (abn I.lt) (.inr I.sz) (fun x c e z=>?_) fun p' hp z=>?_
  ·obtain⟨v,q⟩:=I.cell x c e;exact absurd (z▸q.lt) (yU _)
  ·exact absurd (z▸xF (I.pin p' hp).1) (yU _)
theorem rH (hc:X.calm=true):eW X (.builtin "sum") (fun xs H Q=>∃ (p:Addr) (ns:List Int),xs=[.ref p]/\SqL X.K H p (ns.map V.int)/\(∀ n∈ns,0<=n/\n<=1000000)/\ns.length<=1000000/\Q (.int ns.sum) H):=by
 intro pins s σ H xs us Q I r h;obtain⟨p,ns,rfl,hq,hb,hl,q⟩:=h;obtain⟨u,rfl,rx⟩:=gZ r;cases rx;obtain⟨its,rv,pl,hz⟩:=I.list hq;have hh:X.A.in1.handled=none:=I.ok.hd hc;have hlt:p < s.heap.objs.size:=by obtain⟨o,e,_⟩:=pl.isList;exact xF e
 have hlen:=rv.length;rw [xn] at hlen;have hbd:∀ i,0<=ns.getD i 0/\ns.getD i 0<=1000000:=fun i=>by
  rw [zt];cases e:ns[i]? with
  | none=>simp
  | some z=>exact hb z (xV e)
 have hpre:∀ j:Nat,0<=preSum (fun i=>ns.getD i 0) j/\preSum (fun i=>ns.getD i 0) j<=1000000 * (j:Int):=fun j=>by
  induction j with
  | zero=>simp [preSum]
  | succ j ih =>
   have:=hbd j;simp only [preSum];lia
 refine call_sum_walk (aa1 pl.isList ?_);refine⟨s.heap.objs.size,_,_,_,_,_,fun i=>ns.getD i 0,rfl,Walks.list hh s.heap.objs.size p (xY hlt) its.toArray,⟨⟨_,ym _ rfl,rfl,rfl⟩,pl.isList.push _⟩,fun b hb=>?_,fun i v hv=>?_,fun j hj=>?_,fun h' tk t' hk=>?_⟩
 ·show b < (s.heap.push _).objs.size;rw [aaW];rcases xA.mp hb with rfl | hb
  ·exact Nat.lt_succ_self _
  ·rw [xr.mp hb];exact aa6 hlt
 ·have hv':its[i]? = some v:=by simpa using hv
  have hi:i < its.length:=(xp.mp hv').1;have hb:ns[i]? = some (ns.getD i 0):=by
   rw [zt];rw [xm (by lia)]
   rfl
  obtain⟨u,hu,ru⟩:=rv.get (i:=i) (x:=.int (ns.getD i 0)) (by rw [xO,hb];rfl);rw [hv'] at hu;cases hu;exact ru
 ·have h1:=hbd j;have h2:=hpre (j+1);have h3:j < its.length:=by simpa using hj
  refine⟨⟨by show -(2 ^ 63)<=ns.getD j 0;lia,by show ns.getD j 0 < 2 ^ 63;lia⟩,by lia,?_⟩;have h4:((j+1:Nat):Int)<=1000000:=by lia
  lia
 ·have e:preSum (fun i=>ns.getD i 0) its.toArray.size=ns.sum:=by
   have all:∀ (k:Nat) (l:List Int),k<=l.length->preSum (fun i=>l.getD i 0) k=(l.take k).sum:=fun k=>by
    induction k with
    | zero=>intro l _;simp [preSum]
    | succ k ih =>
     intro l hk;rw [preSum,ih l (by lia),yn,List.sum_append,zt,xm (by lia)];simp
   rw [xI,← hlen,all _ ns (xx _),yv]
  rw [e];refine⟨.int _,H,?_,⟨_,rfl⟩,q⟩;refine (I.kept (t':=s.toks) (h':=s.heap.push { cls:=.type "list_iterator",data:=.fields #[.ref p,.int 0 0] }) fun b o e=>xw _ e).turned (it:=s.heap.objs.size) (t':=tk) (h':=h') (fun b o hb e=>hk b o (by simpa using hb) e) I.fresh (abn I.lt) (.inr I.sz) (fun x c e z=>?_) fun p' hp z=>?_
  ·obtain⟨v,q⟩:=I.cell x c e;exact absurd (z▸q.lt) (yU _)
  ·exact absurd (z▸xF (I.pin p' hp).1) (yU _)
theorem fG:eW X (.builtin "sorted") (fun xs H Q=>∃ (p:Addr) (ss:List Str),xs=[.ref p]/\SqL X.K H p (ss.map V.str)/\ss.length < 64/\∀ (l:Addr) (ss':List Str),H l=none->ss'.Perm ss->sortedS ss'=true->Q (.ref l) (upd H l (.lst (ss'.map V.str)))):=by
 intro pins s σ H xs us Q I r h;obtain⟨p,ss,rfl,hq,hl,q⟩:=h;obtain⟨u,rfl,rx⟩:=gZ r;cases rx;obtain⟨its,rv,pl,hz⟩:=I.list hq;have hlen:=rv.length;rw [xn] at hlen;refine sorted_strs pl.isList (cQ rv) (by lia) fun out ss' a1 a2 a3=>?_;obtain⟨e,he⟩:=sortedAll_at s.heap its out;have hlen':ss'.length=ss.length:=a2.length_eq;refine⟨.ref (s.heap.objs.size+1),_,I.laid (t':=s.toks) (o:=.lst (ss'.map V.str)) (fun b o e=>sortedAll_old e) (zT _) ⟨?_,out.toList,e,gG a1,?_⟩,rfl,q _ ss' (I.hok.fresh (zT _)) a2 a3⟩
 ·rw [xn];exact y6 (xP (by lia:ss'.length < 64) (by decide))
 ·simpa using he
def uy:V->List V->Hp->VK->Prop:=fun x vs H Q=>∃ (l:Addr) (ss:List Str) (k:Str),x=.ref l/\vs=[.str k]/\H l=some (.lst (ss.map V.str))/\Q (.int (ss.count k)) H
theorem lZ (k:Str):∀ ss:List Str,countIn (.str k) (ss.map PyData.str)=((ss.count k:Nat):Int):=by
 intro ss
 induction ss with
 | nil=>rfl
 | cons y r ih =>
  rw [yh,countIn,ih,List.count_cons];by_cases e:y=k
  ·subst e;have e1:same (.str y) (.str y)=true:=same_refl _;rw [if_pos e1,aar,if_pos rfl];lia
  ·have e1:¬ same (.str y) (.str k)=true:=by simpa [same] using e
   have e2:(y == k)=false:=by simpa using e
   rw [if_neg e1,e2];simp
theorem ma:MtM X "list.count" uy:=by
 intro pins s σ H x vs v us Q I rx rv h;obtain⟨l,ss,k,rfl,rfl,hH,q⟩:=h;cases rx;obtain⟨u,rfl,t,rfl⟩:=rv.one;obtain⟨its,r,pl,hz⟩:=I.list (aAA hH);refine count_list_strs pl.isList (cQ r) ⟨.int (ss.count k),H,I.tok _,⟨s.toks,?_⟩,q⟩;rw [lZ]
def vG:V->List V->Hp->VK->Prop:=fun x vs H Q=>∃ (z:Str) (l:Addr) (ss:List Str),x=.str z/\vs=[.ref l]/\SqL X.K H l (ss.map V.str)/\(ss.map (·.length)).sum+ss.length * z.length<=16777216/\Q (.str (Txt.join z ss)) H
theorem t6:MtM X "str.join" (vG (X:=X)):=by
 intro pins s σ H x vs v us Q I rx rv h;obtain⟨z,l,ss,rfl,rfl,hq,hz,q⟩:=h;obtain⟨t,rfl⟩:=rx;obtain⟨u,rfl,ru⟩:=rv.one;cases ru;obtain⟨its,r,pl,_⟩:=I.list hq;exact join_list pl.isList (by simpa using cQ r) hz fun t' k=>⟨.str _,H,I.tok _,⟨t',rfl⟩,q⟩
end
mutual
inductive Sees (H:Hp):V->PyData->Prop
 | non:Sees H .non .none
 | bl (b:Bool):Sees H (.bl b) (.bool b)
 | int (i:Int):Sees H (.int i) (.int i)
 | str (x:Str):Sees H (.str x) (.str x)
 | lst {a:Addr} {vs:List V} {ds:List PyData}:H a=some (.lst vs)->SeesAll H vs ds->Sees H (.ref a) (.list ds)
 | tup {a:Addr} {vs:List V} {ds:List PyData}:H a=some (.tup vs)->SeesAll H vs ds->Sees H (.ref a) (.tuple ds)
inductive SeesAll (H:Hp):List V->List PyData->Prop
 | nil:SeesAll H [] []
 | cons {v:V} {vs:List V} {d:PyData} {ds:List PyData}:Sees H v d->SeesAll H vs ds->SeesAll H (v::vs) (d::ds)
end
mutual
theorem Sees.reads {P:Program}{w:World}{H:Hp}{h:Heap}(ok:HOk P w H h):∀ {d:PyData} {v:V} {u:Value},Sees H v d->RelV v u->∃ as,Reads h u d as
 | _,_,_,.non,r=>by cases r;exact⟨_,.none⟩
 | _,_,_,.bl b,r=>by cases r;exact⟨_,.bool b⟩
 | _,_,_,.int i,r=>by obtain⟨t,rfl⟩:=r;exact⟨_,.int i t⟩
 | _,_,_,.str x,r=>by obtain⟨t,rfl⟩:=r;exact⟨_,.str x t⟩
 | _,_,_,.lst e q,r=>by
  cases r;obtain⟨_,its,n,rv,g⟩:=ok _ _ e;obtain⟨as,ra⟩:=SeesAll.reads ok q rv;exact⟨_,.list g rfl rfl (by simpa using ra)⟩
 | _,_,_,.tup e q,r=>by
  cases r;obtain⟨_,its,rv,o,g,hc,n,hd⟩:=ok _ _ e;obtain⟨as,ra⟩:=SeesAll.reads ok q rv;exact⟨_,.tuple g hc hd (by simpa using ra)⟩
theorem SeesAll.reads {P:Program}{w:World}{H:Hp}{h:Heap}(ok:HOk P w H h):∀ {ds:List PyData} {vs:List V} {us:List Value},SeesAll H vs ds->Vals vs us->∃ as,ReadsAll h us ds as
 | _,_,_,.nil,r=>by cases r;exact⟨_,.nil⟩
 | _,_,_,.cons a b,r=>by
  cases r with
  | cons r1 r2 =>
   obtain⟨_,x⟩:=Sees.reads ok a r1;obtain⟨_,y⟩:=SeesAll.reads ok b r2;exact⟨_,.cons x y⟩
end
theorem SeesAll.strs {H:Hp}:∀ ss:List Str,SeesAll H (ss.map V.str) (ss.map PyData.str)
 | []=>.nil
 | s::r=>.cons (.str s) (SeesAll.strs r)
section
variable {X:Cx}
def m8 (A:Around)(neg:Bool):R2:=fun x y H Q=>∃ da db,Sees H x da/\Sees H y db/\da.canLay0=true/\db.canLay0=true/\A.units+min da.depth db.depth < cLine/\Q (.bl (if neg then !PyData.eqv da db else PyData.eqv da db)) H
theorem ny:OpR X (compareOp .Eq) (m8 X.A false):=by
 intro pins s σ H x y v u Q I rx ry h;obtain⟨da,db,sa,sb,la,lb,hu,q⟩:=h;obtain⟨_,ra⟩:=sa.reads I.hok rx;obtain⟨_,rb⟩:=sb.reads I.hok ry;exact SeqAt.rcAt_reads ra rb la lb hu _ _ _ _ ⟨.bl _,H,I,rfl,q⟩
theorem eX:OpR X (compareOp .NotEq) (m8 X.A true):=by
 intro pins s σ H x y v u Q I rx ry h;obtain⟨da,db,sa,sb,la,lb,hu,q⟩:=h;obtain⟨_,ra⟩:=sa.reads I.hok rx;obtain⟨_,rb⟩:=sb.reads I.hok ry;exact SeqAt.compareNe_reads ra rb la lb hu ⟨.bl _,H,I,rfl,q⟩
def Itn (n:Nat)(val:Nat->V->Prop):It:=⟨fun i _=>i < n,fun i H x H'=>H'=H/\val i x,fun i _=>i=n⟩
theorem jk {P:Program}{w:World}{K:PySem.W.Frag}{x:Str}{p:Pos}{I:Addr}{n:Nat}{Pv:Nat->Value->Prop}{St:Nat->Heap->Prop}{val:Nat->V->Prop}
 (W:∀ A':Around,A'.handled=none->Walks P w A' I [I] [I] n Pv St)(ho:∀ i h,St i h->∃ o,h.get? I=some o/\∀ v,o.data≠.cell v)(hv:∀ i u,Pv i u->∃ v,RelV v u/\val i v)
 (hself:∀ (A:Around) (i:Nat) (s:Shared) (Q:Value->Shared->Prop) (E:Value->Shared->Prop),St i s.heap->Q (.ref I) s->wpAny (model P w) A (pyIter (.ref I)) Q E s) :
 uY P w K (.Name x p) (Itn n val) [I] I St where
 mem:=by simp
 obj:=fun i h st b hb=>by
  have e:b=I:=by simpa using hb
  subst e;exact ho i h st
 keep:=fun i h h' st k=>(W { handled:=none,depth:=0,frames:=none,guards:=none,units:=0 } rfl).frame i h h' st k
 item:=by
  intro X hP hw hK hc i pins s σ H E J hf st hg;subst hP hw hK;obtain⟨f0,f1,f2,f3,f4,f5⟩:=hf I (by simp);refine (W X.A (J.ok.hd hc)).item i s _ _ hg st fun v h' tk hPv st' kk=>?_;obtain⟨y,ry,vy⟩:=hv i v hPv;have J1:Inv X pins σ H { s with heap:=h',toks:=tk }:=J.turned (fun b o hb e=>kk b o (by simpa using hb) e) f0 f1 f3 f4 f5;exact⟨v,rfl,xC ⟨y,H,J1,ry,⟨rfl,vy⟩,st',fun b hb=>(hf b hb).1⟩⟩
 done:=by
  intro X hP hw hK hc i pins s σ H E J hf st hg;subst hP hw hK;obtain⟨f0,f1,f2,f3,f4,f5⟩:=hf I (by simp);have e:i=n:=hg;subst e;exact (W X.A (J.ok.hd hc)).done s _ _ st fun h' tk kk=>⟨rfl,J.turned (fun b o hb e=>kk b o (by simpa using hb) e) f0 f1 f3 f4 f5⟩
 self:=hself
theorem iR {h:Heap}{I:Addr}{n:String}{x:Str}{t:Tok}{i:Nat}(st:h.IsStrIter I n x t i):∃ o,h.get? I=some o/\∀ v,o.data≠.cell v:=by
 obtain⟨o,e,_,d⟩:=st;exact⟨o,e,fun v z=>by rw [d] at z;cases z⟩
def ItS (z:Str):It:=Itn z.cps.size fun i v=>∃ c,z.cps[i]? = some c/\v=.str ⟨#[c]⟩
def w8 (tl:TE):TI:=fun σ H R=>tl σ H fun x H1=>∃ z,x=.str z/\R (ItS z) H1
theorem nG {z:Str}(i:Nat)(u:Value)(h:SignAt z i u):∃ v,RelV v u/\∃ c,z.cps[i]? = some c/\v=.str ⟨#[c]⟩:=by
 obtain⟨c,t,e,rfl⟩:=h;exact⟨.str ⟨#[c]⟩,⟨t,rfl⟩,c,e,rfl⟩
theorem ux {l:Expr}{tl:TE}{x:Str}{p:Pos}(hl:PE X l tl):PI X (.Name x p) l (w8 tl):=by
 intro pins s σ H R I h;refine thn (hl pins s σ H _ I h) fun v s1 ⟨y,H1,I1,r1,q1⟩=>?_;obtain⟨z,rfl,q⟩:=q1;obtain⟨t,rfl⟩:=r1;have fin:∀ (o:Obj),Inv X pins σ H1 { s1 with heap:=s1.heap.push o }:=fun o=>I1.kept (t':=s1.toks) fun b o e=>xw _ e;have ff:∀ b∈[s1.heap.objs.size],kz X pins H1 b:=fun b hb=>by
  have e:b=s1.heap.objs.size:=by simpa using hb
  subst e;exact I1.fpOk (xx _) I1.fresh
 cases ha:z.cps.all (· < 128)
 ·refine wpAny_pyIter_wide ha ⟨s1.heap.objs.size,[s1.heap.objs.size],_,ItS z,H1,rfl,fin _,jk (fun A' hA=>Walks.strWide hA _ z t) (fun i h st=>iR st) nG (fun A i s Q E st h=>wpAny_pyIter_striter_wide st h),⟨_,ym _ rfl,rfl,rfl⟩,ff,q⟩
 ·refine wpAny_pyIter_ascii ha ⟨s1.heap.objs.size,[s1.heap.objs.size],_,ItS z,H1,rfl,fin _,jk (fun A' hA=>Walks.strAscii hA _ z t) (fun i h st=>iR st) nG (fun A i s Q E st h=>wpAny_pyIter_striter_ascii st h),⟨_,ym _ rfl,rfl,rfl⟩,ff,q⟩
def xa:V->Option Int->Option Int->Hp->VK->Prop:=fun x lo hi H Q=>∃ z:Str,x=.str z/\z.length<=sizeLine/\Q (.str (Txt.slice z lo hi)) H
theorem qc:SlR X xa:=by
 intro pins s σ H x v vl vu lo hi sl Q I rx hs pl pu h;obtain⟨z,rfl,hz,q⟩:=h;obtain⟨t,rfl⟩:=rx;refine⟨"str",_,PySem.F.slot_str_getitem.lookup,typeIs_str _ _ _,?_⟩;obtain⟨o,ho,hc,hd⟩:=hs;have fin:∀ t' k,EP X pins σ Q (.str (Txt.slice z lo hi) t') { s with toks:=k }:=fun t' k=>⟨.str _,H,I.tok _,⟨t',rfl⟩,q⟩;cases pl with
 | none =>
  cases pu with
  | none=>exact zK (l:=none) (u:=none) (st:=none) ⟨o,ho,hc,hd⟩ rfl (aaG ⟨xE (abt z _ _) hz,fun t' k=>fin t' k⟩)
  | int j tj=>exact zK (l:=none) (u:=some (j,tj)) (st:=none) ⟨o,ho,hc,hd⟩ rfl (aaG ⟨xE (abt z _ _) hz,fun t' k=>fin t' k⟩)
 | int i ti =>
  cases pu with
  | none=>exact zK (l:=some (i,ti)) (u:=none) (st:=none) ⟨o,ho,hc,hd⟩ rfl (aaG ⟨xE (abt z _ _) hz,fun t' k=>fin t' k⟩)
  | int j tj=>exact zK (l:=some (i,ti)) (u:=some (j,tj)) (st:=none) ⟨o,ho,hc,hd⟩ rfl (aaG ⟨xE (abt z _ _) hz,fun t' k=>fin t' k⟩)
end
open PySem.Builtin PySem.Builtin.Str in
theorem iz (z:Str)(a b:Nat)(hab:a<=b)(hb:b<=z.length):(Txt.slice z (some (a:Int)) (some (b:Int))).cps.toList=(z.cps.toList.drop a).take (b - a):=by
 unfold Txt.slice;have e:=StrLaws.sliced_plain z hab hb;split
 ·rename_i h;rw [StrLaws.strSliceIndices_plain hab hb] at h;simp only [xn,zX,yu,xT] at h;have h2:b - a=z.length:=h.2;have ha:a=0:=by lia
  subst ha;have hz:z.cps.toList.length=z.length:=by simp [Str.length]
  rw [yN,yB (by lia)]
 ·rw [e]
def mB (scope outer:Scope):List (Str×NameKind) :=
 scope.names.map fun (n,k)=>if (k == .free && outer.kind == .function && outer.names.lookup n == some .cell) then (n,.cell) else (n,k)
def gg (outer scope:Scope)(N N':List Str)(nl:Nat)(ix:List Nat):Bool :=
 (scope.kind == .function && scope.names.all fun x=>x.2 != .cell && (x.2 != .local || scope.names.lookup x.1 == some .local) && (x.2 != .free || outer.names.lookup x.1 == some .cell)) &&
 (N'.length == nl+ix.length && (List.range ix.length).all fun k=>match ix[k]? with
  | none=>false
  | some j=>match N[j]? with
   | none=>false
   | some x=>N'[nl+k]? == some x && outer.names.lookup x == some .cell && (mB scope outer).lookup x == some .cell && decide ((x,NameKind.free)∈scope.names))
theorem fh {X:Cx}{outer scope:Scope}{N N':List Str}{nl:Nat}{ix:List Nat}(h1:X.env.scope=outer)(h2:X.N=N)(h:gg outer scope N N' nl ix=true):CompScope X scope/\vw X scope N' nl ix:=by
 unfold gg at h;simp only [yu,yW,xT,bne_iff_ne,Bool.or_eq_true,ne_eq,aam] at h;obtain⟨⟨hk,ha⟩,hl,hb⟩:=h;have kd:∀ x,X.env.kindOf x=outer.names.lookup x:=fun x=>by rw [← h1];rfl
 refine⟨⟨hk,fun x hx=>(ha x hx).1.1,fun x hx e=>?_,fun x hx e=>?_⟩,⟨hl,fun k j e=>?_⟩⟩
 ·rcases (ha x hx).1.2 with z | z
  ·exact absurd e z
  ·exact z
 ·rcases (ha x hx).2 with z | z
  ·exact absurd e z
  ·rw [kd];exact z
 ·have hk':k < ix.length:=(xp.mp e).1;have q:=hb k hk';rw [e] at q;simp only at q;cases ex:N[j]? with
  | none=>rw [ex] at q;simp at q
  | some x =>
   rw [ex] at q;simp only [yu,xT,decide_eq_true_eq] at q;obtain⟨⟨⟨q1,q2⟩,q3⟩,q4⟩:=q;refine⟨x,by rw [h2];exact ex,q1,by rw [kd];exact q2,?_,q4⟩;have er:(relabel scope X.env).names=mB scope outer:=by rw [← h1];rfl
   rw [er];exact q3
def Nx (n i:Nat)(p:Prop):Prop:=∃ m',m' < n - i/\m'=n - (i+1)/\i+1<=n/\p
theorem nx {n i:Nat}{p:Prop}(h:i < n)(q:p):Nx n i p:=⟨n - (i+1),by lia,rfl,h,q⟩
def bF (nl:Nat)(ix:List Nat)(g:TG)(tf:TT)(te:TE)(σ:St)(D:Addr)(ys:List V)(H:Hp)(x:V)(nxt:List V->Hp->Prop):Prop :=
 g x (gM nl ix σ) H fun σ4 H4=>(σ4.length=(gM nl ix σ).length/\σ4.drop nl=ix.map fun j=>(σ[j]?).join)/\tf σ4 H4 fun b H5 =>
  if b=true then te σ4 H5 fun y H6=>H6 D=some (.lst ys)/\ys.length < sizeLine/\nxt (ys++[y]) (upd H6 D (.lst (ys++[y]))) else nxt ys H5
def oM (nl:Nat)(ix:List Nat)(g:TG)(tf:TT)(te:TE)(σ:St)(J:It)(H1:Hp)(D:Addr)(Q:VK):Prop :=
 ∃ W:Nat->Nat->List V->Hp->Prop,(∃ m,W 0 m [] (upd H1 D (.lst []))) ∧
 ∀ i m ys H2,W i m ys H2->H2 D=some (.lst ys)/\((J.stop i H2/\Q (.ref D) H2)\/(J.go i H2/\∀ x H3,J.yld i H2 x H3->bF nl ix g tf te σ D ys H3 x fun ys' H'=>∃ m',m' < m/\W (i+1) m' ys' H'))
theorem bE (nl:Nat)(ix:List Nat)(wi:TI)(g:TG)(tf:TT)(te:TE)(σ:St)(H:Hp)(Q:VK)(h:wi σ H fun J H1=>∀ D,H1 D=none->oM nl ix g tf te σ J H1 D Q):gQ nl ix wi g tf te σ H Q:=h
section
variable {nl:Nat}{ix:List Nat}{g:TG}{tf:TT}{te:TE}{σ:St}{H1:Hp}{D:Addr}{Q:VK}(Pv:Nat->List V->Hp->Prop)
theorem qi {J:It}{n:Nat}(h0:Pv 0 [] (upd H1 D (.lst [])))(hD:∀ i ys H,Pv i ys H->H D=some (.lst ys))(go:∀ i ys H,i < n->Pv i ys H->J.go i H)(stop:∀ ys H,Pv n ys H->J.stop n H)
 (hs:∀ i ys H x H',i < n->Pv i ys H->J.yld i H x H'->bF nl ix g tf te σ D ys H' x fun ys' H'=>Nx n i (Pv (i+1) ys' H'))
 (hd:∀ ys H,Pv n ys H->Q (.ref D) H):oM nl ix g tf te σ J H1 D Q:=by
 refine⟨fun i m ys H=>m=n - i/\i<=n/\Pv i ys H,⟨n,by simp,xS _,h0⟩,?_⟩;rintro i m ys H ⟨rfl,hi,p⟩;refine⟨hD i ys H p,?_⟩;by_cases hlt:i < n
 ·exact .inr ⟨go i ys H hlt p,fun x H' y=>hs i ys H x H' hlt p y⟩
 ·have e:i=n:=by lia
  subst e;exact .inl ⟨stop ys H p,hd ys H p⟩
theorem dB {lo:Int}{n:Nat}(h0:Pv 0 [] (upd H1 D (.lst [])))(hD:∀ i ys H,Pv i ys H->H D=some (.lst ys))
 (hs:∀ i ys H,i < n->Pv i ys H->bF nl ix g tf te σ D ys H (.int (lo+i)) fun ys' H'=>Nx n i (Pv (i+1) ys' H'))(hd:∀ ys H,Pv n ys H->Q (.ref D) H):oM nl ix g tf te σ (Itr lo n) H1 D Q:=by
 refine qi (n:=n) Pv h0 hD (fun _ _ _ hi _=>hi) (fun _ _ _=>xx _) (fun i ys H x H' hi p y=>?_) hd;obtain⟨e,y⟩:=y;subst e y;exact hs i ys H' hi p
theorem cD {K:PySem.W.Frag}{a:Addr}{xs:List V}(h0:Pv 0 [] (upd H1 D (.lst [])))(hD:∀ i ys H,Pv i ys H->H D=some (.lst ys))(hl:∀ i ys H,Pv i ys H->SqL K H a xs)
 (hs:∀ i ys H x,xs[i]? = some x->Pv i ys H->bF nl ix g tf te σ D ys H x fun ys' H'=>Nx xs.length i (Pv (i+1) ys' H'))(hd:∀ ys H,Pv xs.length ys H->Q (.ref D) H):oM nl ix g tf te σ (Itl K a) H1 D Q:=by
 refine qi (n:=xs.length) Pv h0 hD (fun i ys H hi p=>⟨xs,xs[i],hl i ys H p,by simp [hi]⟩) (fun ys H p=>⟨xs,hl _ ys H p,xx _⟩) (fun i ys H x H' hi p y=>?_) hd;obtain⟨e,y⟩:=y;subst e;exact hs i ys H' x (y xs (hl i ys H' p)) p
theorem qA {z:Str}(h0:Pv 0 [] (upd H1 D (.lst [])))(hD:∀ i ys H,Pv i ys H->H D=some (.lst ys))
 (hs:∀ i ys H c,z.cps[i]? = some c->Pv i ys H->bF nl ix g tf te σ D ys H (.str ⟨#[c]⟩) fun ys' H'=>Nx z.cps.size i (Pv (i+1) ys' H'))(hd:∀ ys H,Pv z.cps.size ys H->Q (.ref D) H):oM nl ix g tf te σ (ItS z) H1 D Q:=by
 refine qi (n:=z.cps.size) Pv h0 hD (fun _ _ _ hi _=>hi) (fun _ _ _=>rfl) (fun i ys H x H' hi p y=>?_) hd;obtain⟨e,c,ec,ex⟩:=y;subst e ex;exact hs i ys H' c ec p
end
section
variable {X:Cx}{K:PySem.W.Frag}
theorem qW (hK:X.K=K):IxR X (wd K):=by subst hK;exact aM
theorem eI (hK:X.K=K):eW X (.builtin "len") (fun xs H Q=>∃ p ys,xs=[.ref p]/\(SqL K H p ys\/SqT K H p ys)/\Q (.int ys.length) H):=by subst hK;exact aA
theorem lF {pos:Pos}{es:List Expr}{k:Nat}{t:TGs}{n:Nat}(hK:X.K=K)(hc:X.calm=true)(h:PGs X es t)(hn:(assignEach es X.env).length=n:=by rfl)(hst:(assignEach es X.env).findIdx? (·.1)=none:=by rfl):PG X (.Tuple es k pos) (tJ K n t):=by
 subst hK;exact iW hc h hn hst
end
theorem dc {nl:Nat}{ix:List Nat}{te:TE}{σ:St}{D:Addr}{ys:List V}{H:Hp}{x:V}{nxt:List V->Hp->Prop}{i:Nat}(h1:((gM nl ix σ).set i (some x)).drop nl=ix.map fun j=>(σ[j]?).join)
 (h:te ((gM nl ix σ).set i (some x)) H fun y H6=>H6 D=some (.lst ys)/\ys.length < sizeLine/\nxt (ys++[y]) (upd H6 D (.lst (ys++[y])))):bF nl ix (dh i) uD te σ D ys H x nxt:=by
 unfold bF dh uD;dsimp only;rw [if_pos rfl];exact⟨⟨by simp,h1⟩,h⟩
section
variable {X:Cx}
theorem bB:eW X (.builtin "isinstance") (fun xs H Q=>∃ (x:V) (T:String) (t:Value) (b:Bool),xs=[x,.ty T]/\nM X.K H x t/\kitOne X.K t (.type T)=some b/\Q (.bl b) H):=by
 intro pins s σ H xs us Q I r h;obtain⟨x,T,t,b,rfl,ty,e,q⟩:=h;obtain⟨u,v,rfl,rx,ry⟩:=rW r;cases ry;exact pP I rx ty e fun tk=>⟨.bl b,H,I.tok _,rfl,q⟩
theorem dm (K:PySem.W.Frag)(n:String):kitOne K (.type n) (.type n)=some true:=by
 unfold kitOne;rw [if_pos (by simp)]
end
def leS (a b:Str):Prop:=ltCps b.cps.toList a.cps.toList=false
theorem leS_iff {a b:Str}:leS a b↔a.cps.toList<=b.cps.toList:=by
 unfold leS;rw [ltCps_eq];constructor
 ·intro h;exact List.not_lt.mp (of_decide_eq_false h)
 ·intro h;exact xM (List.not_lt.mpr h)
theorem kR {a b:Str}(h1:leS a b)(h2:leS b a):a=b:=by
 have e:=List.le_antisymm (leS_iff.mp h1) (leS_iff.mp h2);cases a;cases b;simp only at e;rw [Str.mk.injEq];exact Array.toList_inj.mp e
theorem qg {a b c:Str}(h1:leS a b)(h2:leS b c):leS a c:=leS_iff.mpr (List.le_trans (leS_iff.mp h1) (leS_iff.mp h2))
theorem iZ:∀ {l:List Str} {p:Str},risingS p l=true->(∀ x∈l,leS p x)/\l.Pairwise leS
 | [],p,_=>⟨(fun x hx=>nomatch hx),List.Pairwise.nil⟩
 | y::r,p,h=>by
  have h':(!ltCps y.cps.toList p.cps.toList && risingS y r)=true:=h;rw [yu,aa7] at h';obtain⟨i1,i2⟩:=iZ h'.2;have py:leS p y:=h'.1;refine⟨fun x hx=>?_,List.Pairwise.cons i1 i2⟩;rcases xA.mp hx with rfl | hx
  ·exact py
  ·exact qg py (i1 x hx)
theorem bt:∀ {l:List Str},sortedS l=true->l.Pairwise leS
 | [],_=>List.Pairwise.nil
 | _::_,h=>let ⟨a,b⟩:=iZ h;List.Pairwise.cons a b
theorem cV:∀ {l1 l2:List Str},l1.Pairwise leS->l2.Pairwise leS->l1.Perm l2->l1=l2
 | [],l2,_,_,p=>(List.nil_perm.mp p).symm▸rfl
 | a::r,[],_,_,p=>absurd p.length_eq (by simp)
 | a::r,b::t,h1,h2,p=>by
  have ab:leS a b:=by
   rcases xA.mp (p.mem_iff.mpr xD:b∈a::r) with e | hb
   ·subst e;exact leS_iff.mpr (List.le_refl _)
   ·exact (zb.mp h1).1 b hb
  have ba:leS b a:=by
   rcases xA.mp (p.mem_iff.mp xD:a∈b::t) with e | ha
   ·subst e;exact leS_iff.mpr (List.le_refl _)
   ·exact (zb.mp h2).1 a ha
  have e:=kR ab ba;subst e;rw [cV (zb.mp h1).2 (zb.mp h2).2 p.cons_inv]
theorem mF {K:PySem.W.Frag}{nl:Nat}{ix:List Nat}{te:TE}{σ:St}{D:Addr}{ys:List V}{H:Hp}{x:V}{nxt:List V->Hp->Prop}{i j:Nat}(a:Addr)(v1 v2:V)(hx:x=.ref a)(hs:SqT K H a [v1,v2])
 (h1:(((gM nl ix σ).set i (some v1)).set j (some v2)).drop nl=ix.map fun j=>(σ[j]?).join)
 (h:te (((gM nl ix σ).set i (some v1)).set j (some v2)) H fun y H6=>H6 D=some (.lst ys)/\ys.length < sizeLine/\nxt (ys++[y]) (upd H6 D (.lst (ys++[y])))) :
 bF nl ix (tJ K 2 (jN (dh i) (jN (dh j) uo))) uD te σ D ys H x nxt:=by
 subst hx;unfold bF tJ jN dh uo uD;dsimp only;refine⟨a,[v1,v2],rfl,hs,rfl,v1,[v2],rfl,v2,[],rfl,rfl,⟨by simp,h1⟩,?_⟩;rw [if_pos rfl];exact h
open PySem.Builtin PySem.Builtin.Str in
theorem u6 (j n:Nat):strSliceIndices none (some (j:Int)) 1 n=strSliceIndices (some ((0:Nat):Int)) (some ((min j n:Nat):Int)) 1 n:=by
 unfold strSliceIndices;have h1:¬ ((j:Int) < 0):=by lia
 have h2:¬ (((min j n:Nat):Int) < 0):=by lia
 have h3:¬ (((0:Nat):Int) < 0):=by lia
 simp only [h1,h2,h3,aay,show ((1:Int) > 0)=True from by simp,aaV];congr 1<;>lia
open PySem.Builtin PySem.Builtin.Str in
theorem qP (i n:Nat):strSliceIndices (some (i:Int)) none 1 n=strSliceIndices (some ((min i n:Nat):Int)) (some ((n:Nat):Int)) 1 n:=by
 unfold strSliceIndices;have h1:¬ ((i:Int) < 0):=by lia
 have h2:¬ (((min i n:Nat):Int) < 0):=by lia
 have h3:¬ (((n:Nat):Int) < 0):=by lia
 simp only [h1,h2,h3,aay,show ((1:Int) > 0)=True from by simp,aaV];congr 1<;>lia
theorem mf (z:Str)(j:Nat):(Txt.slice z none (some (j:Int))).cps.toList=z.cps.toList.take j:=by
 have e:Txt.slice z none (some (j:Int))=Txt.slice z (some ((0:Nat):Int)) (some ((min j z.length:Nat):Int)):=by
  unfold Txt.slice;rw [u6]
 rw [e,iz z 0 (min j z.length) (xS _) (zN _ _),yN,Nat.sub_zero];have hz:z.cps.toList.length=z.length:=by simp [Str.length]
 by_cases h:j<=z.length
 ·rw [zj h]
 ·rw [Nat.min_eq_right (by lia),yB (by lia),yB (by lia)]
theorem nP (z:Str)(i:Nat):(Txt.slice z (some (i:Int)) none).cps.toList=z.cps.toList.drop i:=by
 have e:Txt.slice z (some (i:Int)) none=Txt.slice z (some ((min i z.length:Nat):Int)) (some ((z.length:Nat):Int)):=by
  unfold Txt.slice;rw [qP]
 have hz:z.cps.toList.length=z.length:=by simp [Str.length]
 rw [e,iz z (min i z.length) z.length (zN _ _) (xx _)];by_cases h:i<=z.length
 ·rw [zj h,yB (by rw [yV];lia)]
 ·rw [Nat.min_eq_right (by lia),zU,z7,zm (by lia)]
theorem sC {α:Type}[DecidableEq α]:∀ (n:Nat) (g:Nat->α) (l:List α),(∀ i j,i < n->j < n->g i=g j->i=j)->(∀ i,i < n->g i∈l)->n<=l.length
 | 0,_,_,_,_=>xS _
 | n+1,g,l,inj,mem=>by
  have hm:=mem n (Nat.lt_succ_self n);have ih:=sC n g (l.erase (g n)) (fun i j hi hj e=>inj i j (by lia) (by lia) e) fun i hi=>by
   have ne:g i≠g n:=fun e=>by have:=inj i n (by lia) (by lia) e;lia
   exact (aav ne).mpr (mem i (by lia))
  have hl:=aa8 hm;have hp:0 < l.length:=abl hm;lia
section
variable {M:Model}{A:Around}{E:Value->Shared->Prop}{s:Shared}
end
section
variable {prog:Program}{w:World}{h h':Heap}{a:Addr}{es:Array (Int×Value)}{ep:Nat}{t:SetTable}{ss:List Str}
section
variable {A:Around}{E:Value->Shared->Prop}{s:Shared}
theorem d5 {α:Type}{l:List α}{x:α}{l':List α}(hn:l.Nodup)(hx:x ∉ l)(p:l'.Perm (l++[x])):l'.Nodup:=by
 refine p.nodup_iff.mpr ?_;rw [List.nodup_append];refine⟨hn,by simp,fun a ha b hb e=>?_⟩;rw [xr.mp hb] at e;exact hx (e▸ha)
end
end
section
variable {prog:Program}{w:World}{A:Around}{E:Value->Shared->Prop}{s:Shared}{a I:Addr}{es:Array (Int×Value)}{ep:Nat}{t:SetTable}
end
section
variable {prog:Program}{w:World}{A:Around}{E:Value->Shared->Prop}{s:Shared}{a I T:Addr}{es:Array (Int×Value)}{ep:Nat}{t:SetTable}{ps:List Nat}
end
section
variable {prog:Program}{w:World}{A:Around}{E:Value->Shared->Prop}{s:Shared}{a I T:Addr}{es:Array (Int×Value)}{ep:Nat}{t:SetTable}{ps:List Nat}{i:Nat}
end
end L2
namespace L2
open PySem PySem.Spec PyProof.Rows PySem.W
section
variable {prog:Program}{w:World}{A:Around}{E:Value->Shared->Prop}{s:Shared}{a I T:Addr}{es:Array (Int×Value)}{ep:Nat}{t:SetTable}{ps:List Nat}{i:Nat}
end
end L2
namespace L2
open PySem PySem.Spec PyProof.Rows
section
variable {prog:Program}{w:World}{A:Around}{R:Result->Shared->Prop}{I:Addr}{fp wr:List Addr}{G:Array GenState->Array GenState->Prop}{n:Nat}{P:Nat->Value->Prop}{St:Nat->Shared->Prop}
end
section
variable {prog:Program}{w:World}{A:Around}{E:Value->Shared->Prop}{s:Shared}
end
section
variable {X:Cx}
end
section
variable {prog:Program}{w:World}{A:Around}{R:Result->Shared->Prop}{s:Shared}
end
section
variable {X:Cx}
end
end L2
namespace L2
open PySem PySem.Spec PyProof.Rows PySem.W
section
variable {X:Cx}{pins:List (Addr×Obj)}{σ:St}{H:Hp}{s:Shared}{a:Addr}{o:Obj}{kvs:List (Key×V)}
end
section
variable {X:Cx}{tg:Expr}
end
section
variable {X:Cx}
end
end L2
namespace L2
open PySem PySem.Spec PyProof.Rows
section
variable {nl:Nat}{ix:List Nat}{g:TG}{tf:TT}{tk tv:TE}{σ:St}{H1:Hp}{D:Addr}{Q:VK}(Pv:Nat->List (Key×V)->Hp->Prop)
end
theorem gd {nl:Nat}{ix:List Nat}{te:TE}{tf:TT}{σ:St}{D:Addr}{ys:List V}{H:Hp}{x:V}{nxt:List V->Hp->Prop}{i:Nat}(h1:((gM nl ix σ).set i (some x)).drop nl=ix.map fun j=>(σ[j]?).join)
 (h:tf ((gM nl ix σ).set i (some x)) H fun b H5=>if b=true then te ((gM nl ix σ).set i (some x)) H5 fun y H6=>H6 D=some (.lst ys)/\ys.length < sizeLine/\nxt (ys++[y]) (upd H6 D (.lst (ys++[y]))) else nxt ys H5):bF nl ix (dh i) tf te σ D ys H x nxt:=by
 unfold bF dh;dsimp only;exact⟨⟨by simp,h1⟩,h⟩
def xj (t:TS):TS:=fun D σ H=>∃ N:St->Hp->Prop,(∀ σ' H',N σ' H'->D.nx σ' H')/\t { D with nx:=N } σ H
theorem bu {X:Cx}{st:Stmt}{t:TS}(h:PS X st t):PS X st (xj t):=by
 intro pins s σ H D I hw;obtain⟨N,hN,q⟩:=hw;refine thn (h pins s σ H _ I q) fun f s1 q1=>?_;cases f with
 | next=>obtain⟨σ',H',I',n⟩:=q1;exact⟨σ',H',I',hN _ _ n⟩
 | brk=>exact q1
 | cont=>exact q1
 | ret u=>exact q1
theorem df (a b:Str):(a++b).cps.toList=a.cps.toList++b.cps.toList:=by
 show (a.cps++b.cps).toList=_;simp
theorem gN:∀ ss:List Str,(Txt.join (Str.ofString "") ss).cps.toList=(ss.map (·.cps.toList)).flatten:=by
 intro ss;show (Builtin.Str.glued (PySem.Str.ofString "") ss).cps.toList=_;rw [StrLaws.glued_eq_join];have e0:(Str.ofString "").cps.toList=[]:=by decide
 induction ss with
 | nil=>rfl
 | cons a r ih =>
  cases r with
  | nil=>simp [Str.join]
  | cons b r' =>
   have:Str.join (Str.ofString "") (a::b::r')=a++Str.ofString "" ++ Str.join (Str.ofString "") (b::r'):=rfl;rw [this,df,df,e0,yg,ih];simp
section
variable {X:Cx}{outer scope:Scope}{N N':List Str}{nl:Nat}{ix:List Nat}{tg iter:Expr}{ifs:List Expr}{pos:Pos}{wi:TI}{g:TG}{tf:TT}
theorem og {elt:Expr}{te:TE}(h1:X.env.scope=outer)(h2:X.N=N)(hc:X.calm=true)(hi:PI X tg iter wi)
 (hg:∀ C fp s₀ H₀,PG (X.comp scope N' C fp s₀ H₀) tg g)(hf:∀ C fp s₀ H₀,PIf (X.comp scope N' C fp s₀ H₀) ifs tf)(he:∀ C fp s₀ H₀,PE (X.comp scope N' C fp s₀ H₀) elt te)
 (hck:gg outer scope N N' nl ix=true:=by decide +kernel)(hs:∀ x,foldedSetIterable iter X.env x=pure x:=by intro _;rfl):PE X (.ListComp elt [⟨tg,iter,ifs,0⟩] scope pos) (gQ nl ix wi g tf te) :=
 let ⟨S,Cp⟩:=fh h1 h2 hck
 eM hc S Cp hi hg hf he hs
end
section
variable {X:Cx}{pins:List (Addr×Obj)}{σ:St}{H:Hp}{s:Shared}{h':Heap}
theorem Inv.turnedL {t':Nat}{fp:List Addr}(I:Inv X pins σ H s)(k:∀ b o,b ∉ fp->s.heap.get? b=some o->h'.get? b=some o)(hf:∀ b∈fp,kz X pins H b):Inv X pins σ H { s with heap:=h',toks:=t' }:=by
 have nit:∀ b u,H b=some u->b ∉ fp:=fun b u e z=>by have:=(hf b z).1;rw [e] at this;cases this
 refine I.step (g':=s.gens) (d':=s.drawn) (ch:=fp) (fun b hb=>?_) (fun b o _ _ hc e _=>k b o hc e) (fun b o _ _ hc e _=>⟨o.slots,k b o hc e⟩) (fun _ _ _ _ n=>n)
  (fun b o hc e=>⟨o,k b o hc e⟩) (fun _ _ e=>e) (fun _ _ _ e=>e) (fun b ps e=>⟨#[],by rw [e];simp⟩) (fun m hm=>?_) (fun b u e=>?_) I.bare
 ·obtain⟨f0,f1,f2,f3,f4,f5⟩:=hf b hb;exact⟨f3,f1,f4,f5⟩
 ·obtain⟨o,es,ep,ho,r⟩:=hm;exact⟨o,es,ep,k _ o (fun z=>(hf _ z).2.1 rfl) ho,r⟩
 ·refine (I.hok b u e).stay (fun c v hc q=>k c v ?_ q) (fun _ q=>q) fun _ _ q=>q;rcases hc with z | z
  ·rw [z];exact nit b u e
  ·exact nit c _ z
theorem Inv.turnedNew {t':Nat}{fp:List Addr}{a:Addr}{o:HO}(I:Inv X pins σ H s)(k:∀ b o,b ∉ fp->s.heap.get? b=some o->h'.get? b=some o)(hf:∀ b∈fp,kz X pins H b)(hp:s.heap.objs.size<=a)(new:ObjOk X.prog X.w (upd H a o) h' a o) :
 Inv X pins σ (upd H a o) { s with heap:=h',toks:=t' }:=by
 have ha:H a=none:=I.hok.fresh hp;have nit:∀ b u,H b=some u->b ∉ fp:=fun b u e z=>by have:=(hf b z).1;rw [e] at this;cases this
 have up:∀ {b u},H b=some u->upd H a o b=some u:=fun {b u} e=>by rw [ai (af e ha)];exact e
 refine I.step (g':=s.gens) (d':=s.drawn) (ch:=fp) (fun b hb=>?_) (fun b o _ _ hc e _=>k b o hc e) (fun b o _ _ hc e _=>⟨o.slots,k b o hc e⟩) (fun b ob _ e n=>?_)
  (fun b o hc e=>⟨o,k b o hc e⟩) (fun _ _ e=>up e) (fun _ _ _ e=>up e) (fun b ps e=>⟨#[],by rw [up e];simp⟩) (fun m hm=>?_) (fun b u e=>?_) I.bare
 ·obtain⟨f0,f1,f2,f3,f4,f5⟩:=hf b hb;exact⟨f3,f1,f4,f5⟩
 ·rw [ai (xY (xP (xF e) hp))];exact n
 ·obtain⟨o,es,ep,ho,r⟩:=hm;exact⟨o,es,ep,k _ o (fun z=>(hf _ z).2.1 rfl) ho,r⟩
 ·by_cases hb:b=a
  ·subst hb;rw [ag] at e;cases e;exact new
  ·rw [ai hb] at e;refine (I.hok b u e).stay (fun c v hc q=>k c v ?_ q) (fun _ q=>up q) fun _ _ q=>up q;rcases hc with z | z
   ·rw [z];exact nit b u e
   ·exact nit c _ z
end
def ItE (K:PySem.W.Frag)(a:Addr):It :=
 ⟨fun i H=>∃ xs x,SqL K H a xs/\xs[i]? = some x,fun i H x H'=>∃ T v,x=.ref T/\H T=none/\H'=upd H T (.tup [.int (i:Int),v])/\∀ xs,SqL K H a xs->xs[i]? = some v,fun i H=>∃ xs,SqL K H a xs/\xs.length<=i⟩
theorem qr {P:Program}{w:World}{K:PySem.W.Frag}{es:List Expr}{kk:Nat}{tp:Pos}(a e it:Addr)(hei:e≠it):uY P w K (.Tuple es kk tp) (ItE K a) [e,it] e (fun i h=>(∃ old,IsEnum h e it (i:Int) old)/\h.IsListIter it a i) where
 mem:=by simp
 obj:=fun i h st b hb=>by
  obtain⟨⟨old,he⟩,hi⟩:=st;rcases xA.mp hb with z | hb
  ·rw [z];exact⟨_,he,fun v z=>by cases z⟩
  ·rw [xr.mp hb];obtain⟨o,e,c,d⟩:=hi;exact⟨o,e,fun v z=>by rw [d] at z;cases z⟩
 keep:=fun i h h' st k=>⟨let ⟨old,he⟩:=st.1;⟨old,k e (by simp) _ he⟩,st.2.at fun o e=>k it (by simp) o e⟩
 item:=by
  intro X hP hw hK hc i pins s σ H E I hf st hg;subst hP hw hK;obtain⟨xs,x,hq,hx⟩:=hg;obtain⟨its,rv,p,hz⟩:=I.list hq;obtain⟨u,hu,ru⟩:=rv.get hx;obtain⟨⟨old,he⟩,hit⟩:=st;refine wpAny_pyNext_enum_item he hit p.isList (x:=u) (by simpa using hu) hei fun h' ho hit' hT hsz k=>?_;have hh:∀ b o,b ∉ [e,it]->s.heap.get? b=some o->h'.get? b=some o:=fun b o hb q=>k b o (fun z=>hb (by simp [z])) (fun z=>hb (by simp [z])) q;refine⟨_,rfl,wpAny_letOwnedTupleGo_enum ho fun h2 he2 hs2=>?_⟩;have eT:s.heap.objs.size≠e:=abn (xF he);have hT2:h2.get? s.heap.objs.size=some { cls:=.type "tuple",data:=.seq #[.int i s.toks,u] }:=(hs2.2 _ eT).trans hT;have hh2:∀ b o,b ∉ [e,it]->s.heap.get? b=some o->h2.get? b=some o:=fun b o hb q=>(hs2.2 b (fun z=>hb (by simp [z]))).trans (hh b o hb q);have I2:=I.turnedNew (t':=s.toks+1) (h':=h2) (o:=.tup [.int (i:Int),x]) hh2 hf (xx _) ⟨by show 2<=sizeLine;decide,[.int i s.toks,u],.cons ⟨_,rfl⟩ (.cons ru .nil),_,hT2,rfl,_,rfl⟩;have fr:H s.heap.objs.size=none:=I.fresh;refine⟨.ref s.heap.objs.size,_,I2,rfl,⟨_,x,rfl,fr,rfl,fun ys hy=>by rw [I.list_inj hy hq];exact hx⟩,⟨⟨_,by simpa using he2⟩,hit'.at fun o q=>(hs2.2 it (xZ hei)).trans q⟩,fun b hb=>?_⟩;have hlt:b < s.heap.objs.size:=by
   rcases xA.mp hb with z | hb
   ·rw [z];exact xF he
   ·rw [xr.mp hb];obtain⟨o,q,_⟩:=hit;exact xF q
  rw [ai (xY hlt)];exact (hf b hb).1
 done:=by
  intro X hP hw hK hc i pins s σ H E I hf st hg;subst hP hw hK;obtain⟨xs,hq,hx⟩:=hg;obtain⟨its,rv,p,hz⟩:=I.list hq;obtain⟨⟨old,he⟩,hit⟩:=st;have hl:=rv.length;exact wpAny_pyNext_enum_end (I.ok.hd hc) he hit p.isList (by simp;lia) fun h' eb=>⟨rfl,I.turnedL (t':=s.toks) (fun b o hb q=>eb b o (fun z=>hb (by simp [z])) q) hf⟩
 self:=fun _ _ _ _ _ st h=>let ⟨⟨_,he⟩,_⟩:=st;wpAny_pyIter_enum he h
def vQ (K:PySem.W.Frag)(ta:TA):TI:=fun σ H R=>ta σ H fun vs H1=>∃ a,vs=[.ref a]/\(∃ xs,SqL K H1 a xs)/\R (ItE K a) H1
section
variable {X:Cx}
theorem jf:bootBuiltins "enumerate" = some (.type "enumerate"):=by decide +kernel
theorem oJ {a:Expr}{ta:TA}{p pos:Pos}{es:List Expr}{kk:Nat}{tp:Pos}(hg:Gl X "enumerate")(hm:X.mg "enumerate" = none)(ha:PA X [a] ta)(hs:starEach [a] X.env=[(false,eval a X.env)]:=by rfl):PI X (.Tuple es kk tp) (.Call (.Name "enumerate" p) [a] [] pos) (vQ X.K ta):=by
 intro pins s σ H R I h;refine Call_ (ji I hg hm jf (zi (thn (ha pos pins s σ H _ I h) fun us s1 ⟨vs,H1,I1,r1,q1⟩=>?_) hs rfl));obtain⟨a,e,⟨xs,hq⟩,q⟩:=q1;subst e;obtain⟨u,rfl,ru⟩:=gZ r1;cases ru;obtain⟨its,rv,p,hz⟩:=I1.list hq;refine call_enumerate_list p.isList fun h' he hi hsz k=>?_;have I2:Inv X pins σ H1 { s1 with heap:=h' }:=I1.kept (t':=s1.toks) k;refine wpAny_pyIter_enum he ⟨s1.heap.objs.size+1,[s1.heap.objs.size+1,s1.heap.objs.size],_,ItE X.K a,H1,rfl,I2,qr a _ _ (Nat.succ_ne_self _),⟨⟨_,he⟩,hi⟩,fun b hb=>?_,q⟩;rcases xA.mp hb with z | hb
 ·rw [z];exact I1.fpOk (zT _) (I1.hok.fresh (zT _))
 ·rw [xr.mp hb];exact I1.fpOk (xx _) I1.fresh
end
theorem mX {K:PySem.W.Frag}{a:Addr}{xs:List V}{g:TG}{tb:TS}{D:lg}{σ:St}{H:Hp}(Pv:Nat->St->Hp->Prop)(h0:Pv 0 σ H)(hl:∀ i σ H,i<=xs.length->Pv i σ H->SqL K H a xs)
 (hs:∀ i x σ H T,xs[i]? = some x->Pv i σ H->H T=none->g (.ref T) σ (upd H T (.tup [.int (i:Int),x])) fun σ2 H2=>tb { D with nx:=Pv (i+1),ct:=Pv (i+1),bk:=D.nx } σ2 H2)(hd:∀ σ H,Pv xs.length σ H->D.nx σ H) :
 ∃ W:Nat->Nat->St->Hp->Prop,(∃ m,W 0 m σ H)/\∀ i m σ H,W i m σ H →
  ((ItE K a).stop i H/\D.nx σ H)\/((ItE K a).go i H/\∃ N:St->Hp->Prop,(∀ σ' H',N σ' H'->∃ m',m' < m/\W (i+1) m' σ' H')/\∀ x H',(ItE K a).yld i H x H'->g x σ H' fun σ2 H2=>tb { D with nx:=N,ct:=N,bk:=D.nx } σ2 H2):=by
 refine⟨fun i m σ H=>m=xs.length - i/\i<=xs.length/\Pv i σ H,⟨xs.length,by simp,xS _,h0⟩,?_⟩;rintro i m σ H ⟨rfl,hi,p⟩;have q:=hl i σ H hi p;by_cases hlt:i < xs.length
 ·refine .inr ⟨⟨xs,xs[i],q,by simp [hlt]⟩,Pv (i+1),fun σ' H' p'=>⟨xs.length - (i+1),by lia,rfl,hlt,p'⟩,fun x H' y=>?_⟩;obtain⟨T,v,ex,hT,eH,hv⟩:=y;subst ex eH;exact hs i v σ H T (hv xs q) p hT
 ·have e:i=xs.length:=by lia
  subst e;exact .inl ⟨⟨xs,q,xx _⟩,hd σ H p⟩
section
variable {prog:Program}{w:World}{A:Around}{E:Value->Shared->Prop}{s:Shared}
end
section
variable {X:Cx}
variable {o e:Expr}{es:List Expr}{to:TE}{t:TA}{name:Str}{apos cpos:Pos}{T id:String}{r:V->List V->Hp->VK->Prop}{ty:V->Hp->Prop}
theorem nH:OpR X (binaryOp .Mult) (fun x y H Q=>∃ z n,x=.str z/\y=.int n/\-1000000<=n/\n<=1000/\z.length<=1000/\Q (.str (Txt.mul z n)) H):=by
 intro pins s σ H x y v u Q I rx ry h;obtain⟨z,n,rfl,rfl,h1,h2,h3,q⟩:=h;obtain⟨t,rfl⟩:=rx;obtain⟨t',rfl⟩:=ry;refine SB.mul ⟨by simp;lia,fun a b=>?_,fun a b=>?_⟩ fun t' k=>⟨.str _,H,I.tok _,⟨t',rfl⟩,q⟩
 ·intro c;have:(2 ^ 63 - 1:Int) / n ≥ 1000:=by
   have:(1000:Int) * n<=2 ^ 63 - 1:=by lia
   exact Int.le_ediv_of_mul_le (by lia) this
  lia
 ·unfold Builtin.Str.tooLong;have:z.length * n.toNat<=1000 * 1000:=Nat.mul_le_mul h3 (by lia);have h4:z.length * n.toNat<=sizeLine:=xE this (by decide);simpa using h4
end
section
variable {X:Cx}{K:PySem.W.Frag}{P:Program}{w:World}
theorem oE (hK:X.K=K):OpR X (compareOp .In) (rIn K false):=by subst hK;exact i6
theorem jL (hK:X.K=K):OpR X (compareOp .NotIn) (rIn K true):=by subst hK;exact d9
end
section
variable {X:Cx}
theorem qG {i:Nat}{x:Str}{pos' spos:Pos}{elt tg iter:Expr}{ifs:List Expr}{scope:Scope}{pos:Pos}{N':List Str}{nl:Nat}{ix:List Nat}{wi:TI}{g:TG}{tf:TT}{te:TE}(hN:X.N.Nodup)(hi':X.N[i]? = some x)(hx:Loc X.env.scope x)
 (hc:X.calm=true)(S:CompScope X scope)(Cp:vw X scope N' nl ix)(hi:PI X tg iter wi)
 (hg:∀ C fp s₀ H₀,PG (X.comp scope N' C fp s₀ H₀) tg g)(hf:∀ C fp s₀ H₀,PIf (X.comp scope N' C fp s₀ H₀) ifs tf)(he:∀ C fp s₀ H₀,PE (X.comp scope N' C fp s₀ H₀) elt te)
 (hsw:swapsWith (.ListComp elt [⟨tg,iter,ifs,0⟩] scope pos) (some (.Name x pos')) spos.line X.env=pure true)
 (hs:∀ x,foldedSetIterable iter X.env x=pure x)(hfn:X.fn x=true\/X.env.scope.names.lookup x=some .local):PS X (.Assign [.Name x pos'] (.ListComp elt [⟨tg,iter,ifs,0⟩] scope pos) spos) (qy (gQ nl ix wi g tf te) (dh i)):=by
 intro pins s σ H D I h;rw [exec_Assign_Name_used _ _ _ _ hsw];refine xo (aax (xo ?_));show wpAny _ X.A (do let _ ← comprehension (.ListComp elt [⟨tg,iter,ifs,0⟩] scope pos) scope X.env _ (newList []) false (eval iter X.env) (some (assign (.Name x pos') X.env))) _ _ s;refine xo (za (wpAny_comprehension_free (use:=some (assign (.Name x pos') X.env)) (cl:=lD X.env scope.names []) (Q:=fun _ s'=>∃ σ' H',Inv X pins σ' H' s'/\D.nx σ' H') rfl hs (jq (S.cells I.ok)) S.kind S.loc ?_) (fun _ s' hq=>xC (xC hq)) fun _ _ e=>e);refine thn (hi pins s σ H _ I h) fun v s1 h1=>thn h1 fun itv s2 h2=>?_;obtain⟨it,fp,tn,J,H2,rfl,I2,T,st2,f2,h2⟩:=h2;obtain⟨W,⟨m0,w0⟩,turn⟩:=h2 s2.heap.objs.size I2.fresh;refine aa5 (wpAny_newFunctionEnv S.nocell (by intro y hy;simp at hy) (fun h₁ hns₁ hsb₁=>?_) S.kind);dsimp only at hns₁ hsb₁ ⊢;have fpo:∀ b∈fp,b < s2.heap.objs.size:=fun b hb=>by
  obtain⟨o,e,_⟩:=T.obj 0 _ st2 b hb;exact xF e
 have I3:Inv X pins σ (upd H2 s2.heap.objs.size (.lst [])) { s2 with heap:=s2.heap.push { cls:=.type "list",data:=.seq ([]:List Value).toArray },toks:=s2.toks }:=I2.lnew .nil (xS _);have hD:(upd H2 s2.heap.objs.size (.lst [])) s2.heap.objs.size=some (.lst []):=ag;have f3:∀ b∈fp,kz X pins (upd H2 s2.heap.objs.size (.lst [])) b:=fun b hb=>by
  refine⟨?_,(f2 b hb).2⟩;rw [ai (xY (fpo b hb))];exact (f2 b hb).1
 generalize hS3:s2.heap.push { cls:=.type "list",dict:=none,data:=.seq ([]:List Value).toArray }=g3 at hns₁ hsb₁ I3 ⊢;have sz3:g3.objs.size=s2.heap.objs.size+1:=by rw [← hS3,aaW]
 have fpo3:∀ b∈fp,b < ({ s2 with heap:=g3,toks:=s2.toks }:Shared).heap.objs.size:=fun b hb=>by
  show b < g3.objs.size;rw [sz3];exact aa6 (fpo b hb)
 have old:∀ b o,g3.get? b=some o->h₁.get? b=some o:=fun b o e=>hsb₁.extBut b o (xY (xF e)) (xw _ e);have I4:=m9 (tk:=s2.toks+([]:List (Str×Value)).length) S Cp I3 f3 fpo3 hns₁ old;generalize hX:X.comp scope N' g3.objs.size fp { s2 with heap:=g3,toks:=s2.toks } (upd H2 s2.heap.objs.size (.lst []))=X' at *;have hPr:X'.prog=X.prog:=by rw [← hX];rfl
 have hWr:X'.w=X.w:=by rw [← hX];rfl
 have hKr:X'.K=X.K:=by rw [← hX];rfl
 have hAr:X'.A=X.A:=by rw [← hX];rfl
 have hCa:X'.calm=true:=by rw [← hX];exact hc
 have hXe:X'.xe=fun _ _=>False:=by rw [← hX];rfl
 have hEx:X'.ex=fp:=by rw [← hX];rfl
 have hPn:X'.pn=[]:=by rw [← hX];rfl
 have hLo:X'.env.locals=g3.objs.size:=by rw [← hX];rfl
 have hEn:X'.env=compEnvC scope (lD X.env scope.names []) g3.objs.size X.env:=by rw [← hX];rfl
 have hg':=hg g3.objs.size fp { s2 with heap:=g3,toks:=s2.toks } (upd H2 s2.heap.objs.size (.lst []));have hf':=hf g3.objs.size fp { s2 with heap:=g3,toks:=s2.toks } (upd H2 s2.heap.objs.size (.lst []));have he':=he g3.objs.size fp { s2 with heap:=g3,toks:=s2.toks } (upd H2 s2.heap.objs.size (.lst []));rw [hX] at hg' hf' he';have I4':Inv X' [] (gM nl ix σ) (upd H2 s2.heap.objs.size (.lst [])) { s2 with heap:=h₁,toks:=s2.toks+([]:List (Str×Value)).length }:=I4;have back:∀ {H':Hp} {σ':St} {pins':List (Addr×Obj)} {s':Shared} {h':Heap},Inv X' pins' σ' H' s'->Heap.SameBut g3.objs.size s'.heap h'->Inv X pins σ H' { s' with heap:=h' }:=fun I' sb=>by
  subst hX;exact k4 I3 f3 I' sb
 have stat:∀ {H':Hp},(∀ b∈fp,H' b=none)->∀ b∈fp,kz X' [] H' b:=fun hn b hb=>by
  refine⟨hn b hb,?_,?_,.inl (by rw [hEx];exact hb),?_,fun p hp=>by rw [hPn] at hp;cases hp⟩
  ·rw [hLo];exact xY (fpo3 b hb)
  ·exact I4'.ok.exfs b (by rw [hEx];exact hb)
  ·exact (I4'.ok.exf b (by rw [hEx];exact hb)).2
 have loop:codeAny (model X.prog X.w) X.A (.compLoop (.ListComp elt [⟨tg,iter,ifs,0⟩] scope pos) 0 (.ref it) (.ref s2.heap.objs.size) X'.env)
  (compPost (model X.prog X.w) X.A X.xe (some (assign (.Name x pos') X.env)) (fun _ s'=>∃ σ' H',Inv X pins σ' H' s'/\D.nx σ' H') (.ref s2.heap.objs.size) g3.objs.size) { s2 with heap:=h₁,toks:=s2.toks+([]:List (Str×Value)).length }:=by
  rw [← hPr,← hWr,← hAr];refine jr (fun n s'=>∃ i ys H',Inv X' [] (gM nl ix σ) H' s'/\tn i s'.heap/\(∀ b∈fp,H' b=none)/\W i n ys H') ?_ m0
   ⟨0,[],_,I4',T.keep _ _ _ st2 (fun b hb o e=>old b o (by rw [← hS3];exact xw _ e)),fun b hb=>(f3 b hb).1,w0⟩
  rintro n s5 ⟨i,ys,H5,I5,st5,fr5,w5⟩;obtain⟨hD5,alt⟩:=turn i n ys H5 w5;rcases alt with ⟨stop,qn⟩ | ⟨go,step⟩
  ·rw [hPr,hWr];refine thn (T.done X' hPr hWr hKr hCa i [] s5 _ H5 _ I5 (stat fr5) st5 stop) fun r s6 ⟨hr,I6⟩=>?_;subst hr;obtain⟨m,hn,_⟩:=I6.loc;rw [hLo] at hn;have I7:Inv X pins σ H5 s6:=back I6 (Heap.SameBut.refl _ _);have nC:H5 g3.objs.size=none:=by
    have:=I6.free;rw [hLo] at this;exact this
   have fC:kz X pins H5 g3.objs.size:=I3.fpOk (xx _) nC;show wpAny _ _ (assign (.Name x pos') X.env (.ref s2.heap.objs.size)) _ _ _;refine wpAny_assign_Name (iI I7 hN hi' hx (v:=.ref s2.heap.objs.size) rfl (fun s8 I8 ⟨a8,sb8,ha8⟩=>?_) hfn);have nCa:g3.objs.size≠a8:=by
    rcases ha8 with z | z
    ·rw [z];exact fC.2.1
    ·exact fun q=>fC.2.2.2.2.1 x a8 z q.symm
   refine⟨m,hn.sameBut sb8 nCa,fun h' sb=>⟨_,H5,?_,qn⟩⟩;exact I8.turnedL (t':=s8.toks) (fp:=[g3.objs.size]) (fun b o hb e=>(sb.2 b (fun z=>hb (by rw [z];exact xr.mpr rfl))).trans e) (fun b hb=>by rw [xr.mp hb];exact fC)
  ·have it5:=T.item X' hPr hWr hKr hCa i [] s5 _ H5 (fun _ _=>False) I5 (stat fr5) st5 go;rw [← hPr,← hWr] at it5;refine thn it5 fun r s6 ⟨u,hr,h6⟩=>?_;subst hr;refine thn h6 fun _ s7 ⟨x,H7,I7,r7,y7,st7,fr7⟩=>?_;have I7':=I7.pinned (stat fr7) (T.obj _ _ st7);have g7:=hg' _ s7 _ H7 x u _ I7' r7 (step x H7 y7);rw [hXe] at g7;refine thn g7 fun _ s8 ⟨σ8,H8,I8,⟨hl8,hd8⟩,q8⟩=>?_;have f8:=hf' _ s8 σ8 H8 _ I8 q8;rw [hXe] at f8;refine thn f8 fun ok s9 ⟨H9,I9,q9⟩=>?_;have again:∀ {H10:Hp} {s10:Shared} {ys':List V},Inv X' ([]++jF fp s7.heap) σ8 H10 s10->(∃ m',m' < n/\W (i+1) m' ys' H10)->∃ m,m < n/\∃ i ys H',Inv X' [] (gM nl ix σ) H' s10/\tn i s10.heap/\(∀ b∈fp,H' b=none)/\W i m ys H':=fun {H10 s10 ys'} I10 ⟨m',hm,w'⟩=>by
    refine⟨m',hm,i+1,ys',H10,kx I10.unpinned hl8 hd8,T.keep _ _ _ st7 fun b hb o e=>(I10.pin (b,o) (ye _ (ye _ (cP hb e)))).1,fun b hb=>?_,w'⟩;obtain⟨o,e,d⟩:=T.obj _ _ st7 b hb;exact (I10.pin (b,o) (ye _ (ye _ (cP hb e)))).2.1
   cases ok with
   | false =>
    rw [if_neg xt] at q9 ⊢;exact again I9 q9
   | true =>
    rw [if_pos rfl] at q9 ⊢;have e9:=he' _ s9 σ8 H9 _ I9 q9;rw [hXe] at e9;refine thn e9 fun xv s10 ⟨y,H10,I10,r10,hD10,hz,mw⟩=>?_;have a10:=cE (X:=X') _ s10 σ8 H10 (.ref s2.heap.objs.size) [y] _ [xv] (fun _ H'=>H'=upd H10 s2.heap.objs.size (.lst (ys++[y]))) I10 rfl (.cons r10 .nil) ⟨_,ys,y,rfl,rfl,hD10,hz,rfl⟩;rw [hXe] at a10;refine thn a10 fun _ s11 ⟨_,H11,I11,_,e11⟩=>?_;subst e11;exact again I11 mw
 rw [hEn] at loop;exact codeAny_compStart_list loop (T.self _ 0 _ _ _ (T.keep _ _ _ st2 (fun b hb o e=>old b o (by rw [← hS3];exact xw _ e))) loop)
theorem lB {i:Nat}{x:Str}{pos' spos:Pos}{elt tg iter:Expr}{ifs:List Expr}{outer scope:Scope}{pos:Pos}{N N':List Str}{nl:Nat}{ix:List Nat}{wi:TI}{g:TG}{tf:TT}{te:TE}(hN:X.N.Nodup)(hi':X.N[i]? = some x)(hx:Loc X.env.scope x)
 (h1:X.env.scope=outer)(h2:X.N=N)(hc:X.calm=true)(hi:PI X tg iter wi)
 (hg:∀ C fp s₀ H₀,PG (X.comp scope N' C fp s₀ H₀) tg g)(hf:∀ C fp s₀ H₀,PIf (X.comp scope N' C fp s₀ H₀) ifs tf)(he:∀ C fp s₀ H₀,PE (X.comp scope N' C fp s₀ H₀) elt te)
 (hsw:swapsWith (.ListComp elt [⟨tg,iter,ifs,0⟩] scope pos) (some (.Name x pos')) spos.line X.env=pure true:=by rfl)
 (hck:gg outer scope N N' nl ix=true:=by decide +kernel)(hs:∀ x,foldedSetIterable iter X.env x=pure x:=by intro _;rfl)(hfn:X.fn x=true\/X.env.scope.names.lookup x=some .local:=by first | exact .inl rfl | exact .inr rfl | assumption) :
 PS X (.Assign [.Name x pos'] (.ListComp elt [⟨tg,iter,ifs,0⟩] scope pos) spos) (qy (gQ nl ix wi g tf te) (dh i)) :=
 let ⟨S,Cp⟩:=fh h1 h2 hck
 qG hN hi' hx hc S Cp hi hg hf he hsw hs hfn
end
section
variable {X:Cx}{K:PySem.W.Frag}{P:Program}{w:World}
end
theorem my (k:Str):∀ {ss:List Str},k∈ss->∃ j,ss[j]? = some k/\(∀ m,m < j->ss[m]?≠some k)/\ss.erase k=ss.eraseIdx j
 | a::r,h=>by
  by_cases e:a=k
  ·subst e;exact⟨0,rfl,fun m hm=>absurd hm (abu _),by simp⟩
  ·have hk:k∈r:=(xA.mp h).resolve_left fun z=>e z.symm;obtain⟨j,h1,h2,h3⟩:=my k hk;refine⟨j+1,by simpa using h1,fun m hm=>?_,?_⟩
   ·cases m with
    | zero=>simpa using e
    | succ m=>simpa using h2 m (by lia)
   ·rw [List.erase_cons_tail (by simpa using e),h3]
    rfl
theorem fF {k:Str}:∀ {vs:List Value} {ss:List Str},StrsAre vs ss->∀ j (hj:j < vs.length),isStrOf k vs[j]=true↔ss[j]? = some k
 | _,_,.nil,j,hj=>absurd hj (abu _)
 | _,_,.cons x t r,0,hj=>by simp [isStrOf]
 | _,_,.cons x t r,j+1,hj=>by
  have:=fF (k:=k) r j (by simpa using hj);simpa using this
theorem d6 {α β:Type}(f:α->β):∀ (l:List α) (j:Nat),(l.eraseIdx j).map f=(l.map f).eraseIdx j
 | [],_=>rfl
 | _::_,0=>rfl
 | a::l,j+1=>by
  show f a::(l.eraseIdx j).map f=f a::(l.map f).eraseIdx j;rw [d6 f l j]
section
variable {X:Cx}
def uc:V->List V->Hp->VK->Prop:=fun x vs H Q=>∃ (l:Addr) (ss:List Str) (k:Str),x=.ref l/\vs=[.str k]/\H l=some (.lst (ss.map V.str))/\k∈ss/\Q .non (upd H l (.lst ((ss.erase k).map V.str)))
theorem ko:MtM X "list.remove" uc:=by
 intro pins s σ H x vs v us Q I rx rv h;obtain⟨l,ss,k,rfl,rfl,hH,hk,q⟩:=h;cases rx;obtain⟨u,rfl,t,rfl⟩:=rv.one;obtain⟨z,its,n,r,hl,e⟩:=I.lstM hH;have hi:StrsAre its ss:=cQ r;obtain⟨j,h1,h2,h3⟩:=my k hk;have hjs:j < ss.length:=(xp.mp h1).1;have hlen:its.length=ss.length:=by rw [← hl,xn]
 have hj:j < its.length:=by lia
 refine aa3 F.slot_list_remove ⟨_,e,rfl⟩ F.entry_list_remove (F.args_list_remove_2 _ _)
  (MeetsSeq.list_remove l its.toArray n (.str k t) (isStrOf k) (fun y hy=>eq_isStrOf k t hi y (by simpa using hy)) j (by simpa using hj) (by simpa using (fF hi j hj).mpr h1) (fun m hm hlt=>?_) (by rw [xI];lia)) ⟨e,?_⟩
 ·have hm':m < its.length:=by simpa using hm
  have:=h2 m hlt;rw [← Bool.not_eq_true];intro c;exact this ((fF hi m hm').mp (by simpa using c))
 rw [h3,d6] at q;refine⟨.non,_,I.lset (its':=its.eraseIdx j) hH e ?_ (r.eraseIdx j) ?_,rfl,q⟩
 ·show its.toArray.eraseIdxIfInBounds j=(its.eraseIdx j).toArray;rw [aai]
 ·have:=iX (ss.map V.str) j;lia
def vM (K:PySem.W.Frag)(ta:TE):TE:=fun σ H Q=>ta σ H fun x H1=>∃ k,wC K x H1 k/\Q (.bl (!k)) H1
theorem tS {a:Expr}{ta:TE}{pos:Pos}(ha:PE X a ta):PE X (.UnaryOp .Not a pos) (vM X.K ta):=by
 intro pins s σ H Q I h;refine UnaryOp_ (thn (ha pins s σ H _ I h) fun v s1 ⟨x,H1,I1,r1,k,tr,q1⟩=>?_);exact not_of (thn (uE pins s1 σ H1 x v (fun b H'=>Q (.bl (!b)) H') I1 r1 ⟨k,tr,q1⟩) fun b s2 ⟨H2,I2,q2⟩=>⟨.bl (!b),H2,I2,rfl,q2⟩)
end
section
variable {prog:Program}{w:World}{A:Around}{E:Value->Shared->Prop}
end
section
variable {X:Cx}
end
end L2
namespace TS
open PySem PyProof.Rows
def qx:Bool->Keyed->Array Keyed->Nat->Nat->Nat->StateT SortSt Sem (Option Nat):=sortPriv% PySem.Builtin.gallop
def kk (κ:KeyKind)(p:Keyed):κ.α:=(κ.keyOf p.1).getD κ.dflt
def Va (κ:KeyKind)(p:Keyed):Prop:=∃ a,κ.keyOf p.1=some a
theorem ir {κ:KeyKind}{xs:Array Keyed}{i:Nat}{p:Keyed}(h:xs[i]? = some p):KK κ xs i=kk κ p:=by
 unfold KK kk;rw [h]
section
variable {prog:Program}{w:World}{A:Around}{E:Value->Shared->Prop}{s:Shared}{κ:KeyKind}
theorem vt (hO:κ.OneLt){st:SortSt}{x y:Keyed}{Q:Option Bool->SortSt->Prop}(hk:kindOf st=oneType')(hx:Va κ x)(hy:Va κ y)(h:Q (some (κ.blt (kk κ x) (kk κ y))) st):wpS (model prog w) A E s (lt' x y) Q st:=by
 obtain⟨a,ha⟩:=hx;obtain⟨b,hb⟩:=hy;have ea:kk κ x=a:=by unfold kk;rw [ha];rfl
 have eb:kk κ y=b:=by unfold kk;rw [hb];rfl
 rw [ea,eb] at h;rw [lt'_eq];refine xy (aaH ?_);rw [hk,keyLt'_oneType];exact xy (wpS_lift (wpAny_attempt (hO prog w A _ s x.1 y.1 a b ha hb ⟨rfl,xH h⟩)))
theorem bM {arr:Array Keyed}{i:Nat}{p:Keyed}{st:SortSt}{Q:Keyed->SortSt->Prop}(h:arr[i]? = some p)(q:Q p st):wpS (model prog w) A E s (elem' arr i) Q st:=by
 rw [elem'_eq,h];exact xH q
def bey (κ:KeyKind)(left:Bool)(key:Keyed)(arr:Array Keyed)(base i:Nat):Bool:=if left=true then κ.blt (KK κ arr (base+i)) (kk κ key) else !κ.blt (kk κ key) (KK κ arr (base+i))
theorem rg (hO:κ.OneLt){left:Bool}{key:Keyed}{arr:Array Keyed}{base i:Nat}{st:SortSt}{Q:Option Bool->SortSt->Prop}(hk:kindOf st=oneType')(hkey:Va κ key)(hv:∃ p,arr[base+i]? = some p/\Va κ p)(h:Q (some (bey κ left key arr base i)) st) :
 wpS (model prog w) A E s (elem' arr (base+i) >>= fun x=>if left=true then lt' x key else lt' key x >>= fun l=>pure (l.map fun b=>!b)) Q st:=by
 obtain⟨p,hp,vp⟩:=hv;unfold bey at h;rw [ir hp] at h;refine xy (bM hp ?_);cases left with
 | true =>
  rw [if_pos rfl] at h ⊢;exact vt hO hk vp hkey h
 | false =>
  rw [if_neg xt] at h ⊢;exact xy (vt hO hk hkey vp (xH h))
theorem nY (hO:κ.OneLt){left:Bool}{key:Keyed}{arr:Array Keyed}{base n hint:Nat}{st:SortSt}{Q:Option Nat->SortSt->Prop}(hk:kindOf st=oneType')(hkey:Va κ key)(hv:∀ i,i < n->∃ p,arr[base+i]? = some p/\Va κ p)(hn:hint < n)
 (mono:∀ i j,i<=j->j < n->bey κ left key arr base j=true->bey κ left key arr base i=true)
 (h:∀ k,k<=n->(∀ i,i < k->bey κ left key arr base i=true)->(∀ i,k<=i->i < n->bey κ left key arr base i=false)->Q (some k) st) :
 wpS (model prog w) A E s (qx left key arr base n hint) Q st:=by
 have down:∀ i j,i<=j->j < n->bey κ left key arr base i=false->bey κ left key arr base j=false:=fun i j hij hj e=>by
  cases q:bey κ left key arr base j with
  | false=>rfl
  | true=>rw [mono i j hij hj q] at e;cases e
 refine xy (rg hO hk hkey (hv hint hn) ?_);dsimp -zeta -zetaHave only
 lift_lets
 extract_lets jp
 have hjp:∀ lastofs ofs lo hi,lo<=hi->hi<=n->(∀ i,i < lo->bey κ left key arr base i=true)->(∀ i,hi<=i->i < n->bey κ left key arr base i=false)->wpS (model prog w) A E s (jp () lastofs ofs lo hi) Q st:=by
  intro lastofs ofs lo hi h1 h2 h3 h4;refine xy (zx (yE (I:=fun x c st'=>st'=st/\∃ l r,c=(none,l,r)/\l<=r/\r<=n/\r - l<=n - x/\(∀ i,i < l->bey κ left key arr base i=true)/\(∀ i,r<=i->i < n->bey κ left key arr base i=false))
   (Q:=fun c st'=>st'=st/\∃ l r,c=(none,l,r)/\r<=n/\(∀ i,i < r->bey κ left key arr base i=true)/\(∀ i,r<=i->i < n->bey κ left key arr base i=false)) ?_ ?_ ⟨rfl,lo,hi,rfl,h1,h2,by lia,h3,h4⟩) ?_)
  ·rintro x c st' _ hx ⟨rfl,l,r,rfl,g1,g2,g3,g4,g5⟩;dsimp only;by_cases hge:l ≥ r
   ·rw [if_pos hge];have e:l=r:=by lia
    subst e;exact xH ⟨rfl,l,l,rfl,g2,g4,g5⟩
   ·rw [if_neg hge];refine xy (rg hO hk hkey (hv _ (by lia)) ?_);dsimp only;cases q:bey κ left key arr base (l+(r - l) / 2) with
    | true =>
     rw [if_pos rfl];exact xH ⟨rfl,_,r,rfl,by lia,g2,by lia,fun i hi=>mono i _ (by lia) (by lia) q,g5⟩
    | false =>
     rw [if_neg xt];exact xH ⟨rfl,l,_,rfl,by lia,by lia,by lia,g4,fun i hi hin=>down _ i hi hin q⟩
  ·rintro c st' ⟨rfl,l,r,rfl,g1,g2,g3,g4,g5⟩;have e:l=r:=by lia
   subst e;exact⟨rfl,l,l,rfl,g2,g4,g5⟩
  ·rintro c st' ⟨rfl,l,r,rfl,g2,g4,g5⟩;exact xH (h r g2 g4 g5)
 clear_value jp
 cases q0:bey κ left key arr base hint with
 | true =>
  rw [if_pos rfl];refine xy (zx (yE (I:=fun x c st'=>st'=st/\∃ lf of,c=(none,lf,of)/\x+1<=of/\lf < of/\hint+lf < n/\bey κ left key arr base (hint+lf)=true)
   (Q:=fun c st'=>st'=st/\∃ lf of,c=(none,lf,of)/\lf < of/\hint+lf < n/\bey κ left key arr base (hint+lf)=true/\(n - hint<=of\/bey κ left key arr base (hint+of)=false)) ?_ ?_ ⟨rfl,0,1,rfl,by lia,by lia,by lia,q0⟩) ?_)
  ·rintro x c st' _ hx ⟨rfl,lf,of,rfl,g1,g2,g3,g4⟩;dsimp only;by_cases hge:of ≥ n - hint
   ·rw [if_pos hge];exact xH ⟨rfl,lf,of,rfl,g2,g3,g4,.inl hge⟩
   ·rw [if_neg hge];refine xy (rg hO hk hkey (hv _ (by lia)) ?_);dsimp only;cases q:bey κ left key arr base (hint+of) with
    | true =>
     rw [if_neg (by simp)];exact xH ⟨rfl,of,_,rfl,by lia,by lia,by lia,q⟩
    | false =>
     rw [if_pos (show (!false)=true from rfl)];exact xH ⟨rfl,lf,of,rfl,g2,g3,g4,.inr q⟩
  ·rintro c st' ⟨rfl,lf,of,rfl,g1,g2,g3,g4⟩;exact⟨rfl,lf,of,rfl,g2,g3,g4,.inl (by lia)⟩
  ·rintro c st' ⟨rfl,lf,of,rfl,g2,g3,g4,g5⟩;dsimp only;refine hjp _ _ _ _ (by lia) (by lia) (fun i hi=>mono i (hint+lf) (by lia) g3 g4) (fun i hi hin=>?_);rcases g5 with g5 | g5
   ·lia
   ·exact down (hint+of) i (by lia) hin g5
 | false =>
  rw [if_neg xt];refine xy (zx (yE (I:=fun x c st'=>st'=st/\∃ lf of,c=(none,lf,of)/\x+1<=of/\lf < of/\lf<=hint/\bey κ left key arr base (hint - lf)=false)
   (Q:=fun c st'=>st'=st/\∃ lf of,c=(none,lf,of)/\lf < of/\lf<=hint/\bey κ left key arr base (hint - lf)=false/\(hint+1<=of\/bey κ left key arr base (hint - of)=true)) ?_ ?_ ⟨rfl,0,1,rfl,by lia,by lia,by lia,q0⟩) ?_)
  ·rintro x c st' _ hx ⟨rfl,lf,of,rfl,g1,g2,g3,g4⟩;dsimp only;by_cases hge:of ≥ hint+1
   ·rw [if_pos hge];exact xH ⟨rfl,lf,of,rfl,g2,g3,g4,.inl hge⟩
   ·rw [if_neg hge];refine xy (rg hO hk hkey (hv _ (by lia)) ?_);dsimp only;cases q:bey κ left key arr base (hint - of) with
    | true =>
     rw [if_pos rfl];exact xH ⟨rfl,lf,of,rfl,g2,g3,g4,.inr q⟩
    | false =>
     rw [if_neg xt];exact xH ⟨rfl,of,_,rfl,by lia,by lia,by lia,q⟩
  ·rintro c st' ⟨rfl,lf,of,rfl,g1,g2,g3,g4⟩;exact⟨rfl,lf,of,rfl,g2,g3,g4,.inl (by lia)⟩
  ·rintro c st' ⟨rfl,lf,of,rfl,g2,g3,g4,g5⟩;dsimp only;refine hjp _ _ _ _ (by lia) (by lia) (fun i hi=>?_) (fun i hi hin=>down (hint - lf) i (by lia) hin g4);rcases g5 with g5 | g5
   ·lia
   ·exact mono i (hint - of) (by lia) (by lia) g5
end
def rJ:Array Keyed->Array Keyed->StateT SortSt Sem (Array Keyed):=sortPriv% PySem.Builtin.mergeLo
def qz:Array Keyed->Array Keyed->StateT SortSt Sem (Array Keyed):=sortPriv% PySem.Builtin.mergeHi
def le (κ:KeyKind)(x y:Keyed):Prop:=κ.kle (kk κ x) (kk κ y)
def lt (κ:KeyKind)(x y:Keyed):Prop:=κ.klt (kk κ x) (kk κ y)
def SL (κ:KeyKind)(l:List Keyed):Prop:=l.Pairwise (le κ)
section
variable {κ:KeyKind}
theorem le_trans {x y z:Keyed}(a:le κ x y)(b:le κ y z):le κ x z:=zO a b
theorem le_of_lt {x y:Keyed}(a:lt κ x y):le κ x y:=zY a
theorem le_refl (x:Keyed):le κ x x:=zG _
structure Mg (κ:KeyKind)(LL o A B:List Keyed):Prop where
 perm:(o++(A++B)).Perm LL
 sa:SL κ (o++A)
 sb:SL κ (o++B)
def jh (κ:KeyKind)(LL m:List Keyed):Prop:=m.Perm LL/\SL κ m
theorem Mg.a {LL o c A B:List Keyed}(h:Mg κ LL o (c++A) B)(hc:∀ x∈c,∀ y∈B,le κ x y):Mg κ LL (o++c) A B:=by
 refine⟨?_,?_,?_⟩
 ·have:=h.perm;rw [xB] at this;rw [xB];exact this
 ·rw [xB];exact h.sa
 ·have s1:=h.sa;have s2:=h.sb;unfold SL at *;rw [← xB] at s1;rw [yw] at s1 s2 ⊢;refine⟨s1.1,s2.2.1,fun x hx y hy=>?_⟩;rcases xG.mp hx with hx | hx
  ·exact s2.2.2 x hx y hy
  ·exact hc x hx y hy
theorem Mg.b {LL o c A B:List Keyed}(h:Mg κ LL o A (c++B))(hc:∀ y∈c,∀ x∈A,le κ y x):Mg κ LL (o++c) A B:=by
 refine⟨?_,?_,?_⟩
 ·refine List.Perm.trans ?_ h.perm;rw [xB];refine zy o ?_;rw [← xB,← xB];exact zo B zV
 ·have s1:=h.sa;have s2:=h.sb;unfold SL at *;rw [← xB] at s2;rw [yw] at s1 s2 ⊢;refine⟨s2.1,s1.2.1,fun x hx y hy=>?_⟩;rcases xG.mp hx with hx | hx
  ·exact s1.2.2 x hx y hy
  ·exact hc x hx y hy
 ·rw [xB];exact h.sb
theorem Mg.endA {LL o A:List Keyed}(h:Mg κ LL o A []):jh κ LL (o++A):=⟨by have:=h.perm;rwa [yg] at this,h.sa⟩
theorem Mg.endB {LL o B:List Keyed}(h:Mg κ LL o [] B):jh κ LL (o++B):=⟨h.perm,h.sb⟩
theorem Mg.last {LL o B:List Keyed}{z:Keyed}(h:Mg κ LL o [z] B)(hz:∀ y∈B,le κ y z):jh κ LL (o++B++[z]):=by
 refine⟨?_,?_⟩
 ·refine List.Perm.trans ?_ h.perm;rw [xB];exact zy o zV
 ·have s1:=h.sa;have s2:=h.sb;unfold SL at *;rw [yw] at s1 ⊢;refine⟨s2,s1.2.1,fun x hx y hy=>?_⟩;rcases xG.mp hx with hx | hx
  ·exact s1.2.2 x hx y hy
  ·rw [xr.mp hy];exact hz x hx
theorem SL.at {l:List Keyed}(h:SL κ l){i j:Nat}{x y:Keyed}(hij:i<=j)(hx:l[i]? = some x)(hy:l[j]? = some y):le κ x y:=by
 obtain⟨hi,ex⟩:=xp.mp hx;obtain⟨hj,ey⟩:=xp.mp hy;rcases Nat.lt_or_eq_of_le hij with q | q
 ·rw [← ex,← ey];exact y3.mp h i j hi hj q
 ·subst q;rw [← ex,← ey];exact le_refl _
theorem SL.head {l:List Keyed}{x:Keyed}(h:SL κ (x::l)):∀ y∈x::l,le κ x y:=fun y hy=>by
 rcases xA.mp hy with e | e
 ·rw [e];exact le_refl _
 ·exact (zb.mp h).1 y e
theorem SL.drop {l:List Keyed}(h:SL κ l)(n:Nat):SL κ (l.drop n):=abv (List.drop_sublist _ _) h
theorem SL.take {l:List Keyed}(h:SL κ l)(n:Nat):SL κ (l.take n):=abv (aa2 _ _) h
end
section
variable {prog:Program}{w:World}{A:Around}{E:Value->Shared->Prop}{s:Shared}{κ:KeyKind}
theorem cU (hO:κ.OneLt){left:Bool}{key:Keyed}{arr:Array Keyed}{base n hint:Nat}{st:SortSt}{Q:Option Nat->SortSt->Prop}(hk:kindOf st=oneType')(hkey:Va κ key)(hb:base+n<=arr.size)(va:∀ p∈(arr.toList.drop base).take n,Va κ p)(so:SL κ ((arr.toList.drop base).take n))(hn:hint < n)
 (h:∀ k,k<=n->(∀ x∈((arr.toList.drop base).take n).take k,if left=true then lt κ x key else le κ x key)->(∀ x∈((arr.toList.drop base).take n).drop k,if left=true then le κ key x else lt κ key x)->Q (some k) st) :
 wpS (model prog w) A E s (qx left key arr base n hint) Q st:=by
 have at_:∀ i,i < n->∃ p,arr[base+i]? = some p/\((arr.toList.drop base).take n)[i]? = some p:=fun i hi=>by
  refine⟨arr[base+i],getElem?_pos _ _ (by lia),?_⟩;rw [zF hi,List.getElem?_drop];simp
 have len:((arr.toList.drop base).take n).length=n:=by
  rw [xN,yV,xJ];lia
 generalize (arr.toList.drop base).take n=S at va so h at_ len;refine nY hO hk hkey (fun i hi=>?_) hn (fun i j hij hj e=>?_) fun k hkn h1 h2=>h k hkn (fun x hx=>?_) (fun x hx=>?_)
 ·obtain⟨p,e1,e2⟩:=at_ i hi;exact⟨p,e1,va p (xV e2)⟩
 ·obtain⟨p,e1,e2⟩:=at_ i (by lia);obtain⟨q,e3,e4⟩:=at_ j hj;have hle:=so.at hij e2 e4;unfold bey at e ⊢;rw [ir e1];rw [ir e3] at e;cases left with
  | true =>
   rw [if_pos rfl] at e ⊢;exact KeyOrd.klt_of_kle_of_klt hle e
  | false =>
   rw [if_neg xt] at e ⊢;have e':κ.blt (kk κ key) (kk κ q)=false:=by simpa using e
   have this:κ.blt (kk κ key) (kk κ p)=false:=zO hle e';rw [this]
   rfl
 ·obtain⟨i,hi,ex⟩:=zc.mp hx;rw [xN] at hi;rw [aaj] at ex;obtain⟨p,e1,e2⟩:=at_ i (by lia);have q:=h1 i (by lia);rw [xm (by lia)] at e2;rw [ex] at e2;cases e2;unfold bey at q;rw [ir e1] at q;cases left with
  | true=>exact q
  | false =>
   rw [if_neg xt] at q ⊢;show κ.blt (kk κ key) (kk κ x)=false;simpa using q
 ·obtain⟨i,hi,ex⟩:=zc.mp hx;rw [yV] at hi;rw [aa9] at ex;obtain⟨p,e1,e2⟩:=at_ (k+i) (by lia);have q:=h2 (k+i) (by lia) (by lia);rw [xm (by lia)] at e2;rw [ex] at e2;cases e2;unfold bey at q;rw [ir e1] at q;cases left with
  | true=>exact q
  | false =>
   rw [if_neg xt] at q ⊢;show κ.blt (kk κ key) (kk κ x)=true;simpa using q
end
def Eqv (st st':SortSt):Prop:=kindOf st'=kindOf st/\arrOf st'=arrOf st/\pendingOf st'=pendingOf st/\failedOf st'=failedOf st
theorem Eqv.refl (st:SortSt):Eqv st st:=⟨rfl,rfl,rfl,rfl⟩
def vS:Nat->StateT SortSt Sem Unit:=sortPriv% PySem.Builtin.setMinGallop
theorem mV {prog:Program}{w:World}{A:Around}{E:Value->Shared->Prop}{s:Shared}{g:Nat}{st0 st:SortSt}{Q:Unit->SortSt->Prop}(e:Eqv st0 st)(h:∀ st',Eqv st0 st'->Q () st'):wpS (model prog w) A E s (vS g) Q st :=
 zP (h _ e)
theorem bj {a:Array Keyed}{i:Nat}{x:Keyed}(h:a[i]? = some x):a.toList.drop i=[x]++a.toList.drop (i+1):=by
 obtain⟨hi,e⟩:=yj.mp h;rw [zA (by simpa using hi)];simp [e]
theorem gr (o:Array Keyed)(x:Keyed):(o.push x).toList=o.toList++[x]:=by simp
theorem mG (o a:Array Keyed)(i k:Nat):(o++a.extract i (i+k)).toList=o.toList++(a.toList.drop i).take k:=by
 simp [zd,yO]
theorem eQ (o a:Array Keyed)(i:Nat):(o++a.extract i a.size).toList=o.toList++a.toList.drop i:=by
 simp only [Array.toList_append,zd,yO];rw [yB (by simp)]
section
variable {κ:KeyKind}{LL:List Keyed}{a b out:Array Keyed}{ia ib:Nat}
theorem qN (M:Mg κ LL out.toList (a.toList.drop ia) (b.toList.drop ib))(c:ib=b.size):jh κ LL (out++a.extract ia a.size++b.extract ib b.size).toList:=by
 rw [eQ,eQ];have e:b.toList.drop ib=[]:=zm (by rw [xJ];lia);rw [e] at M ⊢;rw [yg];exact M.endA
theorem vC (M:Mg κ LL out.toList (a.toList.drop ia) (b.toList.drop ib))(c:ia=a.size):jh κ LL (out++a.extract ia a.size++b.extract ib b.size).toList:=by
 rw [eQ,eQ];have e:a.toList.drop ia=[]:=zm (by rw [xJ];lia);rw [e] at M ⊢;rw [yg];exact M.endB
theorem rz (M:Mg κ LL out.toList (a.toList.drop ia) (b.toList.drop ib))(c:ia+1=a.size)(P2:∀ y∈b.toList,∀ z∈a.toList.drop (a.size - 1),le κ y z):jh κ LL (out++b.extract ib b.size++a.extract ia a.size).toList:=by
 rw [eQ,eQ];have hp:a[ia]? = some a[ia]:=getElem?_pos _ _ (by lia);have e:a.toList.drop ia=[a[ia]]:=by
  rw [bj hp,zm (by rw [xJ];lia),yg]
 rw [e] at M ⊢;refine M.last fun y hy=>P2 y (yK hy) _ ?_;rw [show a.size - 1=ia by lia,e];exact xr.mpr rfl
theorem eO (x:Array Keyed)(i:Nat):(x.toList.drop i).take (x.size - i)=x.toList.drop i:=yB (by rw [yV,xJ];lia)
theorem kF (x:Array Keyed)(i k:Nat):x.toList.drop i=(x.toList.drop i).take k++x.toList.drop (i+k):=by
 have:=(yt k (x.toList.drop i)).symm
 rwa [z8] at this
theorem cp {x:Array Keyed}{i:Nat}(h:i < x.size):∃ p,x[i]? = some p/\p∈x.toList:=⟨x[i],getElem?_pos x i h,by simp⟩
end
section
variable {prog:Program}{w:World}{A:Around}{E:Value->Shared->Prop}{s:Shared}{κ:KeyKind}
theorem ifp {M:Model}{σ α:Type}{c:Prop}[Decidable c]{m1 m2:StateT σ Sem α}{Q:α->σ->Prop}{st:σ}(hc:c)(h:wpS M A E s m1 Q st):wpS M A E s (if c then m1 else m2) Q st:=by
 rw [if_pos hc];exact h
theorem ifn {M:Model}{σ α:Type}{c:Prop}[Decidable c]{m1 m2:StateT σ Sem α}{Q:α->σ->Prop}{st:σ}(hc:¬ c)(h:wpS M A E s m2 Q st):wpS M A E s (if c then m1 else m2) Q st:=by
 rw [if_neg hc];exact h
theorem ifs {M:Model}{σ α:Type}{c:Prop}[Decidable c]{m1 m2:StateT σ Sem α}{Q:α->σ->Prop}{st:σ}(h1:c->wpS M A E s m1 Q st)(h2:¬ c->wpS M A E s m2 Q st):wpS M A E s (if c then m1 else m2) Q st:=by
 by_cases hc:c
 ·exact ifp hc (h1 hc)
 ·exact ifn hc (h2 hc)
theorem qB {M:Model}{σ α β γ:Type}{jp:Unit->β->γ->StateT σ Sem α}{m:StateT σ Sem α}{Q:α->σ->Prop}{st:σ}(R:β->γ->Prop)(h1:∀ x y,R x y->wpS M A E s (jp () x y) Q st)(h2:(∀ x y,R x y->wpS M A E s (jp () x y) Q st)->wpS M A E s m Q st):wpS M A E s m Q st:=h2 h1
theorem ifj {M:Model}{σ α β:Type}{c:Prop}[Decidable c]{jp:Unit->β->StateT σ Sem α}{x y:β}{Q:α->σ->Prop}{st:σ}(h:∀ g,wpS M A E s (jp () g) Q st):wpS M A E s (if c then jp () x else jp () y) Q st:=ifs (fun _=>h x) (fun _=>h y)
theorem lC (hO:κ.OneLt){a b:Array Keyed}{st:SortSt}{Q:Array Keyed->SortSt->Prop}(hk:kindOf st=oneType')(va:∀ p∈a.toList,Va κ p)(vb:∀ p∈b.toList,Va κ p)(ha:1<=a.size)(hb:1<=b.size)(sa:SL κ a.toList)(sb:SL κ b.toList)
 (P1:∀ y∈b.toList.take 1,∀ x∈a.toList,le κ y x)(P2:∀ y∈b.toList,∀ z∈a.toList.drop (a.size - 1),le κ y z)
 (h:∀ m st',Eqv st st'->jh κ (a.toList++b.toList) m.toList->Q m st'):wpS (model prog w) A E s (rJ a b) Q st:=by
 have hL:∃ LL,LL=a.toList++b.toList:=⟨_,rfl⟩;obtain⟨LL,eL⟩:=hL;rw [← eL] at h;obtain⟨b0,hb0,mb0⟩:=cp (x:=b) (i:=0) (by lia);have M0:Mg κ LL [] a.toList b.toList:=⟨by rw [eL];exact abM _,sa,sb⟩;have M1:Mg κ LL (#[b0]:Array Keyed).toList (a.toList.drop 0) (b.toList.drop 1):=by
  have e:b.toList=[b0]++b.toList.drop 1:=by
   have:=bj hb0
   rwa [yN] at this
  have M0':=M0;rw [e] at M0';rw [yN];refine Mg.b M0' fun y hy x hx=>P1 y ?_ x hx;rw [e];rw [xr.mp hy];simp
 refine xy (wpS_lift (aaE ⟨rfl,?_⟩));refine xy (bM hb0 ?_);by_cases c1:1=b.size
 ·rw [if_pos (by simpa using c1)];exact xH (h _ _ (Eqv.refl _) (qN M1 c1))
 rw [if_neg (by simpa using c1)];by_cases c2:0+1=a.size
 ·rw [if_pos (by simpa using c2)];exact xH (h _ _ (Eqv.refl _) (rz M1 c2 P2))
 rw [if_neg (by simpa using c2)];refine xy (aaH ?_);refine xy (zx (yE (I:=fun x c st'=>Eqv st st'/\∃ out ia ib mg,c=(none,out,ia,ib,mg)/\Mg κ LL out.toList (a.toList.drop ia) (b.toList.drop ib)/\ia+1 < a.size/\ib < b.size/\x+1<=ia+ib)
  (Q:=fun c st'=>Eqv st st'/\∃ m r,c=(some m,r)/\jh κ LL m.toList) ?_ ?_ ⟨Eqv.refl _,_,_,_,_,rfl,M1,by lia,by lia,by lia⟩) ?_)
 rotate_left
 ·rintro c st' ⟨ev,out,ia,ib,mg,rfl,M,hia,hib,hpr⟩;lia
 ·rintro c st' ⟨ev,m,r,rfl,g⟩;exact xH (h _ _ ev g)
 rintro x c st1 _ hx ⟨ev1,out,ia,ib,mg,rfl,M,hia,hib,hpr⟩;refine xy (zx (yE (I:=fun y c st2=>Eqv st st2/\∃ out' ia' ib' ac bc,c=(none,out',ia',ib',ac,bc)/\Mg κ LL out'.toList (a.toList.drop ia') (b.toList.drop ib')/\ia'+1 < a.size/\ib' < b.size/\ia+ib+y<=ia'+ib')
  (Q:=fun c st2=>Eqv st st2/\((∃ m r,c=(some m,r)/\jh κ LL m.toList)\/∃ out' ia' ib' ac bc,c=(none,out',ia',ib',ac,bc)/\Mg κ LL out'.toList (a.toList.drop ia') (b.toList.drop ib')/\ia'+1 < a.size/\ib' < b.size/\ia+ib+1<=ia'+ib')) ?_ ?_ ⟨ev1,out,ia,ib,_,_,rfl,M,hia,hib,xx _⟩) ?_)
 ·rintro y c st2 _ hy ⟨ev2,out',ia',ib',ac,bc,rfl,M',hia',hib',hpr'⟩;obtain⟨q,hq,mq⟩:=cp hib';obtain⟨p,hp,mp⟩:=cp (x:=a) (i:=ia') (by lia);have sB:=sb.drop ib';have sA:=sa.drop ia';rw [bj hq] at sB;rw [bj hp] at sA;refine xy (bM hq (xy (bM hp (xy (vt hO (ev2.1.trans hk) (vb q mq) (va p mp) ?_)))));cases hw:κ.blt (kk κ q) (kk κ p) with
  | true =>
   refine ifp rfl ?_;refine xy (bM hq ?_);have M2:Mg κ LL (out'.push q).toList (a.toList.drop ia') (b.toList.drop (ib'+1)):=by
    rw [gr];refine Mg.b (by rw [← bj hq];exact M') fun y hy x hx=>?_;rw [xr.mp hy];rw [bj hp] at hx;exact le_trans (le_of_lt hw) (sA.head x hx)
   by_cases c:ib'+1=b.size
   ·refine ifp (xT.mpr c) ?_;exact xH ⟨ev2,.inl ⟨_,_,rfl,qN M2 c⟩⟩
   refine ifn (fun z=>c (xT.mp z)) ?_;refine ifs (fun _=>?_) (fun _=>?_)
   ·exact xH ⟨ev2,.inr ⟨_,ia',ib'+1,_,_,rfl,M2,hia',by lia,by lia⟩⟩
   ·exact xH ⟨ev2,_,ia',ib'+1,_,_,rfl,M2,hia',by lia,by lia⟩
  | false =>
   refine ifn xt ?_;refine xy (bM hp ?_);have M2:Mg κ LL (out'.push p).toList (a.toList.drop (ia'+1)) (b.toList.drop ib'):=by
    rw [gr];refine Mg.a (by rw [← bj hp];exact M') fun y hy x hx=>?_;rw [xr.mp hy];rw [bj hq] at hx;exact le_trans (show le κ p q from hw) (sB.head x hx)
   by_cases c:ia'+1+1=a.size
   ·refine ifp (xT.mpr c) ?_;exact xH ⟨ev2,.inl ⟨_,_,rfl,rz M2 c P2⟩⟩
   refine ifn (fun z=>c (xT.mp z)) ?_;refine ifs (fun _=>?_) (fun _=>?_)
   ·exact xH ⟨ev2,.inr ⟨_,ia'+1,ib',_,_,rfl,M2,by lia,by lia,by lia⟩⟩
   ·exact xH ⟨ev2,_,ia'+1,ib',_,_,rfl,M2,by lia,by lia,by lia⟩
 ·rintro c st2 ⟨ev2,out',ia',ib',ac,bc,rfl,M',hia',hib',hpr'⟩;exact⟨ev2,.inr ⟨_,_,_,_,_,rfl,M',hia',hib',by lia⟩⟩
 rintro c st2 ⟨ev2,hc⟩;rcases hc with ⟨m,r,rfl,g⟩ | ⟨out1,ia1,ib1,ac1,bc1,rfl,N1,hia1,hib1,hpr1⟩
 ·exact xH ⟨ev2,m,_,rfl,g⟩
 refine xy (wpS_lift (aaE ⟨rfl,?_⟩));refine xy (zx (yE (I:=fun y c st3=>Eqv st st3/\∃ out' ia' ib' mg' ac bc,c=(none,out',ia',ib',mg',ac,bc)/\Mg κ LL out'.toList (a.toList.drop ia') (b.toList.drop ib')/\ia'+1 < a.size/\ib' < b.size/\ia1+ib1<=ia'+ib')
  (Q:=fun c st3=>Eqv st st3/\((∃ m r,c=(some m,r)/\jh κ LL m.toList)\/∃ out' ia' ib' mg' ac bc,c=(none,out',ia',ib',mg',ac,bc)/\Mg κ LL out'.toList (a.toList.drop ia') (b.toList.drop ib')/\ia'+1 < a.size/\ib' < b.size/\ia1+ib1<=ia'+ib')) ?_ ?_ ⟨ev2,out1,ia1,ib1,_,ac1,bc1,rfl,N1,hia1,hib1,xx _⟩) ?_)
 rotate_left
 ·rintro c st3 ⟨ev3,out',ia',ib',mg',ac,bc,rfl,M',hia',hib',hpr'⟩;exact⟨ev3,.inr ⟨_,_,_,_,_,_,rfl,M',hia',hib',by lia⟩⟩
 ·rintro c st3 ⟨ev3,hc⟩;rcases hc with ⟨m,r,rfl,g⟩ | ⟨out2,ia2,ib2,mg2,ac2,bc2,rfl,N2,hia2,hib2,hpr2⟩
  ·exact xH ⟨ev3,m,_,rfl,g⟩
  refine xy (mV ev3 fun st4 ev4=>?_);exact xH ⟨ev4,_,ia2,ib2,_,rfl,N2,hia2,hib2,by lia⟩
 rintro y c st3 _ hy ⟨ev3,out2,ia2,ib2,mg2,ac2,bc2,rfl,M',hia',hib',hpr'⟩;obtain⟨q,hq,mq⟩:=cp hib';have sB:=sb.drop ib2;rw [bj hq] at sB;dsimp -zeta -zetaHave only
 lift_lets
 extract_lets s1 v1 s2 v2 s3 v3 s4 v4 s5 v5 v6 v7 jp
 refine ifj (jp:=jp) (fun g=>?_)
 ·refine xy (mV ev3 fun st4 ev4=>?_);refine xy (bM hq (xy (cU (left:=false) (key:=q) (arr:=a) (base:=ia2) (n:=a.size - ia2) (hint:=0) hO (ev4.1.trans hk) (vb q mq) (by lia) (by rw [eO];exact fun p hp=>va p (yK hp)) (by rw [eO];exact sa.drop _) (by lia) fun k hkn g1 g2=>?_)));rw [eO] at g1 g2;rw [z8] at g2;simp only [zw,aay] at g1 g2;dsimp -zeta -zetaHave only
  lift_lets
  extract_lets w1 jp2
  refine qB (jp:=jp2) (fun (out3:Array Keyed) (ia3:Nat)=>Mg κ LL out3.toList (a.toList.drop ia3) (b.toList.drop ib2)/\ia3+1 < a.size/\ia2<=ia3/\∀ x∈a.toList.drop ia3,le κ q x) (fun out3 ia3 hR=>?_) (fun hj=>?_)
  ·obtain⟨M3,hA1,hA2,hA⟩:=hR;refine xy (bM hq ?_);have M4:Mg κ LL (out3.push q).toList (a.toList.drop ia3) (b.toList.drop (ib2+1)):=by
    rw [gr];refine Mg.b (by rw [← bj hq];exact M3) fun y hy x hx=>?_;rw [xr.mp hy];exact hA x hx
   by_cases c4:ib2+1=b.size
   ·refine ifp (xT.mpr c4) ?_;exact xH ⟨ev4,.inl ⟨_,_,rfl,qN M4 c4⟩⟩
   refine ifn (fun z=>c4 (xT.mp z)) ?_;obtain⟨p,hp,mp⟩:=cp (x:=a) (i:=ia3) (by lia);refine xy (bM hp (xy (cU (left:=true) (key:=p) (arr:=b) (base:=ib2+1) (n:=b.size - (ib2+1)) (hint:=0) hO (ev4.1.trans hk) (va p mp) (by lia) (by rw [eO];exact fun p hp=>vb p (yK hp)) (by rw [eO];exact sb.drop _) (by lia) fun k2 hkn2 g3 g4=>?_)));rw [eO] at g3 g4;rw [z8] at g4;simp only [aaV] at g3 g4;dsimp -zeta -zetaHave only
   lift_lets
   extract_lets w3 jp3
   refine qB (jp:=jp3) (fun (out5:Array Keyed) (ib3:Nat)=>Mg κ LL out5.toList (a.toList.drop ia3) (b.toList.drop ib3)/\ib3 < b.size/\ib2+1<=ib3/\∀ y∈b.toList.drop ib3,le κ p y) (fun out5 ib3 hR=>?_) (fun hj3=>?_)
   ·obtain⟨M5,hB1,hB2,hB⟩:=hR;refine xy (bM hp ?_);have M6:Mg κ LL (out5.push p).toList (a.toList.drop (ia3+1)) (b.toList.drop ib3):=by
     rw [gr];refine Mg.a (by rw [← bj hp];exact M5) fun y hy x hx=>?_;rw [xr.mp hy];exact hB x hx
    by_cases c7:ia3+1+1=a.size
    ·refine ifp (xT.mpr c7) ?_;exact xH ⟨ev4,.inl ⟨_,_,rfl,rz M6 c7 P2⟩⟩
    refine ifn (fun z=>c7 (xT.mp z)) ?_;refine ifs (fun _=>?_) (fun _=>?_)
    ·exact xH ⟨ev4,.inr ⟨_,ia3+1,ib3,_,_,_,rfl,M6,by lia,by lia,by lia⟩⟩
    ·exact xH ⟨ev4,_,ia3+1,ib3,_,_,_,rfl,M6,by lia,by lia,by lia⟩
   by_cases hk2:k2=0
   ·subst hk2;rw [aaT] at g4;exact ifn (show ¬ (0 > 0) by lia) (hj3 _ (ib2+1) ⟨M4,by lia,xx _,g4⟩)
   ·refine ifp (show k2 > 0 by lia) ?_;have M5:Mg κ LL ((out3.push q)++b.extract (ib2+1) (ib2+1+k2)).toList (a.toList.drop ia3) (b.toList.drop (ib2+1+k2)):=by
     rw [mG];refine Mg.b (by rw [← kF];exact M4) fun y hy x hx=>?_;have sA:=sa.drop ia3;rw [bj hp] at sA;rw [bj hp] at hx;exact le_trans (le_of_lt (g3 y hy)) (sA.head x hx)
    by_cases c5:ib2+1+k2=b.size
    ·refine ifp (xT.mpr c5) ?_;exact xH ⟨ev4,.inl ⟨_,_,rfl,qN M5 c5⟩⟩
    exact ifn (fun z=>c5 (xT.mp z)) (hj3 _ (ib2+1+k2) ⟨M5,by lia,by lia,g4⟩)
  by_cases hk0:k=0
  ·subst hk0;rw [aaT] at g2;exact ifn (show ¬ (0 > 0) by lia) (hj _ ia2 ⟨M',hia',xx _,fun x hx=>le_of_lt (g2 x hx)⟩)
  ·refine ifp (show k > 0 by lia) ?_;have M3:Mg κ LL (out2++a.extract ia2 (ia2+k)).toList (a.toList.drop (ia2+k)) (b.toList.drop ib2):=by
    rw [mG];refine Mg.a (by rw [← kF];exact M') fun y hy x hx=>?_;rw [bj hq] at hx;exact le_trans (g1 y hy) (sB.head x hx)
   by_cases c2':ia2+k+1=a.size
   ·refine ifp (xT.mpr c2') ?_;exact xH ⟨ev4,.inl ⟨_,_,rfl,rz M3 c2' P2⟩⟩
   refine ifn (fun z=>c2' (xT.mp z)) ?_;by_cases c3:ia2+k=a.size
   ·refine ifp (xT.mpr c3) ?_;exact xH ⟨ev4,.inl ⟨_,_,rfl,vC M3 c3⟩⟩
   exact ifn (fun z=>c3 (xT.mp z)) (hj _ (ia2+k) ⟨M3,by lia,by lia,fun x hx=>le_of_lt (g2 x hx)⟩)
end
section
variable {κ:KeyKind}
structure MgH (κ:KeyKind)(LL o A B:List Keyed):Prop where
 perm:(A++(B++o)).Perm LL
 sa:SL κ (A++o)
 sb:SL κ (B++o)
theorem MgH.a {LL o c A B:List Keyed}(h:MgH κ LL o (A++c) B)(hc:∀ x∈c,∀ y∈B,le κ y x):MgH κ LL (c++o) A B:=by
 refine⟨?_,?_,?_⟩
 ·refine List.Perm.trans ?_ h.perm;rw [xB];refine zy A ?_;rw [← xB,← xB];exact zo o zV
 ·rw [← xB];exact h.sa
 ·have s1:=h.sa;have s2:=h.sb;unfold SL at *;rw [xB,yw] at s1;rw [yw] at s2 ⊢;refine⟨s2.1,s1.2.1,fun x hx y hy=>?_⟩;rcases xG.mp hy with hy | hy
  ·exact hc y hy x hx
  ·exact s2.2.2 x hx y hy
theorem MgH.b {LL o c A B:List Keyed}(h:MgH κ LL o A (B++c))(hc:∀ y∈c,∀ x∈A,le κ x y):MgH κ LL (c++o) A B:=by
 refine⟨?_,?_,?_⟩
 ·have:=h.perm;rw [xB] at this;exact this
 ·have s1:=h.sa;have s2:=h.sb;unfold SL at *;rw [xB,yw] at s2;rw [yw] at s1 ⊢;refine⟨s1.1,s2.2.1,fun x hx y hy=>?_⟩;rcases xG.mp hy with hy | hy
  ·exact hc y hy x hx
  ·exact s1.2.2 x hx y hy
 ·rw [← xB];exact h.sb
theorem MgH.endA {LL o A:List Keyed}(h:MgH κ LL o A []):jh κ LL (A++o):=⟨h.perm,h.sa⟩
theorem MgH.endB {LL o B:List Keyed}(h:MgH κ LL o [] B):jh κ LL (B++o):=⟨h.perm,h.sb⟩
theorem MgH.first {LL o A:List Keyed}{z:Keyed}(h:MgH κ LL o A [z])(hz:∀ x∈A,le κ z x):jh κ LL ([z]++A++o):=by
 refine⟨?_,?_⟩
 ·refine List.Perm.trans ?_ h.perm;rw [← xB];exact zo o zV
 ·have s1:=h.sa;have s2:=h.sb;unfold SL at *;rw [xB,abw,zb];rw [abw,zb] at s2;refine⟨fun y hy=>?_,s1⟩;rcases xG.mp hy with hy | hy
  ·exact hz y hy
  ·exact s2.1 y hy
theorem dD {a:Array Keyed}{n:Nat}{x:Keyed}(h:a[n]? = some x):a.toList.take (n+1)=a.toList.take n++[x]:=by
 rw [yn];have:a.toList[n]? = some x:=by simpa using h
 rw [this]
 rfl
theorem ie (o:Array Keyed)(x:Keyed):(o.push x).toList.reverse=[x]++o.toList.reverse:=by simp
theorem oH (o a:Array Keyed)(i n:Nat):(o++(a.extract i n).reverse).toList.reverse=(a.toList.take n).drop i++o.toList.reverse:=by
 simp [zd,yO,List.drop_take]
theorem mE (a:Array Keyed){i n:Nat}(h:i<=n):a.toList.take n=a.toList.take i++(a.toList.take n).drop i:=by
 have:=(yt i (a.toList.take n)).symm
 rwa [aan,zj h] at this
theorem j7 (o a b:Array Keyed)(na nb:Nat):(a.extract 0 na++b.extract 0 nb++o.reverse).toList=a.toList.take na++b.toList.take nb++o.toList.reverse:=by
 simp [zd,yO]
theorem SL.lastOf {l:List Keyed}{x:Keyed}(h:SL κ (l++[x])):∀ y∈l++[x],le κ y x:=fun y hy=>by
 rcases xG.mp hy with e | e
 ·exact (yw.mp h).2.2 y e x (xr.mpr rfl)
 ·rw [xr.mp e];exact le_refl _
end
section
variable {κ:KeyKind}{LL:List Keyed}{a b out:Array Keyed}{na nb:Nat}
theorem vB (M:MgH κ LL out.toList.reverse (a.toList.take na) (b.toList.take nb))(c:na=0):jh κ LL (a.extract 0 na++b.extract 0 nb++out.reverse).toList:=by
 subst c;rw [j7,z7,abp];rw [z7] at M;exact M.endB
theorem xi (M:MgH κ LL out.toList.reverse (a.toList.take na) (b.toList.take nb))(c:nb=0):jh κ LL (a.extract 0 na++b.extract 0 nb++out.reverse).toList:=by
 subst c;rw [j7,z7,yg];rw [z7] at M;exact M.endA
theorem vA (M:MgH κ LL out.toList.reverse (a.toList.take na) (b.toList.take nb))(c:nb=1)(hb:1<=b.size)(P1:∀ y∈b.toList.take 1,∀ x∈a.toList,le κ y x):jh κ LL (b.extract 0 nb++a.extract 0 na++out.reverse).toList:=by
 subst c;rw [j7];have hp:b[0]? = some b[0]:=getElem?_pos _ _ (by lia);have e:b.toList.take 1=[b[0]]:=by rw [dD hp,z7,abp]
 rw [e] at M P1 ⊢;exact M.first fun x hx=>P1 _ (xr.mpr rfl) x (yL hx)
end
section
variable {prog:Program}{w:World}{A:Around}{E:Value->Shared->Prop}{s:Shared}{κ:KeyKind}
theorem lW (hO:κ.OneLt){a b:Array Keyed}{st:SortSt}{Q:Array Keyed->SortSt->Prop}(hk:kindOf st=oneType')(va:∀ p∈a.toList,Va κ p)(vb:∀ p∈b.toList,Va κ p)(ha:1<=a.size)(hb:1<=b.size)(sa:SL κ a.toList)(sb:SL κ b.toList)
 (P1:∀ y∈b.toList.take 1,∀ x∈a.toList,le κ y x)(P2:∀ y∈b.toList,∀ z∈a.toList.drop (a.size - 1),le κ y z)
 (h:∀ m st',Eqv st st'->jh κ (a.toList++b.toList) m.toList->Q m st'):wpS (model prog w) A E s (qz a b) Q st:=by
 have hL:∃ LL,LL=a.toList++b.toList:=⟨_,rfl⟩;obtain⟨LL,eL⟩:=hL;rw [← eL] at h;obtain⟨a0,ha0,ma0⟩:=cp (x:=a) (i:=a.size - 1) (by lia);have M1:MgH κ LL (#[a0]:Array Keyed).toList.reverse (a.toList.take (a.size - 1)) (b.toList.take b.size):=by
  have e:a.toList=a.toList.take (a.size - 1)++[a0]:=by
   have:=dD ha0
   rwa [show a.size - 1+1=a.size by lia,yB (by rw [xJ];exact xx _)] at this
  have M0:MgH κ LL [] (a.toList.take (a.size - 1)++[a0]) b.toList:=by
   refine⟨?_,?_,?_⟩
   ·rw [← e,yg,eL]
   ·rw [← e,yg];exact sa
   ·rw [yg];exact sb
  rw [yB (l:=b.toList) (by rw [xJ];exact xx _)];refine MgH.a M0 fun x hx y hy=>P2 y hy x ?_;rw [bj ha0,xr.mp hx];simp
 refine xy (wpS_lift (aaE ⟨rfl,?_⟩));refine xy (bM ha0 ?_);by_cases c1:a.size - 1=0
 ·refine ifp (xT.mpr c1) ?_;exact xH (h _ _ (Eqv.refl _) (vB M1 c1))
 refine ifn (fun z=>c1 (xT.mp z)) ?_;by_cases c2:b.size=1
 ·refine ifp (xT.mpr c2) ?_;exact xH (h _ _ (Eqv.refl _) (vA M1 c2 hb P1))
 refine ifn (fun z=>c2 (xT.mp z)) ?_;refine xy (aaH ?_);refine xy (zx (yE (I:=fun x c st'=>Eqv st st'/\∃ na nb out mg,c=(none,na,nb,out,mg)/\MgH κ LL out.toList.reverse (a.toList.take na) (b.toList.take nb)/\1<=na/\na<=a.size/\2<=nb/\nb<=b.size/\na+nb+x+1<=a.size+b.size)
  (Q:=fun c st'=>Eqv st st'/\∃ m r,c=(some m,r)/\jh κ LL m.toList) ?_ ?_ ⟨Eqv.refl _,a.size - 1,b.size,_,_,rfl,M1,by lia,by lia,by lia,by lia,by lia⟩) ?_)
 rotate_left
 ·rintro c st' ⟨ev,na,nb,out,mg,rfl,M,_,_,_,_,hpr⟩;lia
 ·rintro c st' ⟨ev,m,r,rfl,g⟩;exact xH (h _ _ ev g)
 rintro x c st1 _ hx ⟨ev1,na,nb,out,mg,rfl,M,hna,hna2,hnb,hnb2,hpr⟩;refine xy (zx (yE (I:=fun y c st2=>Eqv st st2/\∃ na' nb' out' ac bc,c=(none,na',nb',out',ac,bc)/\MgH κ LL out'.toList.reverse (a.toList.take na') (b.toList.take nb')/\1<=na'/\na'<=a.size/\2<=nb'/\nb'<=b.size/\na'+nb'+y<=na+nb)
  (Q:=fun c st2=>Eqv st st2/\((∃ m r,c=(some m,r)/\jh κ LL m.toList)\/∃ na' nb' out' ac bc,c=(none,na',nb',out',ac,bc)/\MgH κ LL out'.toList.reverse (a.toList.take na') (b.toList.take nb')/\1<=na'/\na'<=a.size/\2<=nb'/\nb'<=b.size/\na'+nb'+1<=na+nb)) ?_ ?_ ⟨ev1,na,nb,out,_,_,rfl,M,hna,hna2,hnb,hnb2,xx _⟩) ?_)
 ·rintro y c st2 _ hy ⟨ev2,na',nb',out',ac,bc,rfl,M',hna',hna2',hnb',hnb2',hpr'⟩;obtain⟨q,hq,mq⟩:=cp (x:=b) (i:=nb' - 1) (by lia);obtain⟨p,hp,mp⟩:=cp (x:=a) (i:=na' - 1) (by lia);have tq:=dD hq;have tp:=dD hp;rw [show nb' - 1+1=nb' by lia] at tq;rw [show na' - 1+1=na' by lia] at tp;have sB:=sb.take nb';have sA:=sa.take na';rw [tq] at sB;rw [tp] at sA;refine xy (bM hq (xy (bM hp (xy (vt hO (ev2.1.trans hk) (vb q mq) (va p mp) ?_)))));cases hw:κ.blt (kk κ q) (kk κ p) with
  | true =>
   refine ifp rfl ?_;refine xy (bM hp ?_);have M2:MgH κ LL (out'.push p).toList.reverse (a.toList.take (na' - 1)) (b.toList.take nb'):=by
    rw [ie];refine MgH.a (by rw [← tp];exact M') fun x hx y hy=>?_;rw [xr.mp hx];rw [tq] at hy;exact le_trans (sB.lastOf y hy) (le_of_lt hw)
   by_cases c:na' - 1=0
   ·refine ifp (xT.mpr c) ?_;exact xH ⟨ev2,.inl ⟨_,_,rfl,vB M2 c⟩⟩
   refine ifn (fun z=>c (xT.mp z)) ?_;refine ifs (fun _=>?_) (fun _=>?_)
   ·exact xH ⟨ev2,.inr ⟨na' - 1,nb',_,_,_,rfl,M2,by lia,by lia,by lia,by lia,by lia⟩⟩
   ·exact xH ⟨ev2,na' - 1,nb',_,_,_,rfl,M2,by lia,by lia,by lia,by lia,by lia⟩
  | false =>
   refine ifn xt ?_;refine xy (bM hq ?_);have M2:MgH κ LL (out'.push q).toList.reverse (a.toList.take na') (b.toList.take (nb' - 1)):=by
    rw [ie];refine MgH.b (by rw [← tq];exact M') fun y hy x hx=>?_;rw [xr.mp hy];rw [tp] at hx;exact le_trans (sA.lastOf x hx) (show le κ p q from hw)
   by_cases c:nb' - 1=1
   ·refine ifp (xT.mpr c) ?_;exact xH ⟨ev2,.inl ⟨_,_,rfl,vA M2 c hb P1⟩⟩
   refine ifn (fun z=>c (xT.mp z)) ?_;refine ifs (fun _=>?_) (fun _=>?_)
   ·exact xH ⟨ev2,.inr ⟨na',nb' - 1,_,_,_,rfl,M2,by lia,by lia,by lia,by lia,by lia⟩⟩
   ·exact xH ⟨ev2,na',nb' - 1,_,_,_,rfl,M2,by lia,by lia,by lia,by lia,by lia⟩
 ·rintro c st2 ⟨ev2,na',nb',out',ac,bc,rfl,M',g1,g2,g3,g4,hpr'⟩;exact⟨ev2,.inr ⟨_,_,_,_,_,rfl,M',g1,g2,g3,g4,by lia⟩⟩
 rintro c st2 ⟨ev2,hc⟩;rcases hc with ⟨m,r,rfl,g⟩ | ⟨na1,nb1,out1,ac1,bc1,rfl,N1,i1,i2,i3,i4,hpr1⟩
 ·exact xH ⟨ev2,m,_,rfl,g⟩
 refine xy (wpS_lift (aaE ⟨rfl,?_⟩));refine xy (zx (yE (I:=fun y c st3=>Eqv st st3/\∃ na' nb' out' mg' ac bc,c=(none,na',nb',out',mg',ac,bc)/\MgH κ LL out'.toList.reverse (a.toList.take na') (b.toList.take nb')/\1<=na'/\na'<=a.size/\2<=nb'/\nb'<=b.size/\na'+nb'<=na1+nb1)
  (Q:=fun c st3=>Eqv st st3/\((∃ m r,c=(some m,r)/\jh κ LL m.toList)\/∃ na' nb' out' mg' ac bc,c=(none,na',nb',out',mg',ac,bc)/\MgH κ LL out'.toList.reverse (a.toList.take na') (b.toList.take nb')/\1<=na'/\na'<=a.size/\2<=nb'/\nb'<=b.size/\na'+nb'<=na1+nb1)) ?_ ?_ ⟨ev2,na1,nb1,out1,_,ac1,bc1,rfl,N1,i1,i2,i3,i4,xx _⟩) ?_)
 rotate_left
 ·rintro c st3 ⟨ev3,na',nb',out',mg',ac,bc,rfl,M',g⟩;exact⟨ev3,.inr ⟨_,_,_,_,_,_,rfl,M',g⟩⟩
 ·rintro c st3 ⟨ev3,hc⟩;rcases hc with ⟨m,r,rfl,g⟩ | ⟨na2,nb2,out2,mg2,ac2,bc2,rfl,N2,j1,j2,j3,j4,hpr2⟩
  ·exact xH ⟨ev3,m,_,rfl,g⟩
  refine xy (mV ev3 fun st4 ev4=>?_);exact xH ⟨ev4,na2,nb2,_,_,rfl,N2,j1,j2,j3,j4,by lia⟩
 rintro y c st3 _ hy ⟨ev3,na2,nb2,out2,mg2,ac2,bc2,rfl,M',j1,j2,j3,j4,hpr'⟩;obtain⟨q,hq,mq⟩:=cp (x:=b) (i:=nb2 - 1) (by lia);have tq:=dD hq;rw [show nb2 - 1+1=nb2 by lia] at tq;have sB:=sb.take nb2;rw [tq] at sB;dsimp -zeta -zetaHave only
 lift_lets
 extract_lets s1 v1 s2 v2 s3 v3 s4 v4 s5 v5 v6 v7 jp
 refine ifj (jp:=jp) (fun g=>?_)
 ·refine xy (mV ev3 fun st4 ev4=>?_);refine xy (bM hq (xy (cU (left:=false) (key:=q) (arr:=a) (base:=0) (n:=na2) (hint:=na2 - 1) hO (ev4.1.trans hk) (vb q mq) (by lia) (by rw [yN];exact fun p hp=>va p (yL hp)) (by rw [yN];exact sa.take _) (by lia) fun k hkn g1 g2=>?_)));rw [yN] at g1 g2;rw [aan,zj hkn] at g1;simp only [zw,aay] at g1 g2;dsimp -zeta -zetaHave only
  lift_lets
  extract_lets w1 w2 jp2
  refine qB (jp:=jp2) (fun (na3:Nat) (out3:Array Keyed)=>MgH κ LL out3.toList.reverse (a.toList.take na3) (b.toList.take nb2)/\1<=na3/\na3<=na2/\∀ x∈a.toList.take na3,le κ x q) (fun na3 out3 hR=>?_) (fun hj=>?_)
  ·obtain⟨M3,hA1,hA2,hA⟩:=hR;refine xy (bM hq ?_);have M4:MgH κ LL (out3.push q).toList.reverse (a.toList.take na3) (b.toList.take (nb2 - 1)):=by
    rw [ie];refine MgH.b (by rw [← tq];exact M3) fun y hy x hx=>?_;rw [xr.mp hy];exact hA x hx
   by_cases c4:nb2 - 1=1
   ·refine ifp (xT.mpr c4) ?_;exact xH ⟨ev4,.inl ⟨_,_,rfl,vA M4 c4 hb P1⟩⟩
   refine ifn (fun z=>c4 (xT.mp z)) ?_;obtain⟨p,hp,mp⟩:=cp (x:=a) (i:=na3 - 1) (by lia);have tp:=dD hp;rw [show na3 - 1+1=na3 by lia] at tp;refine xy (bM hp (xy (cU (left:=true) (key:=p) (arr:=b) (base:=0) (n:=nb2 - 1) (hint:=nb2 - 1 - 1) hO (ev4.1.trans hk) (va p mp) (by lia) (by rw [yN];exact fun p hp=>vb p (yL hp)) (by rw [yN];exact sb.take _) (by lia) fun k2 hkn2 g3 g4=>?_)));rw [yN] at g3 g4;rw [aan,zj hkn2] at g3;simp only [aaV] at g3 g4;dsimp -zeta -zetaHave only
   lift_lets
   extract_lets w3 w4 jp3
   refine qB (jp:=jp3) (fun (nb3:Nat) (out5:Array Keyed)=>MgH κ LL out5.toList.reverse (a.toList.take na3) (b.toList.take nb3)/\2<=nb3/\nb3<=nb2 - 1/\∀ y∈b.toList.take nb3,le κ y p) (fun nb3 out5 hR=>?_) (fun hj3=>?_)
   ·obtain⟨M5,hB1,hB2,hB⟩:=hR;refine xy (bM hp ?_);have M6:MgH κ LL (out5.push p).toList.reverse (a.toList.take (na3 - 1)) (b.toList.take nb3):=by
     rw [ie];refine MgH.a (by rw [← tp];exact M5) fun x hx y hy=>?_;rw [xr.mp hx];exact hB y hy
    by_cases c7:na3 - 1=0
    ·refine ifp (xT.mpr c7) ?_;exact xH ⟨ev4,.inl ⟨_,_,rfl,vB M6 c7⟩⟩
    refine ifn (fun z=>c7 (xT.mp z)) ?_;refine ifs (fun _=>?_) (fun _=>?_)
    ·exact xH ⟨ev4,.inr ⟨na3 - 1,nb3,_,_,_,_,rfl,M6,by lia,by lia,by lia,by lia,by lia⟩⟩
    ·exact xH ⟨ev4,na3 - 1,nb3,_,_,_,_,rfl,M6,by lia,by lia,by lia,by lia,by lia⟩
   by_cases hk2:k2=nb2 - 1
   ·subst hk2;refine ifn (show ¬ (nb2 - 1 - (nb2 - 1) > 0) by lia) (hj3 (nb2 - 1) _ ⟨M4,by lia,xx _,fun y hy=>le_of_lt (g3 y hy)⟩)
   ·refine ifp (show nb2 - 1 - k2 > 0 by lia) ?_;have M5:MgH κ LL ((out3.push q)++(b.extract k2 (nb2 - 1)).reverse).toList.reverse (a.toList.take na3) (b.toList.take k2):=by
     rw [oH];refine MgH.b (by rw [← mE b hkn2];exact M4) fun y hy x hx=>?_;have sA:=sa.take na3;rw [tp] at sA;rw [tp] at hx;exact le_trans (sA.lastOf x hx) (g4 y hy)
    by_cases c5:k2=1
    ·refine ifp (xT.mpr c5) ?_;exact xH ⟨ev4,.inl ⟨_,_,rfl,vA M5 c5 hb P1⟩⟩
    refine ifn (fun z=>c5 (xT.mp z)) ?_;by_cases c6:k2=0
    ·refine ifp (xT.mpr c6) ?_;exact xH ⟨ev4,.inl ⟨_,_,rfl,xi M5 c6⟩⟩
    exact ifn (fun z=>c6 (xT.mp z)) (hj3 k2 _ ⟨M5,by lia,by lia,fun y hy=>le_of_lt (g3 y hy)⟩)
  by_cases hk0:k=na2
  ·subst hk0;exact ifn (show ¬ (k - k > 0) by lia) (hj k _ ⟨M',j1,xx _,fun x hx=>g1 x hx⟩)
  ·refine ifp (show na2 - k > 0 by lia) ?_;have M3:MgH κ LL (out2++(a.extract k na2).reverse).toList.reverse (a.toList.take k) (b.toList.take nb2):=by
    rw [oH];refine MgH.a (by rw [← mE a hkn];exact M') fun x hx y hy=>?_;rw [tq] at hy;exact le_trans (sB.lastOf y hy) (le_of_lt (g2 x hx))
   by_cases c3:k=0
   ·refine ifp (xT.mpr c3) ?_;exact xH ⟨ev4,.inl ⟨_,_,rfl,vB M3 c3⟩⟩
   exact ifn (fun z=>c3 (xT.mp z)) (hj k _ ⟨M3,by lia,hkn,fun x hx=>g1 x hx⟩)
end
theorem mQ (s:Nat):∀ (m:List Keyed) (off:Nat) (arr:Array Keyed),s+off+m.length<=arr.size →
 ((m.zipIdx off).foldl (fun a x=>a.setIfInBounds (s+x.2) x.1) arr).toList=arr.toList.take (s+off)++(m++arr.toList.drop (s+off+m.length))
 | [],off,arr,h=>by simp
 | x::m,off,arr,h=>by
  rw [List.zipIdx_cons,aac];rw [yx] at h;rw [mQ s m (off+1) _ (by rw [Array.size_setIfInBounds];lia)];have e:(arr.setIfInBounds (s+off) x).toList=arr.toList.set (s+off) x:=by simp
  show (arr.setIfInBounds (s+off) x).toList.take _++(m++(arr.setIfInBounds (s+off) x).toList.drop _)=_;rw [e];have hl:s+off < arr.toList.length:=by rw [xJ];lia
  have t1:(arr.toList.set (s+off) x).take (s+(off+1))=arr.toList.take (s+off)++[x]:=by
   rw [show s+(off+1)=s+off+1 by lia,yn,List.take_set_of_le (xx _),zk hl]
   rfl
  have t2:(arr.toList.set (s+off) x).drop (s+(off+1)+m.length)=arr.toList.drop (s+off+(m.length+1)):=by
   rw [List.drop_set_of_lt (by lia)];congr 1;lia
  rw [t1,t2,yx,xB]
  rfl
section
variable {prog:Program}{w:World}{A:Around}{E:Value->Shared->Prop}{s:Shared}{κ:KeyKind}
theorem jK {X Y:List Keyed}(hX:SL κ X)(hY:SL κ Y)(h:∀ x∈X,∀ y∈Y,le κ x y):SL κ (X++Y):=yw.mpr ⟨hX,hY,h⟩
theorem lx (hO:κ.OneLt){i:Nat}{st:SortSt}{P X Y R:List Keyed}{pw pw2:Nat}{Q:Bool->SortSt->Prop}(hk:kindOf st=oneType')(hf:failedOf st=none)
 (hp1:(pendingOf st)[i]? = some (P.length,X.length,pw))(hp2:(pendingOf st)[i+1]? = some (P.length+X.length,Y.length,pw2))(ea:(arrOf st).toList=P++(X++(Y++R)))
 (vX:∀ p∈X,Va κ p)(vY:∀ p∈Y,Va κ p)(sX:SL κ X)(sY:SL κ Y)(hX:1<=X.length)(hY:1<=Y.length)
 (h:∀ M st',M.Perm (X++Y)->SL κ M->kindOf st'=oneType'->failedOf st'=none->(arrOf st').toList=P++(M++R)->pendingOf st'=((pendingOf st).setIfInBounds i (P.length,X.length+Y.length,pw)).eraseIdxIfInBounds (i+1)->Q true st') :
 wpS (model prog w) A E s (mergeAt' i) Q st:=by
 have asz:(arrOf st).size=P.length+(X.length+(Y.length+R.length)):=by
  have:=xQ List.length ea;simpa using this
 have dX:((arrOf st).toList.drop P.length).take X.length=X:=by rw [ea];simp
 have dY:((arrOf st).toList.drop (P.length+X.length)).take Y.length=Y:=by
  rw [ea,← xB];rw [← xq];simp
 obtain⟨y0,Y',eY⟩:∃ y0 Y',Y=y0::Y':=by
  cases Y with
  | nil=>simp at hY
  | cons y r=>exact⟨y,r,rfl⟩
 have my0:y0∈Y:=by rw [eY];exact xD
 have hy0:(arrOf st)[P.length+X.length]? = some y0:=by
  have:(arrOf st).toList[P.length+X.length]? = some y0:=by
   rw [ea,eY,← xB,xX (by simp)];simp
  simpa using this
 have y0le:∀ y∈Y,le κ y0 y:=by
  rw [eY] at sY ⊢;exact sY.head
 refine xy (aaH ?_);have hmatch:((pendingOf st)[i]?,(pendingOf st)[i+1]?)=(some (P.length,X.length,pw),some (P.length+X.length,Y.length,pw2)):=by rw [hp1,hp2]
 rw [hmatch];refine xy (zP ?_);have k1:kindOf (SortSt.mk' (kindOf st) (arrOf st) (((pendingOf st).setIfInBounds i (P.length,X.length+Y.length,pw)).eraseIdxIfInBounds (i+1)) (gallopOf st) (failedOf st))=oneType':=hk;have f1:failedOf (SortSt.mk' (kindOf st) (arrOf st) (((pendingOf st).setIfInBounds i (P.length,X.length+Y.length,pw)).eraseIdxIfInBounds (i+1)) (gallopOf st) (failedOf st))=none:=hf;have a1:arrOf (SortSt.mk' (kindOf st) (arrOf st) (((pendingOf st).setIfInBounds i (P.length,X.length+Y.length,pw)).eraseIdxIfInBounds (i+1)) (gallopOf st) (failedOf st))=arrOf st:=rfl;have p1:pendingOf (SortSt.mk' (kindOf st) (arrOf st) (((pendingOf st).setIfInBounds i (P.length,X.length+Y.length,pw)).eraseIdxIfInBounds (i+1)) (gallopOf st) (failedOf st))=((pendingOf st).setIfInBounds i (P.length,X.length+Y.length,pw)).eraseIdxIfInBounds (i+1):=rfl;show wpS _ _ _ _ _ _ (SortSt.mk' (kindOf st) (arrOf st) (((pendingOf st).setIfInBounds i (P.length,X.length+Y.length,pw)).eraseIdxIfInBounds (i+1)) (gallopOf st) (failedOf st));generalize SortSt.mk' (kindOf st) (arrOf st) (((pendingOf st).setIfInBounds i (P.length,X.length+Y.length,pw)).eraseIdxIfInBounds (i+1)) (gallopOf st) (failedOf st)=st1 at k1 f1 a1 p1 ⊢;have same:SL κ (X++Y)->Q true st1:=fun so=>h (X++Y) st1 (abM _) so k1 f1 (by rw [a1,ea,xB]) p1;refine xy (bM hy0 (xy (cU (left:=false) (key:=y0) (arr:=arrOf st) (base:=P.length) (n:=X.length) (hint:=0) hO k1 (vY y0 my0) (by lia) (by rw [dX];exact vX) (by rw [dX];exact sX) (by lia) fun k hkn g1 g2=>?_)));rw [dX] at g1 g2;simp only [zw,aay] at g1 g2;have sp:=yt k X;have l2:(X.drop k).length=X.length - k:=yV;have l1:(X.take k).length=k:=by rw [xN];lia
 have g1Y:∀ x∈X.take k,∀ y∈Y,le κ x y:=fun x hx y hy=>le_trans (g1 x hx) (y0le y hy);by_cases c1:X.length - k=0
 ·refine ifp (xT.mpr c1) ?_;refine xH (same (jK sX sY fun x hx y hy=>g1Y x ?_ y hy));rw [yB (by lia)];exact hx
 refine ifn (fun z=>c1 (xT.mp z)) ?_;obtain⟨xl,hxl⟩:∃ xl,X[X.length - 1]? = some xl:=⟨_,xm (by lia)⟩;have mxl:xl∈X:=xV hxl;have hxa:(arrOf st)[P.length+k+(X.length - k) - 1]? = some xl:=by
  have:(arrOf st).toList[P.length+k+(X.length - k) - 1]? = some xl:=by
   rw [ea,show P.length+k+(X.length - k) - 1=P.length+(X.length - 1) by lia,xX (by lia),Nat.add_sub_cancel_left,yr (by lia)];exact hxl
  simpa using this
 have lex:∀ x∈X,le κ x xl:=fun x hx=>by
  obtain⟨j,hj,ej⟩:=zc.mp hx;exact sX.at (i:=j) (j:=X.length - 1) (by lia) (by rw [xm hj,ej]) hxl
 refine xy (bM hxa (xy (cU (left:=true) (key:=xl) (arr:=arrOf st) (base:=P.length+X.length) (n:=Y.length) (hint:=Y.length - 1) hO k1 (vX xl mxl) (by lia) (by rw [dY];exact vY) (by rw [dY];exact sY) (by lia) fun k2 hkn2 g3 g4=>?_)));rw [dY] at g3 g4;simp only [aaV] at g3 g4;by_cases c2:k2=0
 ·refine ifp (xT.mpr c2) ?_;refine xH (same (jK sX sY fun x hx y hy=>le_trans (lex x hx) (g4 y ?_)));rw [c2,yN];exact hy
 refine ifn (fun z=>c2 (xT.mp z)) ?_;have l3:(Y.take k2).length=k2:=by rw [xN];lia
 have ex:((arrOf st).extract (P.length+k) (P.length+X.length)).toList=X.drop k:=by
  rw [zd,yO,ea,← z8,abN,aas hkn,show P.length+X.length - (P.length+k)=(X.drop k).length by rw [l2];lia,abO]
 have ey:((arrOf st).extract (P.length+X.length) (P.length+X.length+k2)).toList=Y.take k2:=by
  rw [zd,yO,ea,← z8,abN,abN,show P.length+X.length+k2 - (P.length+X.length)=k2 by lia,yq hkn2]
 have fin:∀ (m:Array Keyed) (st2:SortSt),Eqv st1 st2->jh κ (X.drop k++Y.take k2) m.toList->Q true (SortSt.mk' (kindOf st2) ((m.toList.zipIdx).foldl (fun a x=>a.setIfInBounds (P.length+k+x.2) x.1) (arrOf st2)) (pendingOf st2) (gallopOf st2) (failedOf st2)):=by
  intro m st2 ev g;have ml:m.toList.length=X.length - k+k2:=by rw [g.1.length_eq,xq,l2,l3]
  have msz:m.size=X.length - k+k2:=by rw [← xJ];exact ml
  refine h (X.take k++(m.toList++Y.drop k2)) _ ?_ ?_ (ev.1.trans k1) (ev.2.2.2.trans f1) ?_ (ev.2.2.1.trans p1)
  ·refine List.Perm.trans (zy _ (zo _ g.1)) ?_;rw [xB,yt,← xB,yt]
  ·have inM:∀ z∈m.toList,z∈X.drop k\/z∈Y.take k2:=fun z hz=>xG.mp (g.1.mem_iff.mp hz);have sX':=sX;rw [← sp] at sX';have cX:=(yw.mp sX').2.2;have sY':=sY;rw [← yt k2 Y] at sY';have cY:=(yw.mp sY').2.2;refine jK (sX.take k) (jK g.2 (sY.drop k2) fun z hz y hy=>?_) fun x hx z hz=>?_
   ·rcases inM z hz with q | q
    ·exact le_trans (lex z (yK q)) (g4 y hy)
    ·exact cY z q y hy
   ·rcases xG.mp hz with hz | hz
    ·rcases inM z hz with q | q
     ·exact cX x hx z q
     ·exact g1Y x hx z (yL q)
    ·exact g1Y x hx z (yK hz)
  ·show ((m.toList.zipIdx).foldl (fun a x=>a.setIfInBounds (P.length+k+x.2) x.1) (arrOf st2)).toList=_;have asz2:(arrOf st2).size=(arrOf st).size:=by rw [ev.2.1,a1]
   rw [mQ (P.length+k) m.toList 0 (arrOf st2) (by lia),ev.2.1,a1,ea];have t1:(P++(X++(Y++R))).take (P.length+k+0)=P++X.take k:=by
    rw [aaT,List.take_length_add_append,yq hkn]
   have t2:(P++(X++(Y++R))).drop (P.length+k+0+m.toList.length)=Y.drop k2++R:=by
    rw [show P.length+k+0+m.toList.length=P.length+(X.length+k2) by lia,aaI,aaI,aas hkn2]
   rw [t1,t2];simp only [xB]
 have P1':∀ y∈(Y.take k2).take 1,∀ x∈X.drop k,le κ y x:=fun y hy x hx=>by
  rw [aan,zj (by lia),eY] at hy;have:y=y0:=by simpa using hy
  rw [this];exact le_of_lt (g2 x hx)
 have P2':∀ y∈Y.take k2,∀ z∈(X.drop k).drop (X.length - k - 1),le κ y z:=fun y hy z hz=>by
  rw [z8,show k+(X.length - k - 1)=X.length - 1 by lia] at hz;have ez:X.drop (X.length - 1)=[xl]:=by
   obtain⟨hl,e⟩:=xp.mp hxl;rw [zA hl,e,zm (by lia)]
  rw [ez] at hz;rw [xr.mp hz];exact le_of_lt (g3 y hy)
 have xsz:((arrOf st).extract (P.length+k) (P.length+X.length)).size=X.length - k:=by rw [← xJ,ex,l2]
 have ysz:((arrOf st).extract (P.length+X.length) (P.length+X.length+k2)).size=k2:=by rw [← xJ,ey,l3]
 refine ifs (fun _=>?_) (fun _=>?_)
 ·refine xy (lC hO k1 (by rw [ex];exact fun p hp=>vX p (yK hp)) (by rw [ey];exact fun p hp=>vY p (yL hp)) (by rw [xsz];lia) (by rw [ysz];lia) (by rw [ex];exact sX.drop k) (by rw [ey];exact sY.take k2) (by rw [ex,ey];exact P1') (by rw [ex,ey,xsz];exact P2') fun m st2 ev g=>?_);rw [ex,ey] at g;refine xy (zP (xy (aaH ?_)));have:=fin m st2 ev g;have e:(failedOf st2).isNone=true:=by rw [ev.2.2.2,f1];rfl
  refine xH ?_;show Q (failedOf st2).isNone _;rw [e];exact this
 ·refine xy (lW hO k1 (by rw [ex];exact fun p hp=>vX p (yK hp)) (by rw [ey];exact fun p hp=>vY p (yL hp)) (by rw [xsz];lia) (by rw [ysz];lia) (by rw [ex];exact sX.drop k) (by rw [ey];exact sY.take k2) (by rw [ex,ey];exact P1') (by rw [ex,ey,xsz];exact P2') fun m st2 ev g=>?_);rw [ex,ey] at g;refine xy (zP (xy (aaH ?_)));have:=fin m st2 ev g;have e:(failedOf st2).isNone=true:=by rw [ev.2.2.2,f1];rfl
  refine xH ?_;show Q (failedOf st2).isNone _;rw [e];exact this
end
structure Rl (lo:Nat)(st0 st:SortSt):Prop where
 kind:kindOf st=oneType'
 failed:failedOf st=none
 pend:pendingOf st=pendingOf st0
 perm:(arrOf st).Perm (arrOf st0)
 pre:∀ i,i < lo->(arrOf st)[i]? = (arrOf st0)[i]?
theorem Rl.size {lo:Nat}{st0 st:SortSt}(R:Rl lo st0 st):(arrOf st).size=(arrOf st0).size:=R.perm.size_eq
theorem Rl.mir {lo i j:Nat}{st0 st:SortSt}(R:Rl lo st0 st)(hi:lo<=i)(hj:j<=(arrOf st0).size):Rl lo st0 (setArr st (mirror (arrOf st) i j ((j - i) / 2))) :=
 ⟨R.kind,R.failed,R.pend,(mirror_perm _ _ _ _).trans R.perm,fun k hk=>by
  show (mirror (arrOf st) i j ((j - i) / 2))[k]? = _;rw [getElem?_mirror_all (by rw [R.size];exact hj),if_neg (by lia)];exact R.pre k hk⟩
theorem Rl.bub {lo src d:Nat}{st0 st:SortSt}(R:Rl lo st0 st)(hi:lo<=src - d)(hd:d<=src)(hs:src < (arrOf st0).size):Rl lo st0 (setArr st (bubble (arrOf st) src d)) :=
 ⟨R.kind,R.failed,R.pend,(bubble_perm _ _ _).trans R.perm,fun k hk=>by
  show (bubble (arrOf st) src d)[k]? = _;rw [getElem?_bubble (by rw [R.size];exact hs) d hd,if_neg (by lia),if_neg (by lia)];exact R.pre k hk⟩
def UpK (κ:KeyKind)(xs:Array Keyed)(lo n:Nat):Prop:=∀ i j,i<=j->j < n->κ.kle (KK κ xs (lo+i)) (KK κ xs (lo+j))
def DnK (κ:KeyKind)(xs:Array Keyed)(lo n:Nat):Prop:=∀ i j,i<=j->j < n->κ.kle (KK κ xs (lo+j)) (KK κ xs (lo+i))
section
variable {κ:KeyKind}
theorem UpK.one (xs:Array Keyed)(lo n:Nat)(hn:n<=1):UpK κ xs lo n:=fun i j hij hj=>by
 have e:i=j:=by lia
 subst e;exact zG _
theorem UpK.more {xs:Array Keyed}{lo x:Nat}(h:UpK κ xs lo x)(hx:1<=x)(q:κ.kle (KK κ xs (lo+(x - 1))) (KK κ xs (lo+x))):UpK κ xs lo (x+1):=fun i j hij hj=>by
 by_cases hjx:j < x
 ·exact h i j hij hjx
 ·have e:j=x:=by lia
  subst e;by_cases e2:i=j
  ·subst e2;exact zG _
  ·exact zO (h i (j - 1) (by lia) (by lia)) q
theorem DnK.more {xs:Array Keyed}{lo x:Nat}(h:DnK κ xs lo x)(hx:1<=x)(q:κ.kle (KK κ xs (lo+x)) (KK κ xs (lo+(x - 1)))):DnK κ xs lo (x+1):=fun i j hij hj=>by
 by_cases hjx:j < x
 ·exact h i j hij hjx
 ·have e:j=x:=by lia
  subst e;by_cases e2:i=j
  ·subst e2;exact zG _
  ·exact zO q (h i (j - 1) (by lia) (by lia))
theorem DnK.congr {xs ys:Array Keyed}{lo n:Nat}(h:DnK κ xs lo n)(e:∀ k,KK κ ys k=KK κ xs k):DnK κ ys lo n:=fun i j hij hj=>by
 rw [e,e];exact h i j hij hj
end
section
variable {prog:Program}{w:World}{A:Around}{E:Value->Shared->Prop}{s:Shared}{κ:KeyKind}
theorem jl (hO:κ.OneLt){lo i j:Nat}{st0 st:SortSt}{Q:Option Bool->SortSt->Prop}(R:Rl lo st0 st)(va:∀ p∈(arrOf st0).toList,Va κ p)(hi:i < (arrOf st0).size)(hj:j < (arrOf st0).size)
 (h:Q (some (κ.blt (KK κ (arrOf st) i) (KK κ (arrOf st) j))) st):wpS (model prog w) A E s (ltAt' i j) Q st:=by
 have get:∀ k,k < (arrOf st0).size->∃ p,(arrOf st)[k]? = some p/\Va κ p:=fun k hk=>by
  obtain⟨p,e,m⟩:=cp (x:=arrOf st) (i:=k) (by rw [R.size];exact hk);exact⟨p,e,va p ((zu.mp R.perm).mem_iff.mp m)⟩
 obtain⟨p,e1,a,ha⟩:=get i hi;obtain⟨q,e2,b,hb⟩:=get j hj;have ka:KK κ (arrOf st) i=a:=by rw [ir e1];unfold kk;rw [ha];rfl
 have kb:KK κ (arrOf st) j=b:=by rw [ir e2];unfold kk;rw [hb];rfl
 rw [ka,kb] at h;exact wpS_ltAtK hO R.kind (x:=p.1) (y:=q.1) (p:=p.2) (q:=q.2) e1 e2 ha hb h
theorem oq (hO:κ.OneLt){lo n ok:Nat}{st0 st:SortSt}{Q:Bool->SortSt->Prop}(R:Rl lo st0 st)(va:∀ p∈(arrOf st0).toList,Va κ p)(hn:lo+n<=(arrOf st0).size)(h1:1<=ok)(hok:ok<=n)(hs:UpK κ (arrOf st) lo ok)
 (h:∀ st',Rl lo st0 st'->UpK κ (arrOf st') lo n->Q true st'):wpS (model prog w) A E s (binarySort' lo n ok) Q st:=by
 rw [binarySort'_eq];refine xy (zx (yE (I:=fun k c st'=>c=(none,())/\Rl lo st0 st'/\UpK κ (arrOf st') lo k) (Q:=fun c st'=>c=(none,())/\Rl lo st0 st'/\UpK κ (arrOf st') lo n) ?_ ?_ ⟨rfl,R,by rw [Nat.max_eq_left h1];exact hs⟩) ?_);rotate_left
 ·rintro c st' ⟨rfl,R',hs'⟩;rw [show max (max ok 1) n=n by lia] at hs';exact⟨rfl,R',hs'⟩
 ·rintro c st' ⟨rfl,R',hs'⟩;exact xH (h st' R' hs')
 rintro k c st1 hak hkn ⟨rfl,R1,s1⟩;have hk1:1<=k:=by lia
 refine xy (zx (yE (I:=fun x c st2=>st2=st1/\∃ l r,c=(none,l,r)/\l<=r/\r<=k/\r - l<=k - x/\(∀ i,i < l->κ.kle (KK κ (arrOf st1) (lo+i)) (KK κ (arrOf st1) (lo+k)))/\∀ i,r<=i->i < k->κ.klt (KK κ (arrOf st1) (lo+k)) (KK κ (arrOf st1) (lo+i)))
  (Q:=fun c st2=>st2=st1/\∃ l r,c=(none,l,r)/\l<=k/\(∀ i,i < l->κ.kle (KK κ (arrOf st1) (lo+i)) (KK κ (arrOf st1) (lo+k)))/\∀ i,l<=i->i < k->κ.klt (KK κ (arrOf st1) (lo+k)) (KK κ (arrOf st1) (lo+i))) ?_ ?_ ⟨rfl,0,k,rfl,xS _,xx _,by lia,fun i hi=>absurd hi (by lia),fun i a b=>absurd b (by lia)⟩) ?_)
 ·rintro x c st2 _ hx ⟨rfl,l,r,rfl,g1,g2,g3,g4,g5⟩;by_cases hge:l ≥ r
  ·refine ifp hge ?_;have e:l=r:=by lia
   subst e;exact xH ⟨rfl,l,l,rfl,g2,g4,g5⟩
  ·refine ifn hge ?_;refine xy (jl hO R1 va (by show lo+k < _;lia) (by show lo+(l+r) / 2 < _;lia) ?_);show wpS _ _ _ _ (if κ.blt (KK κ (arrOf st2) (lo+k)) (KK κ (arrOf st2) (lo+(l+r) / 2))=true then _ else _) _ _;cases q:κ.blt (KK κ (arrOf st2) (lo+k)) (KK κ (arrOf st2) (lo+(l+r) / 2)) with
   | true =>
    refine ifp rfl ?_;exact xH ⟨rfl,l,(l+r) / 2,rfl,by lia,by lia,by lia,g4,fun i a b=>KeyOrd.klt_of_klt_of_kle q (s1 _ _ a b)⟩
   | false =>
    refine ifn xt ?_;exact xH ⟨rfl,(l+r) / 2+1,r,rfl,by lia,by lia,by lia,fun i a=>zO (s1 i ((l+r) / 2) (by lia) (by lia)) (show κ.kle _ _ from q),g5⟩
 ·rintro c st2 ⟨rfl,l,r,rfl,g1,g2,g3,g4,g5⟩;have e:l=r:=by lia
  subst e;exact⟨rfl,l,l,rfl,g2,g4,g5⟩
 ·rintro c st2 ⟨rfl,l,r,rfl,g2,g4,g5⟩;show wpS _ _ _ _ (moveDown' (lo+k) (lo+l) >>= fun _=>pure (ForInStep.yield (none,()))) _ _;rw [moveDown'_eq];have hks:lo+k < (arrOf st2).size:=by rw [R1.size];lia
  refine xy (zP (xH ⟨rfl,R1.bub (by lia) (by lia) (by lia),?_⟩));intro i j hij hj;show κ.kle (KK κ (bubble (arrOf st2) (lo+k) (lo+k - (lo+l))) (lo+i)) (KK κ (bubble (arrOf st2) (lo+k) (lo+k - (lo+l))) (lo+j));rw [KK_bubble hks (by lia),KK_bubble hks (by lia)];have e1:∀ {z:Nat},l < z->z<=k->lo+z - 1=lo+(z - 1):=fun {z} a b=>by lia
  by_cases hj1:j=l
  ·subst hj1;rw [if_pos (show lo+j=lo+k - (lo+k - (lo+j)) by lia)];by_cases hi1:i=j
   ·rw [hi1,if_pos (show lo+j=lo+k - (lo+k - (lo+j)) by lia)];exact zG _
   ·rw [if_neg (by lia),if_neg (by lia)];exact g4 i (by lia)
  ·by_cases hj2:l < j
   ·rw [if_neg (show ¬ (lo+j=lo+k - (lo+k - (lo+l))) by lia),if_pos (show lo+k - (lo+k - (lo+l)) < lo+j/\lo+j<=lo+k by lia),e1 hj2 (by lia)];by_cases hi1:i=l
    ·rw [hi1,if_pos (show lo+l=lo+k - (lo+k - (lo+l)) by lia)];exact zY (g5 (j - 1) (by lia) (by lia))
    ·by_cases hi2:l < i
     ·rw [if_neg (show ¬ (lo+i=lo+k - (lo+k - (lo+l))) by lia),if_pos (show lo+k - (lo+k - (lo+l)) < lo+i/\lo+i<=lo+k by lia),e1 hi2 (by lia)];exact s1 _ _ (by lia) (by lia)
     ·rw [if_neg (by lia),if_neg (by lia)];exact s1 _ _ (by lia) (by lia)
   ·rw [if_neg (show ¬ (lo+j=lo+k - (lo+k - (lo+l))) by lia),if_neg (show ¬ (lo+k - (lo+k - (lo+l)) < lo+j/\lo+j<=lo+k) by lia),if_neg (by lia),if_neg (by lia)];exact s1 _ _ hij (by lia)
end
section
variable {prog:Program}{w:World}{A:Around}{E:Value->Shared->Prop}{s:Shared}{κ:KeyKind}
theorem oY (hO:κ.OneLt){lo nrem:Nat}{st0:SortSt}{Q:Option Nat->SortSt->Prop}(hk:kindOf st0=oneType')(hf:failedOf st0=none)(va:∀ p∈(arrOf st0).toList,Va κ p)(hn:lo+nrem<=(arrOf st0).size)(h1:1<=nrem)
 (h:∀ m st',Rl lo st0 st'->1<=m->m<=nrem->UpK κ (arrOf st') lo m->Q (some m) st'):wpS (model prog w) A E s (countRun' lo nrem) Q st0:=by
 rw [countRun'_eq];have R0:Rl lo st0 st0:=⟨hk,hf,rfl,Array.Perm.refl _,fun _ _=>rfl⟩;refine xy (zx (yE (I:=fun x c st'=>st'=st0/\c=(none,x)/\UpK κ (arrOf st0) lo x) (Q:=fun c st'=>st'=st0/\∃ n,c=(none,n)/\1<=n/\n<=nrem/\UpK κ (arrOf st0) lo n/\(n=nrem\/κ.klt (KK κ (arrOf st0) (lo+n)) (KK κ (arrOf st0) (lo+(n - 1))))) ?_ ?_ ⟨rfl,rfl,UpK.one _ _ _ (xx _)⟩) ?_)
 ·rintro x c st' hx1 hx ⟨rfl,rfl,s1⟩;refine xy (jl hO R0 va (by show lo+x < _;lia) (by show lo+x - 1 < _;lia) ?_);show wpS _ _ _ _ (if κ.blt (KK κ (arrOf st') (lo+x)) (KK κ (arrOf st') (lo+x - 1))=true then _ else _) _ _;rw [show lo+x - 1=lo+(x - 1) by lia];cases q:κ.blt (KK κ (arrOf st') (lo+x)) (KK κ (arrOf st') (lo+(x - 1))) with
  | true =>
   refine ifp rfl ?_;exact xH ⟨rfl,x,rfl,hx1,by lia,s1,.inr q⟩
  | false =>
   refine ifn xt ?_;exact xH ⟨rfl,rfl,s1.more hx1 q⟩
 ·rintro c st' ⟨rfl,rfl,s1⟩;rw [show max 1 nrem=nrem by lia] at s1 ⊢;exact⟨rfl,nrem,rfl,h1,xx _,s1,.inl rfl⟩
 rintro c st' ⟨rfl,n,rfl,g1,g2,s1,alt⟩;by_cases hnn:n=nrem
 ·refine ifp (xT.mpr hnn) ?_;exact xH (h n st' R0 g1 g2 s1)
 refine ifn (fun z=>hnn (xT.mp z)) ?_;have hlt:=alt.resolve_left hnn
 lift_lets
 extract_lets n0 q0 jp
 have hjp:∀ st1,Rl lo st' st1->DnK κ (arrOf st1) lo (n+1)->wpS (model prog w) A E s (jp ()) Q st1:=by
  intro st1 R1 d1;refine xy (wpS_lift (aaE ⟨rfl,?_⟩));refine xy (zx (yE (a:=n+1) (b:=nrem) (I:=fun x c st2=>Rl lo st' st2/\∃ neq,c=(none,x,neq)/\DnK κ (arrOf st2) lo x/\neq+1<=x/\∀ i,x - (neq+1)<=i->i < x->KK κ (arrOf st2) (lo+i)=KK κ (arrOf st2) (lo+(x - 1)))
   (Q:=fun c st2=>Rl lo st' st2/\∃ x neq,c=(none,x,neq)/\1<=x/\x<=nrem/\DnK κ (arrOf st2) lo x/\neq+1<=x/\∀ i,x - (neq+1)<=i->i < x->KK κ (arrOf st2) (lo+i)=KK κ (arrOf st2) (lo+(x - 1))) ?_ ?_ ⟨R1,0,rfl,d1,by lia,fun i a b=>by congr 1;lia⟩) ?_)
  ·rintro x c st2 hx1 hx ⟨R2,neq,rfl,d2,q1,q2⟩;have hsz:lo+x<=(arrOf st2).size:=by rw [R2.size];lia
   refine xy (jl hO R2 va (by show lo+x < _;lia) (by show lo+x - 1 < _;lia) ?_);show wpS _ _ _ _ (if κ.blt (KK κ (arrOf st2) (lo+x)) (KK κ (arrOf st2) (lo+x - 1))=true then _ else _) _ _;rw [show lo+x - 1=lo+(x - 1) by lia];cases q:κ.blt (KK κ (arrOf st2) (lo+x)) (KK κ (arrOf st2) (lo+(x - 1))) with
   | true =>
    refine ifp rfl ?_;have d3:=d2.more (by lia) (zY q);refine ifs (fun hq=>?_) (fun hq=>?_)
    ·refine xy (wpS_reverse (i:=lo+x - (neq+1)) (j:=lo+x) (xH ⟨R2.mir (by lia) (by lia),0,rfl,?_,by lia,fun i a b=>by congr 1;lia⟩));refine d3.congr fun k=>KK_mirror_equal hsz (fun k a b=>?_) k;have e:=q2 (k - lo) (by lia) (by lia);rw [show lo+(k - lo)=k by lia] at e;rw [e];congr 1;lia
    ·exact xH ⟨R2,0,rfl,d3,by lia,fun i a b=>by congr 1;lia⟩
   | false =>
    refine ifn xt ?_;refine xy (jl hO R2 va (by show lo+(x - 1) < _;lia) (by show lo+x < _;lia) ?_);show wpS _ _ _ _ (if κ.blt (KK κ (arrOf st2) (lo+(x - 1))) (KK κ (arrOf st2) (lo+x))=true then _ else _) _ _;cases p:κ.blt (KK κ (arrOf st2) (lo+(x - 1))) (KK κ (arrOf st2) (lo+x)) with
    | true =>
     refine ifp rfl ?_;exact xH ⟨R2,x,neq,rfl,by lia,by lia,d2,q1,q2⟩
    | false =>
     refine ifn xt ?_;have e:KK κ (arrOf st2) (lo+x)=KK κ (arrOf st2) (lo+(x - 1)):=KeyOrd.kle_antisymm p q;refine xH ⟨R2,neq+1,rfl,d2.more (by lia) (show κ.kle _ _ from p),by lia,fun i a b=>?_⟩;rw [show x+1 - 1=x by lia];by_cases hix:i=x
     ·rw [hix]
     ·rw [e];exact q2 i (by lia) (by lia)
  ·rintro c st2 ⟨R2,neq,rfl,d2,q1,q2⟩;rw [show max (n+1) nrem=nrem by lia] at d2 q1 q2 ⊢;exact⟨R2,nrem,neq,rfl,h1,xx _,d2,q1,q2⟩
  rintro c st2 ⟨R2,x,neq,rfl,x1,x2,d2,q1,q2⟩
  lift_lets
  extract_lets r5 s5 n5 q5 jp2
  have hjp2:∀ st3,Rl lo st' st3->DnK κ (arrOf st3) lo x->wpS (model prog w) A E s (jp2 ()) Q st3:=by
   intro st3 R3 d3;have hsz:lo+x<=(arrOf st3).size:=by rw [R3.size];lia
   refine xy (wpS_reverse (i:=lo) (j:=lo+x) ?_);have R4:=R3.mir (i:=lo) (j:=lo+x) (xx _) (by lia);have u4:UpK κ (arrOf (setArr st3 (mirror (arrOf st3) lo (lo+x) ((lo+x - lo) / 2)))) lo x:=fun i j hij hj=>by
    show κ.kle (KK κ (mirror (arrOf st3) lo (lo+x) ((lo+x - lo) / 2)) (lo+i)) (KK κ (mirror (arrOf st3) lo (lo+x) ((lo+x - lo) / 2)) (lo+j));rw [KK_mirror hsz,KK_mirror hsz,if_pos (by lia),if_pos (by lia),show lo+(lo+x) - 1 - (lo+i)=lo+(x - 1 - i) by lia,show lo+(lo+x) - 1 - (lo+j)=lo+(x - 1 - j) by lia];exact d3 _ _ (by lia) (by lia)
   generalize setArr st3 (mirror (arrOf st3) lo (lo+x) ((lo+x - lo) / 2))=st4 at R4 u4 ⊢;refine xy (zx (yE (a:=x) (b:=nrem) (I:=fun y c st5=>st5=st4/\c=(none,y)/\UpK κ (arrOf st4) lo y) (Q:=fun c st5=>st5=st4/\∃ m,c=(none,m)/\1<=m/\m<=nrem/\UpK κ (arrOf st4) lo m) ?_ ?_ ⟨rfl,rfl,u4⟩) ?_)
   ·rintro y c st5 hy1 hy ⟨rfl,rfl,s5⟩;refine xy (jl hO R4 va (by show lo+y < _;lia) (by show lo+y - 1 < _;lia) ?_);show wpS _ _ _ _ (if κ.blt (KK κ (arrOf st5) (lo+y)) (KK κ (arrOf st5) (lo+y - 1))=true then _ else _) _ _;rw [show lo+y - 1=lo+(y - 1) by lia];cases q:κ.blt (KK κ (arrOf st5) (lo+y)) (KK κ (arrOf st5) (lo+(y - 1))) with
    | true =>
     refine ifp rfl ?_;exact xH ⟨rfl,y,rfl,by lia,by lia,s5⟩
    | false =>
     refine ifn xt ?_;exact xH ⟨rfl,rfl,s5.more (by lia) q⟩
   ·rintro c st5 ⟨rfl,rfl,s5⟩;rw [show max x nrem=nrem by lia] at s5 ⊢;exact⟨rfl,nrem,rfl,h1,xx _,s5⟩
   ·rintro c st5 ⟨rfl,m,rfl,m1,m2,s5⟩;exact xH (h m st5 R4 m1 m2 s5)
  clear_value jp2
  refine ifs (fun hq=>?_) (fun hq=>hjp2 st2 R2 d2);have hsz:lo+x<=(arrOf st2).size:=by rw [R2.size];lia
  refine xy (wpS_reverse (i:=lo+x - (neq+1)) (j:=lo+x) (hjp2 _ (R2.mir (by lia) (by lia)) ?_));refine d2.congr fun k=>KK_mirror_equal hsz (fun k a b=>?_) k;have e:=q2 (k - lo) (by lia) (by lia);rw [show lo+(k - lo)=k by lia] at e;rw [e];congr 1;lia
 clear_value jp
 have hsz:lo+n<=(arrOf st').size:=by lia
 refine ifs (fun hgt=>?_) (fun hgt=>?_)
 ·refine xy (jl hO R0 va (by show lo < _;lia) (by show lo+n - 1 < _;lia) ?_);show wpS _ _ _ _ (if κ.blt (KK κ (arrOf st') lo) (KK κ (arrOf st') (lo+n - 1))=true then _ else _) _ _;cases q:κ.blt (KK κ (arrOf st') lo) (KK κ (arrOf st') (lo+n - 1)) with
  | true =>
   refine ifp rfl ?_;exact xH (h n st' R0 g1 g2 s1)
  | false =>
   refine ifn xt ?_;have all:∀ k,k < n->KK κ (arrOf st') (lo+k)=KK κ (arrOf st') (lo+(n - 1)):=fun k hk=>by
    have a1:=s1 0 k (by lia) hk;have a2:=s1 k (n - 1) (by lia) (by lia);rw [aaT] at a1;rw [show lo+n - 1=lo+(n - 1) by lia] at q;exact KeyOrd.kle_antisymm a2 (zO q a1)
   refine xy (wpS_reverse (i:=lo) (j:=lo+n) (hjp _ (R0.mir (xx _) (by lia)) ?_));have d0:DnK κ (arrOf st') lo n:=fun i j hij hj=>by rw [all i (by lia),all j hj];exact zG _
   refine (d0.more g1 (zY hlt)).congr fun k=>KK_mirror_equal hsz (fun k a b=>?_) k;have e:=all (k - lo) (by lia);rw [show lo+(k - lo)=k by lia] at e;rw [e,show lo+n - 1=lo+(n - 1) by lia]
 ·have e1:n=1:=by lia
  subst e1;have d0:DnK κ (arrOf st') lo 1:=fun i j hij hj=>by
   have e:i=j:=by lia
   subst e;exact zG _
  exact hjp st' R0 (d0.more (xx _) (zY hlt))
end
def gj:Nat->List (List Keyed)->List (Nat×Nat)
 | _,[]=>[]
 | s,g::gs=>(s,g.length)::gj (s+g.length) gs
theorem cC:∀ (A B:List (List Keyed)) (s:Nat),gj s (A++B)=gj s A++gj (s+A.flatten.length) B
 | [],B,s=>by simp [gj]
 | g::A,B,s=>by
  rw [List.cons_append];simp only [gj,yR,xq,List.cons_append];rw [cC A B,Nat.add_assoc]
theorem eJ:∀ (A:List (List Keyed)) (s:Nat),(gj s A).length=A.length
 | [],s=>rfl
 | g::A,s=>by simp only [gj,yx,eJ A]
def two (p:Nat×Nat×Nat):Nat×Nat:=(p.1,p.2.1)
structure Runs (κ:KeyKind)(a₀:Array Keyed)(segs:List (List Keyed))(rest:List Keyed)(st:SortSt):Prop where
 kind:kindOf st=oneType'
 failed:failedOf st=none
 perm:(arrOf st).Perm a₀
 arr:(arrOf st).toList=segs.flatten++rest
 pend:(pendingOf st).toList.map two=gj 0 segs
 sl:∀ g∈segs,SL κ g/\1<=g.length
theorem Runs.psize {κ:KeyKind}{a₀:Array Keyed}{segs:List (List Keyed)}{rest:List Keyed}{st:SortSt}(r:Runs κ a₀ segs rest st):(pendingOf st).size=segs.length:=by
 have:=xQ List.length r.pend;rw [xn,eJ,xJ] at this;exact this
theorem Runs.total {κ:KeyKind}{a₀:Array Keyed}{segs:List (List Keyed)}{rest:List Keyed}{st:SortSt}(r:Runs κ a₀ segs rest st):segs.flatten.length+rest.length=a₀.size:=by
 have:=xQ List.length r.arr;rw [xq,xJ,r.perm.size_eq] at this;exact this.symm
theorem oV:∀ {segs:List (List Keyed)},(∀ g∈segs,1<=g.length)->segs.length<=segs.flatten.length
 | [],_=>xx _
 | g::gs,h=>by
  have a:=h g xD;have b:=oV (segs:=gs) fun q hq=>h q (xu _ hq);rw [yR,xq,yx];lia
theorem kG:∀ {segs:List (List Keyed)} {i:Nat},i+1 < segs.length->∃ S1 X Y S2,segs=S1++(X::Y::S2)/\S1.length=i
 | [],i,h=>absurd h (by simp)
 | [g],i,h=>absurd h (by simp)
 | g::g'::gs,0,h=>⟨[],g,g',gs,rfl,rfl⟩
 | g::g'::gs,i+1,h=>by
  obtain⟨S1,X,Y,S2,e,l⟩:=kG (segs:=g'::gs) (i:=i) (by simpa using h);exact⟨g::S1,X,Y,S2,by rw [e];rfl,by simp [l]⟩
theorem d6 {α β:Type}(f:α->β):∀ (l:List α) (n:Nat),(l.eraseIdx n).map f=(l.map f).eraseIdx n
 | [],n=>by simp
 | x::l,0=>by simp
 | x::l,n+1=>by
  rw [aad,yh,yh,aad,d6 f l n]
theorem Runs.after {κ:KeyKind}{a₀:Array Keyed}{segs:List (List Keyed)}{rest:List Keyed}{st st':SortSt}(r:Runs κ a₀ segs rest st)(R:Rl segs.flatten.length st st'):Runs κ a₀ segs ((arrOf st').toList.drop segs.flatten.length) st':=by
 refine⟨R.kind,R.failed,R.perm.trans r.perm,?_,by rw [R.pend];exact r.pend,r.sl⟩;have e:(arrOf st').toList.take segs.flatten.length=segs.flatten:=by
  have e1:(arrOf st).toList.take segs.flatten.length=segs.flatten:=by rw [r.arr,abO]
  rw [← e1];refine List.ext_getElem? fun i=>?_;have hlen:(List.take segs.flatten.length (arrOf st).toList).length=segs.flatten.length:=by
   rw [e1]
  rw [hlen];by_cases hi:i < segs.flatten.length
  ·rw [zF hi,zF hi,yH,yH];exact R.pre i hi
  ·rw [aaN (by lia),aaN (by lia)]
 have:=(yt segs.flatten.length (arrOf st').toList).symm
 rwa [e] at this
theorem UpK.sl {κ:KeyKind}{xs:Array Keyed}{lo n:Nat}(h:UpK κ xs lo n):SL κ ((xs.toList.drop lo).take n):=by
 refine y3.mpr fun i j hi hj hij=>?_;have hj':j < n/\j < xs.size - lo:=by
  rw [xN,yV,xJ] at hj;lia
 have q:=h i j (y6 hij) hj'.1;rw [ir (p:=xs[lo+i]) (getElem?_pos xs (lo+i) (by lia)),ir (p:=xs[lo+j]) (getElem?_pos xs (lo+j) (by lia))] at q;rw [aaj,aa9,aaj,aa9];exact q
theorem u5 {c:Prop}[Decidable c]{a b n:Nat}(h1:a+1 < n)(h2:b+1 < n):(if c then a else b)+1 < n:=by
 split<;>assumption
theorem pV (f:Nat×Nat×Nat->Nat×Nat×Nat)(hf:∀ x,two (f x)=two x)(p:Array (Nat×Nat×Nat))(i:Nat):(p.modify i f).toList.map two=p.toList.map two:=by
 refine List.ext_getElem? fun j=>?_;rw [xO,xO,yH,yH,Array.getElem?_modify];cases p[j]? with
 | none=>split<;>rfl
 | some v =>
  split
  ·show some (two (f v))=some (two v);rw [hf]
  ·rfl
section
variable {prog:Program}{w:World}{A:Around}{E:Value->Shared->Prop}{s:Shared}{κ:KeyKind}
theorem dO (hO:κ.OneLt){a₀:Array Keyed}{segs:List (List Keyed)}{rest:List Keyed}{i:Nat}{st:SortSt}{Q:Bool->SortSt->Prop}(va:∀ p∈a₀.toList,Va κ p)(r:Runs κ a₀ segs rest st)(hi:i+1 < segs.length)
 (h:∀ segs' st',Runs κ a₀ segs' rest st'->segs'.length+1=segs.length->segs'.flatten.length=segs.flatten.length->Q true st'):wpS (model prog w) A E s (mergeAt' i) Q st:=by
 obtain⟨S1,X,Y,S2,rfl,l1⟩:=kG hi;have pe:=r.pend;rw [cC] at pe;simp only [gj,aby] at pe;have l1':(gj 0 S1).length=i:=by rw [eJ];exact l1
 have at1:((pendingOf st).toList.map two)[i]? = some (S1.flatten.length,X.length):=by
  rw [pe,xX (by lia),l1',zU]
  rfl
 have at2:((pendingOf st).toList.map two)[i+1]? = some (S1.flatten.length+X.length,Y.length):=by
  rw [pe,xX (by lia),l1',show i+1 - i=1 by lia]
  rfl
 have get:∀ {k a b:Nat},((pendingOf st).toList.map two)[k]? = some (a,b)->∃ c,(pendingOf st)[k]? = some (a,b,c):=fun {k a b} e=>by
  rw [xO,yH] at e;cases q:(pendingOf st)[k]? with
  | none=>rw [q] at e;cases e
  | some v =>
   rw [q] at e;obtain⟨x,y,z⟩:=v;have e':(x,y)=(a,b):=yz e;cases e';exact⟨z,rfl⟩
 obtain⟨pw,hp1⟩:=get at1;obtain⟨pw2,hp2⟩:=get at2;have ea:(arrOf st).toList=S1.flatten++(X++(Y++(S2.flatten++rest))):=by
  rw [r.arr];simp [xB]
 have vall:∀ p∈(arrOf st).toList,Va κ p:=fun p hp=>va p ((zu.mp r.perm).mem_iff.mp hp);have sX:=r.sl X (by simp);have sY:=r.sl Y (by simp);refine lx hO r.kind r.failed hp1 hp2 ea (fun p hp=>vall p (by rw [ea];simp [hp])) (fun p hp=>vall p (by rw [ea];simp [hp])) sX.1 sY.1 sX.2 sY.2 fun M st' pM sM k' f' a' p'=>?_;have lM:M.length=X.length+Y.length:=by rw [pM.length_eq,xq]
 refine h (S1++M::S2) st' ⟨k',f',?_,?_,?_,fun g hg=>?_⟩ (by simp only [xq,yx];lia) (by simp only [zL,yR,xq];lia)
 ·refine Array.Perm.trans (zu.mpr ?_) r.perm;rw [a',ea];refine zy _ ?_;rw [← xB X];exact zo _ pM
 ·rw [a'];simp [xB]
 ·rw [p',Array.toList_eraseIdxIfInBounds,Array.toList_setIfInBounds,cC];simp only [gj,aby];rw [d6,List.map_set,pe];rw [show two (S1.flatten.length,X.length+Y.length,pw)=(S1.flatten.length,X.length+Y.length) from rfl];rw [List.set_append_right _ _ (by lia),l1',zU,List.set_cons_zero,List.eraseIdx_append_of_length_le (by lia),l1',show i+1 - i=1 by lia];simp only [aad,List.eraseIdx_cons_zero];rw [lM,Nat.add_assoc]
 ·rcases xG.mp hg with hg | hg
  ·exact r.sl g (by simp [hg])
  ·rcases xA.mp hg with hg | hg
   ·rw [hg];exact⟨sM,by lia⟩
   ·exact r.sl g (by simp [hg])
theorem lV (hO:κ.OneLt){a₀:Array Keyed}{st:SortSt}{Q:Unit->SortSt->Prop}(va:∀ p∈a₀.toList,Va κ p)(hk:kindOf st=oneType')(hf:failedOf st=none)(hp:(arrOf st).Perm a₀)(hpe:pendingOf st=#[])
 (h:∀ st',(arrOf st').Perm a₀->failedOf st'=none->SL κ (arrOf st').toList->Q () st'):wpS (model prog w) A E s sortRuns' Q st:=by
 have hN:(arrOf st).size=a₀.size:=hp.size_eq;have none_left:∀ {segs:List (List Keyed)} {rest:List Keyed} {st':SortSt},Runs κ a₀ segs rest st'->(arrOf st).size<=segs.flatten.length->Runs κ a₀ segs [] st':=fun {segs rest st'} r hl=>by
  have t:=r.total;have e:rest=[]:=List.length_eq_zero_iff.mp (by lia);rw [← e];exact r
 refine xy (aaH ?_);refine xy (zx (yE (a:=0) (b:=(arrOf st).size) (I:=fun x c st'=>∃ segs rest,c=(none,segs.flatten.length)/\Runs κ a₀ segs rest st'/\x<=segs.flatten.length)
  (Q:=fun c st'=>∃ segs lo,c=(none,lo)/\Runs κ a₀ segs [] st') ?_ ?_ ⟨[],(arrOf st).toList,rfl,⟨hk,hf,hp,rfl,by rw [hpe];rfl,fun g hg=>nomatch hg⟩,xx _⟩) ?_)
 ·rintro x c st1 _ hx ⟨segs,rest,rfl,r,hxl⟩;by_cases hge:segs.flatten.length ≥ (arrOf st).size
  ·refine ifp hge ?_;exact xH ⟨segs,_,rfl,none_left r hge⟩
  refine ifn hge ?_;have hN1:(arrOf st1).size=a₀.size:=r.perm.size_eq;have vall:∀ p∈(arrOf st1).toList,Va κ p:=fun p hp=>va p ((zu.mp r.perm).mem_iff.mp hp);refine xy (oY (lo:=segs.flatten.length) (nrem:=(arrOf st).size - segs.flatten.length) hO r.kind r.failed vall (by lia) (by lia) fun m st2 R2 m1 m2 u2=>?_);have r2:=r.after R2;have t2:=r2.total;refine ifs (fun hlt=>?_) (fun hlt=>?_)
  ·refine xy (wpS_lift (aaE ⟨rfl,?_⟩));have fo1:m<=min ((arrOf st).size - segs.flatten.length) (minRun' (arrOf st).size (arrOf st).size 0):=by
    have hlt':m < minRun' (arrOf st).size (arrOf st).size 0:=hlt;lia
   have fo2:min ((arrOf st).size - segs.flatten.length) (minRun' (arrOf st).size (arrOf st).size 0)<=(arrOf st).size - segs.flatten.length:=aae _ _;refine xy (oq (lo:=segs.flatten.length) (n:=min ((arrOf st).size - segs.flatten.length) (minRun' (arrOf st).size (arrOf st).size 0)) (ok:=m) hO R2 vall (by lia) m1 fo1 u2 fun st3 R3 u3=>?_);refine ifn (by simp) ?_;have r3:=r.after R3;have t3:=r3.total;have sN:=u3.sl;generalize (arrOf st3).toList.drop segs.flatten.length=rest3 at r3 sN t3;have push:∀ (segs':List (List Keyed)) (st4:SortSt),Runs κ a₀ segs' rest3 st4->segs'.flatten.length=segs.flatten.length->∃ segs5 rest5,((none,segs.flatten.length+min ((arrOf st).size - segs.flatten.length) (minRun' (arrOf st).size (arrOf st).size 0)):Option Unit×Nat)=(none,segs5.flatten.length)/\Runs κ a₀ segs5 rest5 (setPending st4 ((pendingOf st4).push (segs.flatten.length,min ((arrOf st).size - segs.flatten.length) (minRun' (arrOf st).size (arrOf st).size 0),0)))/\x+1<=segs5.flatten.length:=fun segs' st4 r4 e4=>by
    have lN:(rest3.take (min ((arrOf st).size - segs.flatten.length) (minRun' (arrOf st).size (arrOf st).size 0))).length=min ((arrOf st).size - segs.flatten.length) (minRun' (arrOf st).size (arrOf st).size 0):=by rw [xN];lia
    have lf:(segs'++[rest3.take (min ((arrOf st).size - segs.flatten.length) (minRun' (arrOf st).size (arrOf st).size 0))]).flatten.length=segs.flatten.length+min ((arrOf st).size - segs.flatten.length) (minRun' (arrOf st).size (arrOf st).size 0):=by
     rw [zL,xq,zq,lN,e4]
    refine⟨segs'++[rest3.take (min ((arrOf st).size - segs.flatten.length) (minRun' (arrOf st).size (arrOf st).size 0))],rest3.drop (min ((arrOf st).size - segs.flatten.length) (minRun' (arrOf st).size (arrOf st).size 0)),by rw [lf],⟨r4.kind,r4.failed,r4.perm,?_,?_,fun g hg=>?_⟩,by rw [lf];lia⟩
    ·show (arrOf st4).toList=_;rw [r4.arr,zL,zq,xB,yt]
    ·show ((pendingOf st4).push (segs.flatten.length,min ((arrOf st).size - segs.flatten.length) (minRun' (arrOf st).size (arrOf st).size 0),0)).toList.map two=_;rw [Array.toList_push,xR,r4.pend,cC,e4];simp only [gj,aby,lN]
     rfl
    ·rcases xG.mp hg with hg | hg
     ·exact r4.sl g hg
     ·rw [xr.mp hg];exact⟨sN,by lia⟩
   refine xy (aaH ?_);cases hb:(pendingOf st3).back? with
   | none=>exact xy (zP (xH (push segs st3 r3 rfl)))
   | some v =>
    obtain⟨s1,n1,p0⟩:=v;refine xy (zx (yE (a:=0) (b:=(arrOf st).size) (I:=fun y c st4=>c=(none,())/\∃ segs',Runs κ a₀ segs' rest3 st4/\segs'.flatten.length=segs.flatten.length) (Q:=fun c st4=>c=(none,())/\∃ segs',Runs κ a₀ segs' rest3 st4/\segs'.flatten.length=segs.flatten.length) ?_ (fun _ _ h=>h) ⟨rfl,segs,r3,rfl⟩) ?_)
    ·rintro y c st4 _ hy ⟨rfl,segs',r4,e4⟩;refine xy (aaH ?_);have ps:=r4.psize;by_cases hsz:(pendingOf st4).size > 1
     ·obtain⟨v,hv⟩:∃ v,(pendingOf st4)[(pendingOf st4).size - 2]? = some v:=⟨_,getElem?_pos _ _ (by lia)⟩;obtain⟨q1,q2,q3⟩:=v;have em:(if (pendingOf st4).size > 1 then (pendingOf st4)[(pendingOf st4).size - 2]? else none)=some (q1,q2,q3):=by rw [if_pos hsz,hv]
      dsimp only;rw [em];refine ifs (fun ho=>xH ⟨rfl,segs',r4,e4⟩) (fun ho=>?_);refine xy (dO (i:=(pendingOf st4).size - 2) hO va r4 (by lia) fun segs5 st5 r5 l5 e5=>?_);exact ifn (by simp) (xH ⟨rfl,segs5,r5,by lia⟩)
     ·have em:(if (pendingOf st4).size > 1 then (pendingOf st4)[(pendingOf st4).size - 2]? else none)=none:=if_neg hsz;dsimp only;rw [em];exact xH ⟨rfl,segs',r4,e4⟩
    ·rintro c st4 ⟨rfl,segs',r4,e4⟩;refine xy (zP (xy (zP (xH (push segs' _ ⟨r4.kind,r4.failed,r4.perm,r4.arr,?_,r4.sl⟩ e4)))));refine (pV _ ?_ _ _).trans r4.pend;intro z
     rfl
  ·have sN:=u2.sl;have r3:=r2;have t3:=t2;generalize (arrOf st2).toList.drop segs.flatten.length=rest3 at r3 sN t3;have push:∀ (segs':List (List Keyed)) (st4:SortSt),Runs κ a₀ segs' rest3 st4->segs'.flatten.length=segs.flatten.length->∃ segs5 rest5,((none,segs.flatten.length+m):Option Unit×Nat)=(none,segs5.flatten.length)/\Runs κ a₀ segs5 rest5 (setPending st4 ((pendingOf st4).push (segs.flatten.length,m,0)))/\x+1<=segs5.flatten.length:=fun segs' st4 r4 e4=>by
    have lN:(rest3.take (m)).length=m:=by rw [xN];lia
    have lf:(segs'++[rest3.take (m)]).flatten.length=segs.flatten.length+m:=by
     rw [zL,xq,zq,lN,e4]
    refine⟨segs'++[rest3.take (m)],rest3.drop (m),by rw [lf],⟨r4.kind,r4.failed,r4.perm,?_,?_,fun g hg=>?_⟩,by rw [lf];lia⟩
    ·show (arrOf st4).toList=_;rw [r4.arr,zL,zq,xB,yt]
    ·show ((pendingOf st4).push (segs.flatten.length,m,0)).toList.map two=_;rw [Array.toList_push,xR,r4.pend,cC,e4];simp only [gj,aby,lN]
     rfl
    ·rcases xG.mp hg with hg | hg
     ·exact r4.sl g hg
     ·rw [xr.mp hg];exact⟨sN,by lia⟩
   refine xy (aaH ?_);cases hb:(pendingOf st2).back? with
   | none=>exact xy (zP (xH (push segs st2 r3 rfl)))
   | some v =>
    obtain⟨s1,n1,p0⟩:=v;refine xy (zx (yE (a:=0) (b:=(arrOf st).size) (I:=fun y c st4=>c=(none,())/\∃ segs',Runs κ a₀ segs' rest3 st4/\segs'.flatten.length=segs.flatten.length) (Q:=fun c st4=>c=(none,())/\∃ segs',Runs κ a₀ segs' rest3 st4/\segs'.flatten.length=segs.flatten.length) ?_ (fun _ _ h=>h) ⟨rfl,segs,r3,rfl⟩) ?_)
    ·rintro y c st4 _ hy ⟨rfl,segs',r4,e4⟩;refine xy (aaH ?_);have ps:=r4.psize;by_cases hsz:(pendingOf st4).size > 1
     ·obtain⟨v,hv⟩:∃ v,(pendingOf st4)[(pendingOf st4).size - 2]? = some v:=⟨_,getElem?_pos _ _ (by lia)⟩;obtain⟨q1,q2,q3⟩:=v;have em:(if (pendingOf st4).size > 1 then (pendingOf st4)[(pendingOf st4).size - 2]? else none)=some (q1,q2,q3):=by rw [if_pos hsz,hv]
      dsimp only;rw [em];refine ifs (fun ho=>xH ⟨rfl,segs',r4,e4⟩) (fun ho=>?_);refine xy (dO (i:=(pendingOf st4).size - 2) hO va r4 (by lia) fun segs5 st5 r5 l5 e5=>?_);exact ifn (by simp) (xH ⟨rfl,segs5,r5,by lia⟩)
     ·have em:(if (pendingOf st4).size > 1 then (pendingOf st4)[(pendingOf st4).size - 2]? else none)=none:=if_neg hsz;dsimp only;rw [em];exact xH ⟨rfl,segs',r4,e4⟩
    ·rintro c st4 ⟨rfl,segs',r4,e4⟩;refine xy (zP (xy (zP (xH (push segs' _ ⟨r4.kind,r4.failed,r4.perm,r4.arr,?_,r4.sl⟩ e4)))));refine (pV _ ?_ _ _).trans r4.pend;intro z
     rfl
 ·rintro c st1 ⟨segs,rest,rfl,r,hxl⟩;rw [Nat.max_eq_right (xS _)] at hxl;exact⟨segs,_,rfl,none_left r hxl⟩
 ·rintro c st1 ⟨segs,lo,rfl,r⟩;have tt:=r.total;rw [List.length_nil,aaT] at tt;have fg:=oV fun g hg=>(r.sl g hg).2;refine xy (zx (yE (a:=0) (b:=(arrOf st).size) (I:=fun y c st2=>c=(none,())/\∃ segs',Runs κ a₀ segs' [] st2/\(segs'.length+y<=a₀.size\/segs'.length<=1)) (Q:=fun c st2=>c=(none,())/\∃ segs',Runs κ a₀ segs' [] st2/\segs'.length<=1) ?_ ?_ ⟨rfl,segs,r,.inl (by lia)⟩) ?_)
  ·rintro y c st2 _ hy ⟨rfl,segs',r2,alt⟩;refine xy (aaH ?_);have ps:=r2.psize;by_cases hsz:(pendingOf st2).size<=1
   ·refine ifp hsz ?_;exact xH ⟨rfl,segs',r2,by lia⟩
   refine ifn hsz ?_;refine xy (dO hO va r2 ?_ fun segs5 st5 r5 l5 e5=>?_)
   ·exact u5 (show (pendingOf st2).size - 2 - 1+1 < _ by lia) (show (pendingOf st2).size - 2+1 < _ by lia)
   ·exact ifn (by simp) (xH ⟨rfl,segs5,r5,.inl (by lia)⟩)
  ·rintro c st2 ⟨rfl,segs',r2,alt⟩;refine⟨rfl,segs',r2,?_⟩;rw [Nat.max_eq_right (xS _)] at alt;lia
  ·rintro c st2 ⟨rfl,segs',r2,l2⟩;refine xH (h st2 r2.perm r2.failed ?_);rw [r2.arr,yg]
   match segs',l2,r2 with
   | [],_,_=>exact List.Pairwise.nil
   | [g],_,r2=>rw [zq];exact (r2.sl g xD).1
end
theorem SL.toK {κ:KeyKind}{xs:Array Keyed}(h:SL κ xs.toList)(n:Nat)(hn:n<=xs.size):SortedToK κ xs n:=fun i j hij hj=>by
 obtain⟨p,hp,_⟩:=cp (x:=xs) (i:=i) (by lia);obtain⟨q,hq,_⟩:=cp (x:=xs) (i:=j) (by lia);rw [ir hp,ir hq];exact h.at hij (by rw [yH];exact hp) (by rw [yH];exact hq)
section
variable {prog:Program}{w:World}{A:Around}{E:Value->Shared->Prop}{s:Shared}
theorem rD {a:Addr}{vs:List Value}{ss:List Str}{n:Nat}{R:Fin->Shared->Prop}(ho:s.heap.get? a=some (seqObj "list" vs.toArray n))(hS:StrsAre vs ss)(h2:2<=vs.length)(hz:vs.length<=sizeLine)
 (h:∀ (out:Array Value) (ss':List Str),StrsAre out.toList ss'->ss'.Perm ss->sortedS ss'=true->R (.done (.ret .none)) { s with heap:=sortedHeap s.heap a vs out }) :
 wpAny (model prog w) A (Builtin.«list.sort» ⟨[.ref a],[]⟩) R E s:=by
 have la:a < s.heap.objs.size:=xF ho;have sv:vs.toArray.size=vs.length:=xI ..;obtain⟨e1,he1⟩:∃ e,(s.heap.update a (Obj.mapSeq fun _=>#[])).get? a=some (seqObj "list" #[] e):=⟨_,get?_update_seq ho (fun _=>#[])⟩;have he2:(((s.heap.update a (Obj.mapSeq fun _=>#[])).push (seqObj "tuple" vs.toArray 0)).push (seqObj "list" #[] 0)).get? a=some (seqObj "list" #[] e1):=by
  rw [Heap.get?_push_ne _ _ _ (by rw [size_push',abg];exact xY (xP la (zT _))),Heap.get?_push_ne _ _ _ (by rw [abg];exact xY la)];exact he1
 obtain⟨v1,v2,vr,rfl⟩:∃ x y r,vs=x::y::r:=by
  rcases vs with _ | ⟨x,_ | ⟨y,r⟩⟩
  ·simp at h2
  ·simp at h2
  ·exact⟨x,y,r,rfl⟩
 rw [list_sort_plain];refine xo (listItems_at ho rfl (xo (listUpdate_at ho rfl ?_ (by rw [sv];exact hz) (xS _))));refine xo (seqEpoch_at he1 rfl (xo (wpAny_newTuple (xo (wpAny_newList (yZ ?_))))));have nb:¬ (v1::v2::vr).toArray.size < 2:=by rw [sv];lia
 have go:wpAny (model prog w) A (sortRuns'.run (SortSt.mk' oneType' ((v1::v2::vr).toArray.zip (v1::v2::vr).toArray) #[] 7 none))
  (fun r s'=>s'={ s with heap:=((s.heap.update a (Obj.mapSeq fun _=>#[])).push (seqObj "tuple" (v1::v2::vr).toArray 0)).push (seqObj "list" #[] 0) }/\(arrOf r.2).Perm (pairsOf (v1::v2::vr))/\failedOf r.2=none/\SL strKind (arrOf r.2).toList) E
  { s with heap:=((s.heap.update a (Obj.mapSeq fun _=>#[])).push (seqObj "tuple" (v1::v2::vr).toArray 0)).push (seqObj "list" #[] 0) } :=
  lV (κ:=strKind) strKind_oneLt (a₀:=pairsOf (v1::v2::vr)) (Q:=fun _ st'=>(arrOf st').Perm (pairsOf (v1::v2::vr))/\failedOf st'=none/\SL strKind (arrOf st').toList) (fun p hp=>hS.keysOf p hp) rfl rfl (Array.Perm.refl _) rfl fun st' b1 b2 b3=>⟨b1,b2,b3⟩
 rw [if_neg nb,keyKind_strs hS];refine xo (xC ?_);rw [if_neg nb];refine xo (za go ?_ fun _ _ e=>e);rintro⟨⟨⟩,st'⟩ s' ⟨rfl,b1,b2,b3⟩;have sz:(arrOf st').size=(v1::v2::vr).length:=b1.size_eq.trans (pairsOf_size _);obtain⟨ss',d1,d2,d3⟩:=sorted_out_str hS b1 (b3.toK _ (Nat.le_of_eq b1.size_eq.symm));refine xo (seqEpoch_at he2 rfl (xo (listUpdate_at he2 rfl ?_ (xS _) (by rw [Array.size_map,sz];lia))));dsimp only;rw [b2];simp only [bne_self_eq_false,zw,aay];exact xC (h _ ss' d1 d2 d3)
theorem sorted_any {l:Addr}{vs:List Value}{ss:List Str}{Q:Value->Shared->Prop}(hl:s.heap.IsList l vs.toArray)(hS:StrsAre vs ss)(hz:vs.length<=sizeLine)
 (h:∀ (out:Array Value) (ss':List Str),StrsAre out.toList ss'->ss'.Perm ss->sortedS ss'=true->Q (.ref (s.heap.objs.size+1)) { s with heap:=sortedAll s.heap vs out }) :
 wpAny (model prog w) A (call (.builtin "sorted") [.ref l]) Q E s:=by
 by_cases h64:vs.length < 64
 ·exact sorted_strs hl hS h64 h
 refine Calls.call_function_entry kind_sorted plain_sorted entry_sorted (args_sorted1 _) ?_;have s1:((s.heap.push (seqObj "list" #[] 0)).update s.heap.objs.size (Obj.mapSeq (·++vs.toArray))).objs.size=s.heap.objs.size+1:=by
  rw [abg,size_push']
 have g1:(((s.heap.push (seqObj "list" #[] 0)).update s.heap.objs.size (Obj.mapSeq (·++vs.toArray))).push (seqObj "list" vs.toArray 0)).get? (s.heap.objs.size+1)=some (seqObj "list" vs.toArray 0):=by
  rw [← s1];exact ym _ rfl
 unfold Builtin.«sorted»;refine xo (m:=checkCount "sorted" 1 1 _) (xC (xo (collect_list hl (xo (wpAny_newList ?_)) hz)));show wpAny _ _ _ _ _ { s with heap:=((s.heap.push (seqObj "list" #[] 0)).update s.heap.objs.size (Obj.mapSeq (·++vs.toArray))).push (seqObj "list" vs.toArray 0) };rw [s1];exact xo (yZ (wpAny_call_entry slot_list_sort ⟨_,g1,rfl⟩ entry_list_sort (rD g1 hS (by lia) hz fun out ss' b1 b2 b3=>⟨_,rfl,xC ⟨_,rfl,h out ss' b1 b2 b3⟩⟩) (args_list_sort _)))
end
end TS
namespace L2
open PySem PySem.Spec PyProof.Rows
section
variable {X:Cx}
theorem di:eW X (.builtin "sorted") (fun xs H Q=>∃ (p:Addr) (ss:List Str),xs=[.ref p]/\SqL X.K H p (ss.map V.str)/\ss.length<=sizeLine/\∀ (l:Addr) (ss':List Str),H l=none->ss'.Perm ss->sortedS ss'=true->Q (.ref l) (upd H l (.lst (ss'.map V.str)))):=by
 intro pins s σ H xs us Q I r h;obtain⟨p,ss,rfl,hq,hl,q⟩:=h;obtain⟨u,rfl,rx⟩:=gZ r;cases rx;obtain⟨its,rv,pl,hz⟩:=I.list hq;have hlen:=rv.length;rw [xn] at hlen;refine TS.sorted_any pl.isList (cQ rv) (by lia) fun out ss' a1 a2 a3=>?_;obtain⟨e,he⟩:=sortedAll_at s.heap its out;have hlen':ss'.length=ss.length:=a2.length_eq;refine⟨.ref (s.heap.objs.size+1),_,I.laid (t':=s.toks) (o:=.lst (ss'.map V.str)) (fun b o e=>sortedAll_old e) (zT _) ⟨?_,out.toList,e,gG a1,?_⟩,rfl,q _ ss' (I.hok.fresh (zT _)) a2 a3⟩
 ·rw [xn,hlen'];exact hl
 ·simpa using he
end
end L2
namespace L2
theorem tvE {i:Nat}{σ:St}{H:Hp}{Q:VK}{v:V}(h:σ[i]? = some (some v))(k:Q v H):du i σ H Q:=⟨v,h,k⟩
end L2
namespace K7
open PySem L2 PyProof.Rows
def top (i:Nat):Stmt:=PySem.Challenge.pw_keyrooms_k05_whole_orders_gone.main.body.getD i (.Pass ⟨0,0,0,0⟩)
abbrev ki:Stmt:=top 9
abbrev iu:Stmt:=top 10
abbrev pd:Stmt:=top 11
abbrev tY:Stmt:=top 12
abbrev iw:Stmt:=top 13
abbrev v9:Stmt:=top 14
abbrev t9:Stmt:=top 24
abbrev rX:Stmt:=top 25
abbrev j6:Stmt:=top 26
abbrev lr:Stmt:=top 27
abbrev oR:Stmt:=top 28
abbrev wb:Stmt:=top 35
abbrev fk:Stmt:=top 8
abbrev dN:Stmt:=top 15
abbrev gm:Stmt:=top 16
abbrev dv:Stmt:=top 17
abbrev eU:Stmt:=top 18
abbrev cM:Stmt:=top 19
abbrev cu:Stmt:=top 20
abbrev cN:Stmt:=top 21
abbrev fq:Stmt:=top 22
abbrev eh:Stmt:=top 29
abbrev eA:Stmt:=top 30
abbrev gE:Stmt:=top 31
abbrev bX:Stmt:=top 32
abbrev bC:Stmt:=top 33
abbrev cJ:Stmt:=top 34
def mC (o:HO)(c:Int):Prop:=∃ a f:Int,o=.lst [.int a,.int f,.int c]
def gf:Sp:=fun vs H Q _=>∃ (p:Addr) (n c:Int) (o:HO),vs=[.ref p,.int n]/\H p=some o/\mC o c/\0 < n/\n<=1000000/\0<=c/\c < 1000000 ∧
 ∀ (r c':Int) (o':HO),0<=r->r < n->c<=c'->c'<=c+1->mC o' c'->Q (.int r) (upd H p o')
section
variable {P:Program}{w:World}{K:PySem.W.Frag}{mg:Str->Option Value}{base:Heap}
theorem scTake:aL ["pool","many","found","step","mark"] ["pool","many"] (aq rX):=scM rfl rfl rfl rfl (by decide +kernel)
theorem qb {f:Addr}{fd:FuncData}(F:Fun K "_law_take" "_law_take" rX f fd):bf P w K mg base CX0 1 f fd ["pool","many"] gf:=by
 refine F.ok scTake (fun vs H Q E h=>?_) (fun cdv A outer s H vs Q E hr h=>?_)
 ·obtain⟨p,n,c,o,rfl,_⟩:=h
  rfl
 ·obtain⟨p,n,c,o,rfl,hp,⟨a,f',rfl⟩,hn,hn2,hc,hc2,k⟩:=h;refine⟨_,aj (cm (aZ iC (aT aM (pv 0) ao (fun _ _=>rfl)) ao (aY _))
   (aj (aD (i:=2) scTake.nd rfl (.inl rfl) (aN ip (aT aM (pv 0) ao (fun _ _=>rfl)) (pv 1)))
   (aj (jn (aN jG (aT aM (pv 0) ao (fun _ _=>rfl)) (pv 1)) (sr (pv 0) ao mT))
   (au (aK (pv 2))))) aV)
   (aj (jn (aN bH (aT aM (pv 0) ao (fun _ _=>rfl)) ao) (sr (pv 0) ao mT))
   (aj (aD (i:=3) scTake.nd rfl (.inl rfl) (aT aM (pv 0) ao (fun _ _=>rfl)))
   (aj (aD (i:=4) scTake.nd rfl (.inl rfl) (aN gX (aN bH (aN ip (aT aM (pv 0) ao (fun _ _=>rfl)) ao) ao) (aN bH (aN gX ao (pv 3)) ao)))
   (aj (aD (i:=4) scTake.nd rfl (.inl rfl) (aN bH (pv 4) (aN gX (aN gX ao (pv 3)) (pv 3))))
   (aj (aD (i:=4) scTake.nd rfl (.inl rfl) (aN ip (aN gX (pv 4) (pv 4)) ao))
   (au (aK (aN ip (aN jG (aN ip (aN gX (pv 4) (aN bH (pv 4) ao)) ao) ao) (pv 1))))))))),?_⟩
  refine⟨_,rfl,p,_,1,.int f',rfl,rfl,aAA hp,rfl,rfl,_,rfl,?_⟩;refine su (fun _=>?_) (fun _=>?_)
  ·refine⟨_,rfl,p,_,0,.int a,rfl,rfl,aAA hp,rfl,_,rfl,a,n,rfl,rfl,hn,?_⟩;refine⟨_,rfl,p,_,0,.int a,rfl,rfl,aAA hp,rfl,_,rfl,a,n,rfl,rfl,⟨hn,by lia⟩,?_⟩;refine⟨_,rfl,p,_,0,0,rfl,rfl,hp,rfl,?_⟩;refine⟨_,rfl,?_⟩;exact k (a % n) c _ (aaJ _ (by lia)) (aaf _ hn) (zB _) (by lia) ⟨a / n,f',rfl⟩
  ·refine⟨_,rfl,p,_,2,.int c,rfl,rfl,aAA hp,rfl,c,1,rfl,rfl,?_⟩;refine⟨_,rfl,p,_,2,2,rfl,rfl,hp,rfl,?_⟩;have hp1:(upd H p (.lst [V.int a,V.int f',V.int (c+1)])) p=some (.lst [V.int a,V.int f',V.int (c+1)]):=ag;refine⟨_,rfl,p,_,2,.int (c+1),rfl,rfl,aAA hp1,rfl,?_⟩;have b0:0<=a % 9999999551:=aaJ _ (by decide);have b1:a % 9999999551 < 9999999551:=aaf _ (by decide);refine⟨_,rfl,p,_,0,.int a,rfl,rfl,aAA hp1,rfl,a,9999999551,rfl,rfl,(by show (0:Int) < 9999999551;decide),_,_,rfl,rfl,?_⟩;refine⟨_,rfl,43,c+1,rfl,rfl,.inl ⟨by decide,by decide⟩,_,73,rfl,rfl,_,_,rfl,rfl,.inl ⟨by lia,by lia⟩,?_⟩;refine⟨_,rfl,_,rfl,3581,c+1,rfl,rfl,.inl ⟨by decide,by decide⟩,_,rfl,_,c+1,rfl,rfl,.inl ⟨by lia,by lia⟩,_,_,rfl,rfl,?_⟩;generalize hx:a % 9999999551+1019=x at *;generalize hy:43 * (c+1)+73=y at *;have x0:0<=x:=by lia
   have x1:x<=9999999551+1019:=by lia
   have y0:0<=y:=by lia
   have y1:y<=43000100:=by lia
   have m0:0<=x * y:=Int.mul_nonneg x0 y0;have m1:x * y<=(9999999551+1019) * 43000100:=Int.mul_le_mul x1 y1 y0 (by decide);have z0:0<=3581 * (c+1) * (c+1):=Int.mul_nonneg (by lia) (by lia);have z1:3581 * (c+1) * (c+1)<=3581000000 * 1000000:=Int.mul_le_mul (by lia) (by lia) (by lia) (by decide);generalize hm:x * y+3581 * (c+1) * (c+1)=m at *;refine⟨_,rfl,_,rfl,m,m,xQ V.int hm,xQ V.int hm,.inl ⟨by lia,by lia⟩,_,_,rfl,rfl,(by show (0:Int) < 99999999581;decide),?_⟩;have c0:0<=m * m % 99999999581:=aaJ _ (by decide);have c1:m * m % 99999999581 < 99999999581:=aaf _ (by decide);generalize hq:m * m % 99999999581=q at *;refine⟨_,rfl,_,rfl,q,59,xQ V.int hq,rfl,q,_,xQ V.int hq,rfl,.inl ⟨by lia,by lia⟩,_,_,rfl,rfl,(by show (0:Int) < 99999999877;decide),_,_,rfl,rfl,⟨by decide,by decide⟩,_,rfl,_,n,rfl,rfl,hn,?_⟩;exact k _ (c+1) _ (aaJ _ (by lia)) (aaf _ hn) (by lia) (zB _) ⟨a,f',rfl⟩
structure Cal (K:PySem.W.Frag)(mg:Str->Option Value)(x:Str)(ps:List Str)(f:Addr)(fd:FuncData):Prop where
 mg:mg x=some (.ref f)
 kp:keepIn K (.ref f)=true
 b:Binds K fd ps []
theorem pcl {X:Cx}{k:Nat}{f:Addr}{fd:FuncData}{ps:List Str}{sp:Sp}{x:Str}{e:Expr}{es:List Expr}{t:TA}{p pos:Pos}(F:bf X.prog X.w X.K X.mg X.base CX0 k f fd ps sp)(c:Cal X.K X.mg x ps f fd)(hr:Room k X.A)(hg:Gl X x)(ha:PA X (e::es) t)(hdb:(x == ("__debug__" : Str))=false:=by decide)(he:starEach (e::es) X.env=(false,eval e X.env)::starEach es X.env:=by rfl)(hpl:(backTo pos (starEach es X.env)).any (·.1)=false:=by rfl):PE X (.Call (.Name x p) (e::es) [] pos) (fX sp [] E0 t):=bK F hr hg c.mg c.kp c.b .nil fE ha hdb he hpl
def But (p:Addr)(H H':Hp):Prop:=∀ b u,b≠p->H b=some u->H' b=some u
theorem But.refl (p:Addr)(H:Hp):But p H H:=fun _ _ _ e=>e
theorem But.trans {p:Addr}{H H1 H2:Hp}(a:But p H H1)(b:But p H1 H2):But p H H2:=fun c u n e=>b c u n (a c u n e)
theorem But.upd {p:Addr}{H:Hp}{o:HO}:But p H (upd H p o):=fun b u n e=>by rw [ai n];exact e
theorem But.new {p q:Addr}{H H1:Hp}{o:HO}(a:But p H H1)(n:H q=none):But p H (L2.upd H1 q o):=fun b u hb e=>by rw [ai (af e n)];exact a b u hb e
theorem But.free {p q:Addr}{H H':Hp}(a:But p H H')(n:q≠p)(e:H' q=none):H q=none:=by
 cases h:H q with
 | none=>rfl
 | some u=>rw [a q u n h] at e;cases e
def aJ (H:Hp)(p:Addr)(c:Int):Prop:=∃ o,H p=some o/\mC o c
def r8:Sp:=fun vs H Q _=>∃ (p q:Addr) (n:Nat) (c:Int) (ks:List Str),vs=[.ref p,.ref q,.int n]/\aJ H p c/\H q=some (.lst (ks.map V.str))/\ks≠[]/\ks.length<=1000/\n<=1000/\0<=c/\c+n < 1000000 ∧
 ∀ (l:Addr) (ss:List Str) (c':Int) (H':Hp),H l=none->ss.length=n->(∀ x∈ss,x∈ks)->H' l=some (.lst (ss.map V.str))->aJ H' p c'->c<=c'->c'<=c+n->But p H H'->Q (.ref l) H'
theorem uC:aL ["pool","kinds","many"] ["pool","kinds","many"] (aq lr):=scM rfl rfl rfl rfl (by decide +kernel)
def ef (e:Expr):Scope:=match e with
 | .ListComp _ _ s _=>s
 | .DictComp _ _ _ s _=>s
 | _=>{ kind:=.function,names:=[],isGenerator:=false,isCoroutine:=false }
def jV (s:Stmt):Expr:=match s with
 | .Return (some e) _=>e
 | _=>.Name "" ⟨0,0,0,0⟩
abbrev rC:Expr:=jV ((bJ lr).getD 0 (.Pass ⟨0,0,0,0⟩))
theorem uX:gg (aq lr) (ef rC) ["pool","kinds","many"] ["k","kinds","pool"] 1 [1,0]=true:=by decide +kernel
theorem nd1:((["k","kinds","pool"]:List Str)).Nodup:=by decide +kernel
theorem tI {f fT:Addr}{fd fdT:FuncData}(F:Fun K "_law_some" "_law_some" lr f fd)(FT:Fun K "_law_take" "_law_take" rX fT fdT)(cT:Cal K mg "_law_take" ["pool","many"] fT fdT)(mR:mg "range" = none)(mL:mg "len" = none) :
 bf P w K mg base CX0 2 f fd ["pool","kinds","many"] r8:=by
 have GT:bf P w K mg base CX0 1 fT fdT ["pool","many"] gf:=qb FT;refine F.ok uC (fun vs H Q E h=>?_) (fun cdv A outer s H vs Q E hr h=>?_)
 ·obtain⟨p,q,n,c,ks,rfl,_⟩:=h
  rfl
 ·obtain⟨p,q,n,c,ks,rfl,⟨o,hp,hpo⟩,hq,hk,hkl,hn,hc,hcn,k⟩:=h;obtain⟨S,Cp⟩:=fh (X:=(gL CX0 P w K mg base ["pool","kinds","many"] "_law_some" (aq lr) f cdv A outer s H E).nox) (outer:=aq lr) (N:=["pool","kinds","many"]) rfl rfl uX;refine⟨_,au (aK (eM (tg:=.Name "k" _) rfl S Cp (bL rfl mR (ae (pv 2) ah))
   (fun _ _ _ _=>aF (i:=0) nd1 rfl (.inl rfl) (.inr rfl)) (fun _ _ _ _=>dJ)
   (fun _ _ _ _=>aT (qW (K:=K) rfl) (pv 1) (bK GT hr rfl cT.mg cT.kp cT.b .nil fE (ae (pv 2) (ae (av (eI (K:=K) rfl) rfl mL xU (ae (pv 1) ah)) ah))) (fun _ _=>rfl)))),?_⟩
  refine bE _ _ _ _ _ _ _ _ _ ?_;refine⟨_,rfl,(n:Int),rfl,by lia,by lia,?_⟩;intro D hD;have npD:p≠D:=af hp hD;have nqD:q≠D:=af hq hD;have npq:p≠q:=by
   obtain⟨a,f',rfl⟩:=hpo;refine oX hp hq fun e=>?_;injection e with e
   cases ks with
   | nil=>exact hk rfl
   | cons z r=>rw [yh] at e;injection e with e1;cases e1
  rw [yf];refine dB (fun i ys H2=>∃ (ss:List Str) (c':Int),ys=ss.map V.str/\ss.length=i/\(∀ x∈ss,x∈ks)/\H2 D=some (.lst ys)/\aJ H2 p c'/\c<=c'/\c'<=c+i/\But p H H2) ?_ (fun i ys H2 ⟨_,_,_,_,_,z,_⟩=>z) ?_ ?_
  ·refine⟨[],c,rfl,rfl,(fun x hx=>nomatch hx),ag,⟨o,by rw [ai npD];exact hp,hpo⟩,zB _,by lia,(But.refl p H).new hD⟩
  ·rintro i ys H2 hi ⟨ss,c',rfl,hl,hm,hD2,⟨o2,hp2,hpo2⟩,h1,h2,hb⟩;have hq2:=hb q _ (xZ npq) hq;refine dc rfl ?_;refine⟨_,rfl,_,rfl,_,rfl,q,_,rfl,.inl (aAA hq2),p,_,c',o2,rfl,hp2,hpo2,?_,?_,by lia,by lia,fun r c2 o3 r0 r1 h3 h4 hpo3=>?_⟩
   ·rw [xn];cases ks with
    | nil=>exact absurd rfl hk
    | cons z r=>rw [yx];lia
   ·rw [xn];lia
   ·rw [xn] at r1;obtain⟨j,rfl⟩:∃ j:Nat,r=(j:Int):=⟨r.toNat,by lia⟩;have hj:j < ks.length:=by lia
    refine⟨q,_,_,.str ks[j],rfl,rfl,aAA (by rw [ai (xZ npq)];exact hq2),cf (by rw [xO,xm hj];rfl),?_⟩;refine⟨by rw [ai (xZ npD)];exact hD2,by rw [xn];exact aH (by lia),nx hi ?_⟩;refine⟨ss++[ks[j]],c2,by simp,by simp [hl],fun x hx=>?_,ag,⟨o3,by rw [ai npD,ag],hpo3⟩,by lia,by lia,?_⟩
    ·rcases xG.mp hx with hx | hx
     ·exact hm x hx
     ·rw [xr.mp hx];exact yy hj
    ·exact (hb.trans But.upd).new hD
  ·rintro ys H2 ⟨ss,c',rfl,hl,hm,hD2,hp2,h1,h2,hb⟩;exact k D ss c' H2 hD hl hm hD2 hp2 h1 h2 hb
def sq (K:PySem.W.Frag):Sp:=fun vs H Q _=>∃ (a:Addr) (k:Nat) (ns:List Int),vs=[.ref a,.int k]/\SqL K H a (ns.map V.int)/\k<=100/\ns.length<=63 ∧
 ∀ (l:Addr) (c:Int) (o:HO),H l=none->mC o c->0<=c->c<=5300->Q (.ref l) (upd H l o)
theorem scPool:aL ["script","k","cell"] ["script","k"] (aq t9):=scM rfl rfl rfl rfl (by decide +kernel)
theorem tZ {f:Addr}{fd:FuncData}(F:Fun K "_law_pool" "_law_pool" t9 f fd)(mL:mg "len" = none):bf P w K mg base CX0 1 f fd ["script","k"] (sq K):=by
 refine F.ok scPool (fun vs H Q E h=>?_) (fun cdv A outer s H vs Q E hr h=>?_)
 ·obtain⟨a,k,ns,rfl,_⟩:=h
  rfl
 ·obtain⟨a,k,ns,rfl,hS,hk,hn,q⟩:=h;refine⟨_,aj (aD (i:=2) scPool.nd rfl (.inl rfl) ao)
   (aj (cm (aZ rj (pv 1) (av aA rfl mL xU (ae (pv 0) ah)) (aY _))
    (au (aD (i:=2) scPool.nd rfl (.inl rfl) (aT aM (pv 0) (pv 1) (fun _ _=>rfl)))) aV)
   (aj (cm (aZ vc (pv 2) (aN sG ao ao) (aY _))
    (au (aK (a7 (ae (aN kP (pv 2) (aN sG ao ao)) (ae ao (ae ao ah)))))) aV)
   (au (aK (a7 (ae (pv 2) (ae ao (ae (aN gX ao (pv 1)) ah)))))))),?_⟩
  refine⟨_,rfl,_,rfl,a,_,rfl,.inl hS,_,_,rfl,rfl,_,rfl,?_⟩;refine su (fun hlt=>?_) (fun _=>?_)
  ·have hlt':k < ns.length:=by
    have z:=zf hlt;rw [xn] at z;lia
   refine⟨_,rfl,_,rfl,a,_,_,.int ns[k],rfl,rfl,hS,cf (by rw [xO,xm hlt'];rfl),?_⟩;refine⟨_,rfl,10,18,rfl,rfl,⟨by decide,by decide,by decide⟩,_,_,rfl,rfl,_,rfl,su (fun _=>?_) (fun _=>?_)⟩
   ·refine⟨_,rfl,10,18,rfl,rfl,⟨by decide,by decide,by decide⟩,_,_,rfl,rfl,(by show 3<=sizeLine;decide),fun l hl=>?_⟩;exact q l 0 _ hl ⟨_,1,rfl⟩ (by decide) (by decide)
   ·refine⟨_,rfl,_,rfl,53,k,rfl,rfl,.inl ⟨by decide,by decide⟩,(by show 3<=sizeLine;decide),fun l hl=>?_⟩;exact q l (53 * k) _ hl ⟨_,0,rfl⟩ (by lia) (by lia)
  ·refine⟨_,rfl,10,18,rfl,rfl,⟨by decide,by decide,by decide⟩,_,_,rfl,rfl,_,rfl,su (fun _=>?_) (fun _=>?_)⟩
   ·refine⟨_,rfl,10,18,rfl,rfl,⟨by decide,by decide,by decide⟩,_,_,rfl,rfl,(by show 3<=sizeLine;decide),fun l hl=>?_⟩;exact q l 0 _ hl ⟨_,1,rfl⟩ (by decide) (by decide)
   ·refine⟨_,rfl,_,rfl,53,k,rfl,rfl,.inl ⟨by decide,by decide⟩,(by show 3<=sizeLine;decide),fun l hl=>?_⟩;exact q l (53 * k) _ hl ⟨_,0,rfl⟩ (by lia) (by lia)
def aU (z:Str):Prop:=1<=z.length/\z.length<=4/\∀ c∈z.cps.toList,97<=c/\c<=122
def sd:Sp:=fun vs H Q _=>∃ z:Str,vs=[.str z]/\aU z/\∀ H',Same H H'->Q (.bl true) H'
abbrev lettersS:Str := "abcdefghijklmnopqrstuvwxyz"
theorem nQ (c:Nat)(h1:97<=c)(h2:c<=122):(!(Builtin.Str.occurrences lettersS ⟨#[c]⟩ 0 lettersS.length 1).isEmpty)=true:=by
 have all:∀ k:_root_.Fin 26,(!(Builtin.Str.occurrences lettersS ⟨#[97+k.val]⟩ 0 lettersS.length 1).isEmpty)=true:=by decide +kernel
 have e:=all ⟨c - 97,by lia⟩;have e2:97+(c - 97)=c:=by lia
 simp only [e2] at e;exact e
structure Glb (mg:Str->Option Value):Prop where
 isi:mg "isinstance" = none
 str:mg "str" = none
 len:mg "len" = none
 all:mg "all" = none
 letters:∃ t,mg "LETTERS" = some (.str lettersS t)
 most:∃ t,mg "MOST_LETTERS" = some (.int 4 t)
theorem uB:aL ["thing"] ["thing"] (aq ki):=scM rfl rfl rfl rfl (by decide +kernel)
def hZ (e:Expr):Expr:=match e with
 | .Call _ (a::_) _ _=>a
 | e=>e
abbrev qD:Expr:=hZ (jV ((bJ ki).getD 1 (.Pass ⟨0,0,0,0⟩)))
theorem vg:gg (aq ki) (ef qD) ["thing"] ["sign"] 1 []=true:=by decide +kernel
theorem nd2:(["sign"]:List Str).Nodup:=by decide +kernel
theorem tQ {f:Addr}{fd:FuncData}(F:Fun K "is_kind" "is_kind" ki f fd)(G:Glb mg):bf P w K mg base CX0 1 f fd ["thing"] sd:=by
 obtain⟨tl,hL⟩:=G.letters;obtain⟨tm,hM⟩:=G.most;refine F.ok uB (fun vs H Q E h=>?_) (fun cdv A outer s H vs Q E hr h=>?_)
 ·obtain⟨z,rfl,_⟩:=h
  rfl
 ·obtain⟨z,rfl,⟨z1,z2,z3⟩,k⟩:=h;obtain⟨S,Cp⟩:=fh (X:=(gL CX0 P w K mg base ["thing"] "is_kind" (aq ki) f cdv A outer s H E).nox) (outer:=aq ki) (N:=["thing"]) rfl rfl vg;refine⟨_,aj (cm (PW.pt (n8 (cG (dj (av bB rfl G.isi (by decide +kernel) (ae (pv 0) (ae (dM (v:=.ty "str") (u:=.type "str") rfl G.str (by decide +kernel) rfl) ah)))))
   (jy (cG (jW oC oC ao (av gP rfl G.len xU (ae (pv 0) ah)) (lh (v:=.int 4) rfl hM ⟨tm,rfl⟩))))))
   (au (aK gy)) aV)
   (au (aK (av (fY rfl) rfl G.all (by decide +kernel) (ae (eM (tg:=.Name "sign" _) rfl S Cp (ux (pv 0))
    (fun _ _ _ _=>aF (i:=0) nd2 rfl (.inl rfl) (.inr rfl)) (fun _ _ _ _=>dJ)
    (fun _ _ _ _=>bI pN (pv 0) (lh (v:=.str lettersS) rfl hL ⟨tl,rfl⟩) (by with_unfolding_all rfl))) ah)))),?_⟩
  have zs:z.length<=sizeLine:=y6 (aH (by lia));refine⟨_,rfl,_,_,_,true,rfl,.str z,dm K _,true,rfl,?_⟩;refine dw ?_;refine⟨_,rfl,z,rfl,zs,1,_,rfl,rfl,true,xQ V.bl (xK (by lia)),?_⟩;refine gz ?_;refine⟨_,4,rfl,rfl,true,xQ V.bl (xK (by lia)),?_⟩;refine dw ?_;dsimp only [iY,n9,tCB,bq,eZ];refine bE _ _ _ _ _ _ _ _ _ ?_;refine⟨_,rfl,z,rfl,?_⟩;intro D hD;refine qA (fun i ys H2=>ys=(List.replicate i true).map V.bl/\H2 D=some (.lst ys)/\Same H H2) ⟨rfl,ag,fun b u e=>by rw [ai (af e hD)];exact e⟩ (fun i ys H2 ⟨_,h,_⟩=>h) ?_ ?_
  ·rintro i ys H2 c hc ⟨rfl,hD2,sm⟩;have hi:i < z.cps.size:=(yj.mp hc).1;have hz:z.length=z.cps.size:=rfl;have hm:c∈z.cps.toList:=by
    have:=Array.mem_of_getElem? hc;simpa using this
   refine dc rfl ?_;refine⟨_,rfl,_,_,rfl,rfl,hD2,by rw [xn,xW];exact aH (by lia),nx hi ⟨?_,ag,fun b u e=>?_⟩⟩
   ·rw [nQ c (z3 c hm).1 (z3 c hm).2,aaw,xR]
    rfl
   ·rw [ai (af e hD)];exact sm b u e
  ·rintro ys H2 ⟨rfl,hD2,sm⟩;refine⟨D,List.replicate z.cps.size true,rfl,aAA hD2,?_⟩;have e:(List.replicate z.cps.size true).all id=true:=by simp
   rw [e];exact k H2 sm
def jP:Sp:=fun vs H Q _=>∃ (a:Addr) (ks:List Str),vs=[.ref a]/\H a=some (.lst (ks.map V.str))/\(∀ k∈ks,aU k)/\ks.length<=1000/\∀ H',Same H H'->Q (.bl true) H'
def md (e:Expr):Expr:=match e with
 | .BoolOp _ es _=>es.getLastD e
 | e=>e
theorem ua:aL ["thing"] ["thing"] (aq iu):=scM rfl rfl rfl rfl (by decide +kernel)
abbrev pq:Expr:=hZ (md (jV ((bJ iu).getD 0 (.Pass ⟨0,0,0,0⟩))))
theorem sH:gg (aq iu) (ef pq) ["thing"] ["kind"] 1 []=true:=by decide +kernel
theorem nd3:(["kind"]:List Str).Nodup:=by decide +kernel
theorem rN {f fK:Addr}{fd fdK:FuncData}(F:Fun K "are_kinds" "are_kinds" iu f fd)(FK:Fun K "is_kind" "is_kind" ki fK fdK)(cK:Cal K mg "is_kind" ["thing"] fK fdK)(G:Glb mg)(mLi:mg "list" = none):bf P w K mg base CX0 2 f fd ["thing"] jP:=by
 have GK:bf P w K mg base CX0 1 fK fdK ["thing"] sd:=tQ FK G;refine F.ok ua (fun vs H Q E h=>?_) (fun cdv A outer s H vs Q E hr h=>?_)
 ·obtain⟨a,ks,rfl,_⟩:=h
  rfl
 ·obtain⟨a,ks,rfl,ha,hk,hl,k⟩:=h;obtain⟨S,Cp⟩:=fh (X:=(gL CX0 P w K mg base ["thing"] "are_kinds" (aq iu) f cdv A outer s H E).nox) (outer:=aq iu) (N:=["thing"]) rfl rfl sH;refine⟨_,au (aK (dW (av bB rfl G.isi (by decide +kernel) (ae (pv 0) (ae (dM (v:=.ty "list") (u:=.type "list") rfl mLi (by decide +kernel) rfl) ah)))
   (gS (av (fY rfl) rfl G.all (by decide +kernel) (ae (eM (tg:=.Name "kind" _) rfl S Cp (cF (pv 0))
    (fun _ _ _ _=>aF (i:=0) nd3 rfl (.inl rfl) (.inr rfl)) (fun _ _ _ _=>dJ)
    (fun _ _ _ _=>bK GK hr rfl cK.mg cK.kp cK.b .nil fE (ae (pv 0) ah))) ah))))),?_⟩
  refine⟨_,rfl,_,_,_,true,rfl,.lst ha,dm K _,true,rfl,?_⟩;refine gz ?_;dsimp only [iY,n9,tCB,bq,eZ];refine bE _ _ _ _ _ _ _ _ _ ?_;refine⟨_,rfl,a,rfl,⟨_,aAA ha⟩,?_⟩;intro D hD;refine cD (xs:=ks.map V.str) (fun i ys H2=>ys=(List.replicate i true).map V.bl/\i<=1000/\H2 D=some (.lst ys)/\Same H H2) ⟨rfl,by decide,ag,fun b u e=>by rw [ai (af e hD)];exact e⟩ (fun i ys H2 ⟨_,_,h,_⟩=>h) (fun i ys H2 ⟨_,_,_,sm⟩=>aAA (sm a _ ha)) ?_ ?_
  ·rintro i ys H2 x hx ⟨rfl,hi0,hD2,sm⟩;have hi:i < (ks.map V.str).length:=(xp.mp hx).1;have hi':=hi;rw [xn] at hi';rw [xO,xm hi'] at hx;cases hx;refine dc rfl ?_;refine⟨_,rfl,ks[i],rfl,hk _ (yy hi'),fun H3 sm3=>?_⟩;refine⟨sm3 D _ hD2,by rw [xn,xW];exact aH (by lia),nx hi ⟨?_,by lia,ag,fun b u e=>?_⟩⟩
   ·rw [aaw,xR]
    rfl
   ·rw [ai (af e hD)];exact sm3 b u (sm b u e)
  ·rintro ys H2 ⟨rfl,_,hD2,sm⟩;refine⟨D,List.replicate (ks.map V.str).length true,rfl,aAA hD2,?_⟩;have e:(List.replicate (ks.map V.str).length true).all id=true:=by simp
   rw [e];exact k H2 sm
def qv:Sp:=fun vs H Q _=>∃ (a:Addr) (ks:List Str),vs=[.ref a]/\H a=some (.lst (ks.map V.str))/\(∀ k∈ks,aU k)/\1<=ks.length/\ks.length<=4/\ks.Pairwise leS/\∀ H',Same H H'->Q (.bl true) H'
theorem cI {ks:List Str}(h:∀ k∈ks,aU k):PyData.canLayAll0 (ks.map PyData.str)=true:=by
 induction ks with
 | nil=>rfl
 | cons z r ih =>
  have hz:=h z xD;have hs:PyData.strOk z=true:=by
   unfold PyData.strOk;rw [← Array.all_toList,yW];intro c hc;exact xK (by have:=hz.2.2 c hc;lia)
  rw [yh];simp only [PyData.canLayAll0,PyData.canLay0,hs,aaB];exact ih fun k hk=>h k (xu _ hk)
theorem h9:∀ ks:List Str,PyData.eqvAll (ks.map PyData.str) (ks.map PyData.str)=true
 | []=>rfl
 | z::r=>by
  rw [yh];simp only [PyData.eqvAll,PyData.eqv,aar,aaB];exact h9 r
theorem dz:∀ ks:List Str,PyData.depthAll (ks.map PyData.str)=0
 | []=>rfl
 | z::r=>by
  rw [yh];simp only [PyData.depthAll,PyData.depth,dz r]
  rfl
theorem tw:aL ["thing"] ["thing"] (aq pd):=scM rfl rfl rfl rfl (by decide +kernel)
theorem qX {f fK:Addr}{fd fdK:FuncData}(F:Fun K "are_locks" "are_locks" pd f fd)(GK:bf P w K mg base CX0 2 fK fdK ["thing"] jP)(cK:Cal K mg "are_kinds" ["thing"] fK fdK)(mLe:mg "len" = none)(mSo:mg "sorted" = none)(hM:∃ t,mg "MOST_LOCKS" = some (.int 4 t)) :
 bf P w K mg base CX0 3 f fd ["thing"] qv:=by
 obtain⟨tm,hM⟩:=hM;refine F.ok tw (fun vs H Q E h=>?_) (fun cdv A outer s H vs Q E hr h=>?_)
 ·obtain⟨a,ks,rfl,_⟩:=h
  rfl
 ·obtain⟨a,ks,rfl,ha,hk,h1,h4,hs,k⟩:=h;have hu:=l7 hr;refine⟨_,au (aK (dW (bK GK hr rfl cK.mg cK.kp cK.b .nil fE (ae (pv 0) ah))
   (dW (qQ oC oC ao (av aA rfl mLe xU (ae (pv 0) ah)) (lh (v:=.int 4) rfl hM ⟨tm,rfl⟩))
   (gS (bI ny (pv 0) (av fG rfl mSo aak (ae (pv 0) ah)) (aY _)))))),?_⟩
  refine⟨_,rfl,a,ks,rfl,ha,hk,by lia,fun H1 s1=>⟨true,rfl,?_⟩⟩;refine gz ?_;have ha1:=s1 a _ ha;refine⟨_,rfl,a,_,rfl,.inl (aAA ha1),1,_,rfl,rfl,true,xQ V.bl (xK (by rw [xn];lia)),?_⟩;refine gz ?_;refine⟨_,4,rfl,rfl,true,xQ V.bl (xK (by rw [xn];lia)),?_⟩;refine gz ?_;refine⟨_,rfl,_,rfl,a,ks,rfl,aAA ha1,by lia,fun l ss hl hp hs'=>?_⟩;have e:ss=ks:=cV (bt hs') hs hp;subst e;have ne:a≠l:=af ha1 hl;refine⟨.list (ss.map PyData.str),.list (ss.map PyData.str),.lst (by rw [ai ne];exact ha1) (SeesAll.strs ss),.lst ag (SeesAll.strs ss),cI hk,cI hk,?_,?_⟩
  ·show _+min (PyData.depthAll (ss.map PyData.str)+1) (PyData.depthAll (ss.map PyData.str)+1) < cLine;rw [dz];exact hu
  ·have ee:PyData.eqv (.list (ss.map PyData.str)) (.list (ss.map PyData.str))=true:=h9 ss;rw [ee];exact k _ fun b u e=>by rw [ai (af (s1 b u e) hl)];exact s1 b u e
abbrev Rm:=List Str×List Str
structure sh (r:Rm):Prop where
 lk:∀ k∈r.1,aU k
 l1:1<=r.1.length
 l4:r.1.length<=4
 so:r.1.Pairwise leS
 kk:∀ k∈r.2,aU k
 kl:r.2.length<=1000
def RoomAt (H:Hp)(v:V)(r:Rm):Prop:=∃ t a b:Addr,v=.ref t/\H t=some (.tup [.ref a,.ref b])/\H a=some (.lst (r.1.map V.str))/\H b=some (.lst (r.2.map V.str))
theorem RoomAt.same {H H':Hp}{v:V}{r:Rm}(s:Same H H')(h:RoomAt H v r):RoomAt H' v r:=by
 obtain⟨t,a,b,e,h1,h2,h3⟩:=h;exact⟨t,a,b,e,s _ _ h1,s _ _ h2,s _ _ h3⟩
def r9:Sp:=fun vs H Q _=>∃ (v:V) (r:Rm),vs=[v]/\RoomAt H v r/\sh r/\∀ H',Same H H'->Q (.bl true) H'
theorem uN:aL ["thing"] ["thing"] (aq tY):=scM rfl rfl rfl rfl (by decide +kernel)
theorem tV {f fL fK:Addr}{fd fdL fdK:FuncData}(F:Fun K "is_room" "is_room" tY f fd)(GL:bf P w K mg base CX0 3 fL fdL ["thing"] qv)(cL:Cal K mg "are_locks" ["thing"] fL fdL)
 (GK:bf P w K mg base CX0 2 fK fdK ["thing"] jP)(cK:Cal K mg "are_kinds" ["thing"] fK fdK)(mI:mg "isinstance" = none)(mLe:mg "len" = none)(mTu:mg "tuple" = none):bf P w K mg base CX0 4 f fd ["thing"] r9:=by
 refine F.ok uN (fun vs H Q E h=>?_) (fun cdv A outer s H vs Q E hr h=>?_)
 ·obtain⟨v,r,rfl,_⟩:=h
  rfl
 ·obtain⟨v,r,rfl,⟨t,a,b,rfl,ht,ha,hb⟩,ok,k⟩:=h;refine⟨_,au (aK (dW (av bB rfl mI (by decide +kernel) (ae (pv 0) (ae (dM (v:=.ty "tuple") (u:=.type "tuple") rfl mTu (by decide +kernel) rfl) ah)))
   (dW (bI iC (av aA rfl mLe xU (ae (pv 0) ah)) ao (aY _))
   (dW (bK GL hr rfl cL.mg cL.kp cL.b .nil fE (ae (aT cw (pv 0) ao (fun _ _=>rfl)) ah))
   (gS (bK GK (hr.mono (by decide)) rfl cK.mg cK.kp cK.b .nil fE (ae (aT cw (pv 0) ao (fun _ _=>rfl)) ah))))))),?_⟩
  refine⟨_,rfl,_,_,_,true,rfl,.tup ht,dm K _,true,rfl,?_⟩;refine gz ?_;refine⟨_,rfl,t,_,rfl,.inr (aAB ht),rfl,true,rfl,?_⟩;refine gz ?_;refine⟨_,rfl,t,_,0,.ref a,rfl,rfl,aAB ht,rfl,a,r.1,rfl,ha,ok.lk,ok.l1,ok.l4,ok.so,fun H1 s1=>⟨true,rfl,?_⟩⟩;refine gz ?_;refine⟨_,rfl,t,_,1,.ref b,rfl,rfl,aAB (s1 _ _ ht),rfl,b,r.2,rfl,s1 _ _ hb,ok.kk,ok.kl,fun H2 s2=>?_⟩;exact k H2 (s1.trans s2)
abbrev Hs:=List Str×List Rm
def RoomsAt (H:Hp)(vs:List V)(rs:List Rm):Prop:=vs.length=rs.length/\∀ (i:Nat) (v:V) (r:Rm),vs[i]? = some v->rs[i]? = some r->RoomAt H v r
theorem RoomsAt.same {H H':Hp}{vs:List V}{rs:List Rm}(s:Same H H')(h:RoomsAt H vs rs):RoomsAt H' vs rs:=⟨h.1,fun i v r a b=>(h.2 i v r a b).same s⟩
def HouseAt (H:Hp)(v:V)(h:Hs):Prop:=∃ (t a r:Addr) (vs:List V),v=.ref t/\H t=some (.tup [.ref a,.ref r])/\H a=some (.lst (h.1.map V.str))/\H r=some (.lst vs)/\RoomsAt H vs h.2
theorem HouseAt.same {H H':Hp}{v:V}{h:Hs}(s:Same H H')(x:HouseAt H v h):HouseAt H' v h:=by
 obtain⟨t,a,r,vs,e,h1,h2,h3,h4⟩:=x;exact⟨t,a,r,vs,e,s _ _ h1,s _ _ h2,s _ _ h3,h4.same s⟩
structure aS (h:Hs):Prop where
 kk:∀ k∈h.1,aU k
 kl:h.1.length<=1000
 rs:∀ r∈h.2,sh r
 rl:h.2.length<=1000
def j9:Sp:=fun vs H Q _=>∃ (v:V) (h:Hs),vs=[v]/\HouseAt H v h/\aS h/\∀ H',Same H H'->Q (.bl true) H'
def p8:Sp:=fun vs H Q _=>∃ (v:V) (h:Hs),vs=[v]/\HouseAt H v h/\aS h/\∀ H',Same H H'->Q .non H'
theorem scHouse:aL ["thing","keys","rooms"] ["thing"] (aq iw):=scM rfl rfl rfl rfl (by decide +kernel)
abbrev qe:Expr:=hZ (md (jV ((bJ iw).getD 2 (.Pass ⟨0,0,0,0⟩))))
theorem tR:gg (aq iw) (ef qe) ["thing","keys","rooms"] ["room"] 1 []=true:=by decide +kernel
theorem nd4:(["room"]:List Str).Nodup:=by decide +kernel
theorem rG {f fR fK:Addr}{fd fdR fdK:FuncData}(F:Fun K "is_house" "is_house" iw f fd)(GR:bf P w K mg base CX0 4 fR fdR ["thing"] r9)(cR:Cal K mg "is_room" ["thing"] fR fdR)
 (GK:bf P w K mg base CX0 2 fK fdK ["thing"] jP)(cK:Cal K mg "are_kinds" ["thing"] fK fdK)(mI:mg "isinstance" = none)(mLe:mg "len" = none)(mTu:mg "tuple" = none)(mLi:mg "list" = none)(mAl:mg "all" = none):bf P w K mg base CX0 5 f fd ["thing"] j9:=by
 refine F.ok scHouse (fun vs H Q E h=>?_) (fun cdv A outer s H vs Q E hr h=>?_)
 ·obtain⟨v,r,rfl,_⟩:=h
  rfl
 ·obtain⟨v,hs,rfl,⟨t,a,r,vs,rfl,ht,ha,hr',hR⟩,ok,k⟩:=h;obtain⟨S,Cp⟩:=fh (X:=(gL CX0 P w K mg base ["thing","keys","rooms"] "is_house" (aq iw) f cdv A outer s H E).nox) (outer:=aq iw) (N:=["thing","keys","rooms"]) rfl rfl tR;refine⟨_,aj (cm (PW.pt (n8 (cG (dj (av bB rfl mI (by decide +kernel) (ae (pv 0) (ae (dM (v:=.ty "tuple") (u:=.type "tuple") rfl mTu (by decide +kernel) rfl) ah)))))
   (jy (aZ rf (av aA rfl mLe xU (ae (pv 0) ah)) ao (aY _)))))
   (au (aK gy)) aV)
   (aj (jn (pv 0) (iW rfl (bo (aF (i:=1) scHouse.nd rfl (.inl rfl)) (bo (aF (i:=2) scHouse.nd rfl (.inl rfl)) dF))))
   (au (aK (dW (bK GK (hr.mono (by decide)) rfl cK.mg cK.kp cK.b .nil fE (ae (pv 1) ah))
    (dW (av bB rfl mI (by decide +kernel) (ae (pv 2) (ae (dM (v:=.ty "list") (u:=.type "list") rfl mLi (by decide +kernel) rfl) ah)))
    (gS (av (fY rfl) rfl mAl (by decide +kernel) (ae (eM (tg:=.Name "room" _) rfl S Cp (cF (pv 2))
     (fun _ _ _ _=>aF (i:=0) nd4 rfl (.inl rfl) (.inr rfl)) (fun _ _ _ _=>dJ)
     (fun _ _ _ _=>bK GR hr rfl cR.mg cR.kp cR.b .nil fE (ae (pv 0) ah))) ah)))))))),?_⟩
  refine⟨_,rfl,_,_,_,true,rfl,.tup ht,dm K _,true,rfl,?_⟩;refine dw ?_;refine⟨_,rfl,t,_,rfl,.inr (aAB ht),rfl,false,rfl,?_⟩;refine dw ?_;refine⟨_,rfl,t,_,rfl,aAB ht,rfl,_,_,rfl,_,_,rfl,rfl,?_⟩;refine⟨_,rfl,a,hs.1,rfl,ha,ok.kk,ok.kl,fun H1 s1=>⟨true,rfl,?_⟩⟩;refine gz ?_;refine⟨_,rfl,_,_,_,true,rfl,.lst (s1 _ _ hr'),dm K _,true,rfl,?_⟩;refine gz ?_;dsimp only [iY,n9,tCB,bq,eZ];refine bE _ _ _ _ _ _ _ _ _ ?_;refine⟨_,rfl,r,rfl,⟨_,aAA (s1 _ _ hr')⟩,?_⟩;intro D hD;have hl:vs.length<=1000:=by rw [hR.1];exact ok.rl
  refine cD (xs:=vs) (fun i ys H2=>ys=(List.replicate i true).map V.bl/\i<=1000/\H2 D=some (.lst ys)/\Same H1 H2) ⟨rfl,by decide,ag,fun b u e=>by rw [ai (af e hD)];exact e⟩ (fun i ys H2 ⟨_,_,h,_⟩=>h) (fun i ys H2 ⟨_,_,_,sm⟩=>aAA (sm r _ (s1 _ _ hr'))) ?_ ?_
  ·rintro i ys H2 x hx ⟨rfl,hi0,hD2,sm⟩;have hi:i < vs.length:=(xp.mp hx).1;have hi':i < hs.2.length:=by rw [← hR.1];exact hi
   refine dc rfl ?_;refine⟨_,rfl,x,hs.2[i],rfl,((hR.2 i x _ hx (xm hi')).same s1).same sm,ok.rs _ (yy hi'),fun H3 sm3=>?_⟩;refine⟨sm3 D _ hD2,by rw [xn,xW];exact aH (by lia),nx hi ⟨?_,by lia,ag,fun b u e=>?_⟩⟩
   ·rw [aaw,xR]
    rfl
   ·rw [ai (af e hD)];exact sm3 b u (sm b u e)
  ·rintro ys H2 ⟨rfl,_,hD2,sm⟩;refine⟨D,List.replicate vs.length true,rfl,aAA hD2,?_⟩;have e:(List.replicate vs.length true).all id=true:=by simp
   rw [e];exact k H2 (s1.trans sm)
theorem vE:aL ["thing"] ["thing"] (aq v9):=scM rfl rfl rfl rfl (by decide +kernel)
theorem uF {f fH:Addr}{fd fdH:FuncData}(F:Fun K "require_house" "require_house" v9 f fd)(GH:bf P w K mg base CX0 5 fH fdH ["thing"] j9)(cH:Cal K mg "is_house" ["thing"] fH fdH):bf P w K mg base CX0 6 f fd ["thing"] p8:=by
 refine F.ok vE (fun vs H Q E h=>?_) (fun cdv A outer s H vs Q E hr h=>?_)
 ·obtain⟨v,r,rfl,_⟩:=h
  rfl
 ·obtain⟨v,hs,rfl,hh,ok,k⟩:=h;refine⟨_,au (cm (cG (dj (bK GH hr rfl cH.mg cH.kp cH.b .nil fE (ae (pv 0) ah)))) iU aV),?_⟩;refine⟨_,rfl,v,hs,rfl,hh,ok,fun H1 s1=>⟨true,rfl,?_⟩⟩;refine dw ?_;exact k H1 s1
end
end K7
namespace L2
open PySem PySem.Spec PyProof.Rows
section
variable {X:Cx}{o e:Expr}{es:List Expr}{to:TE}{t:TA}{name:Str}{apos cpos:Pos}{T id:String}{r:V->List V->Hp->VK->Prop}{K:PySem.W.Frag}
theorem px (hK:X.K=K)(pa:PlainAttrs T)(slot:Slot T name id)(hty:typeOf (.builtin id)=pure (.type "method_descriptor"))(hm:MtR X id r)(ho:PE X o to)(ha:PA X (e::es) t)
 (hbase:attributeBase o name X.env (eval o X.env)=eval o X.env:=by rfl)
 (hfew:((backTo cpos (starEach (e::es) X.env)).all (fun x=>!x.1) && (backToKw cpos (keywordEach [] X.env)).all (fun x=>x.1.isSome)
  && decide ((e::es).length+([]:List Keyword).length+(if ([]:List Keyword).isEmpty then 0 else 1) < 30))=true:=by rfl)
 (hline:(apos.endLine == cpos.line)=true:=by rfl)(hs:starEach (e::es) X.env=(false,eval e X.env)::starEach es X.env:=by rfl)(hplain:(backTo cpos (starEach es X.env)).any (·.1)=false:=by rfl) :
 PE X (.Call (.Attribute o name apos) (e::es) [] cpos) (tBM K T r to t):=by
 subst hK;exact iP pa slot hty hm ho ha hbase hfew hline hs hplain
end
end L2
namespace K7
open PySem L2 PyProof.Rows
def dU (h:Hs):List Str:=h.1++h.2.flatMap (·.2)
def hU (h:Hs):List Str:=h.2.flatMap (·.1)
structure nq (h:Hs):Prop where
 few:∃ U:List Str,U.length < 64/\∀ x,(x∈dU h\/x∈hU h)->x∈U
 nk:(dU h).length<=1000
 nl:(hU h).length<=1000
theorem d4 {α:Type}[DecidableEq α]:∀ {l U:List α},l.Nodup->(∀ x∈l,x∈U)->l.length<=U.length
 | [],U,_,_=>xS _
 | a::r,U,hn,h=>by
  rw [zS] at hn;have ha:=h a xD;have ih:=d4 (U:=U.erase a) hn.2 fun x hx=>by
   have ne:x≠a:=fun z=>hn.1 (z▸hx);exact (aav ne).mpr (h x (xu _ hx))
  have hl:=aa8 ha;have hp:0 < U.length:=abl ha;rw [yx];lia
end K7
namespace L2
open PySem PySem.Spec PyProof.Rows
theorem kn (K:PySem.W.Frag):kitOne K (.type "int") (.type "bool")=some false:=by
 first
  | rfl
  | (with_unfolding_all rfl)
end L2
namespace K7
open PySem L2 PyProof.Rows
def ue (s:Stmt):List Stmt:=match s with
 | .For _ _ b _ _=>b
 | _=>[]
theorem j8:lettersS.cps.toList=List.range' 97 26:=by decide +kernel
theorem cO (r:Nat)(h:r < 26):atI lettersS.cps.toList (r:Int)=some (97+r):=cf (by rw [j8,List.getElem?_range' h];simp)
theorem cn:lettersS.length<=sizeLine:=by decide
def qa (l:List Nat):Prop:=1<=l.length/\l.length<=4/\∀ c∈l,97<=c/\c<=122
theorem lJ {z:Str}(h:qa z.cps.toList):aU z:=by
 obtain⟨h1,h2,h3⟩:=h;have e:z.cps.toList.length=z.length:=xJ;exact⟨by (first | lia | lia),by (first | lia | lia),h3⟩
theorem pb {z:Str}(h:aU z):qa z.cps.toList:=by
 obtain⟨h1,h2,h3⟩:=h;have e:z.cps.toList.length=z.length:=xJ;exact⟨by (first | lia | lia),by (first | lia | lia),h3⟩
def fb (t:Nat):Str:=⟨#[97+t / 26,97+t % 26,122,122]⟩
theorem qC {s t:Nat}(h:fb s=fb t):s=t:=by
 unfold fb at h;injection h with h
 have h':=xQ Array.toList h;simp only [List.cons.injEq] at h'
 (first | lia | lia)
theorem sR {t:Nat}(h:t < 676):aU (fb t):=by
 refine⟨by show 1<=4;decide,by show 4<=4;decide,fun c hc=>?_⟩;have hc':c∈[97+t / 26,97+t % 26,122,122]:=hc;simp only [xA,yP,abD] at hc'
 (first | lia | lia)
def sy:Sp:=fun vs H Q _=>∃ (p:Addr) (n:Nat) (c:Int),vs=[.ref p,.int n]/\aJ H p c/\n<=60/\0<=c/\c+540 < 1000000 ∧
 ∀ (l:Addr) (ks:List Str) (c':Int) (H':Hp),H l=none->ks.length=n->(∀ k∈ks,aU k)->ks.Nodup->H' l=some (.lst (ks.map V.str))->aJ H' p c'->c<=c'->c'<=c+540->But p H H'->Q (.ref l) H'
theorem jx:∀ {ss:List Str},(∀ x∈ss,∃ c,x=⟨#[c]⟩/\97<=c/\c<=122)->((ss.map (·.cps.toList)).flatten).length=ss.length/\∀ c∈(ss.map (·.cps.toList)).flatten,97<=c/\c<=122
 | [],_=>⟨rfl,(fun c h=>by simp at h)⟩
 | a::r,h=>by
  obtain⟨c,rfl,h1,h2⟩:=h a xD;obtain⟨i1,i2⟩:=jx (ss:=r) fun x hx=>h x (xu _ hx);rw [yh,yR];refine⟨?_,fun d hd=>?_⟩
  ·rw [xq,i1,yx];show 1+r.length=r.length+1
   (first | lia | lia)
  ·rcases xG.mp hd with hd | hd
   ·have:d=c:=by simpa using hd
    (first | lia | lia)
   ·exact i2 d hd
theorem mP:∀ {ss:List Str},(∀ x∈ss,∃ c,x=⟨#[c]⟩/\97<=c/\c<=122)->(ss.map (·.length)).sum=ss.length
 | [],_=>rfl
 | a::r,h=>by
  obtain⟨c,rfl,h1,h2⟩:=h a xD;rw [yh,aaC,mP fun x hx=>h x (xu _ hx),yx];show 1+r.length=r.length+1
  (first | lia | lia)
theorem oQ (z:Str)(ks:List Str):inV (.str z) (ks.map V.str)=decide (z∈ks):=by
 unfold inV
 induction ks with
 | nil=>rfl
 | cons a r ih =>
  rw [yh,aaA,ih];show (a == z || decide (z∈r))=_;by_cases e:a=z
  ·subst e;simp
  ·have e':(a == z)=false:=by simpa using e
   rw [e',Bool.false_or];by_cases hz:z∈r
   ·simp [hz]
   ·simp [hz,xZ e]
theorem kE (ks:List Str):(ks.map V.str).all jd=true:=by
 rw [aaS,yW];intro _ _
 rfl
theorem i7 {z:Str}(h:aU z):z.length<=sizeLine:=y6 (aH (by have:=h.2.1;(first | lia | lia)))
theorem pf {ks:List Str}(h:ks≠[]):∃ y,y∈ks/\atI (ks.map V.str) (-1)=some (.str y):=by
 rcases abz ks with e | ⟨r,y,e⟩
 ·exact absurd e h
 ·rw [abA] at e;subst e;exact⟨y,by simp,by rw [xR];exact rF _ _⟩
theorem pK (ks:List Str):PyData.eqv (.list (ks.map PyData.str)) (.list [])=ks.isEmpty:=by
 cases ks with
 | nil=>rfl
 | cons a r=>rfl
def uw (s:Stmt):Expr:=match s with
 | .Assign _ e _=>e
 | _=>.Name "" ⟨0,0,0,0⟩
section
variable {P:Program}{w:World}{K:PySem.W.Frag}{mg:Str->Option Value}{base:Heap}
theorem scMade:aL ["pool","many","letters","found","k","kind","way","at","turn"] ["pool","many"] (aq j6):=scM rfl rfl rfl rfl (by decide +kernel)
abbrev rL:Expr:=hZ (uw ((ue ((bJ j6).getD 2 (.Pass ⟨0,0,0,0⟩))).getD 0 (.Pass ⟨0,0,0,0⟩)))
theorem vn:gg (aq j6) (ef rL) ["pool","many","letters","found","k","kind","way","at","turn"] ["j","letters","pool"] 1 [2,0]=true:=by decide +kernel
theorem nd8:(["j","letters","pool"]:List Str).Nodup:=by decide +kernel
inductive wG (p:Addr)(n:Nat)(l:Addr)(i:Nat)(c1:Int)(H2:Hp)(σ':L2.St)(H':Hp):Prop
 | mk (x6 x7 x8:Option V) (z:Str) (c':Int):(σ'=[some (.ref p),some (.int n),some (.str lettersS),some (.ref l),some (.int (0+i)),some (.str z),x6,x7,x8])->(aU z)->(aJ H' p c')->(c1<=c')->(c'<=c1+5)->(But p H2 H')->wG p n l i c1 H2 σ' H'
inductive wj (p:Addr)(n:Nat)(l:Addr)(i:Nat)(wy:Int)(c1:Int)(H2:Hp)(σ':L2.St)(H':Hp):Prop
 | mk (x7 x8:Option V) (z:Str) (c':Int):(σ'=[some (.ref p),some (.int n),some (.str lettersS),some (.ref l),some (.int (0+i)),some (.str z),some (.int wy),x7,x8])->(aU z)->(aJ H' p c')->(c1<=c')->(c'<=c1+7)->(But p H2 H')->wj p n l i wy c1 H2 σ' H'
inductive wF (p:Addr)(n:Nat)(l:Addr)(i:Nat)(wy:Int)(c1:Int)(H2:Hp)(σ':L2.St)(H':Hp):Prop
 | mk (x7 x8:Option V) (z:Str) (c':Int):(σ'=[some (.ref p),some (.int n),some (.str lettersS),some (.ref l),some (.int (0+i)),some (.str z),some (.int wy),x7,x8])->(aU z)->(aJ H' p c')->(c1<=c')->(c'<=c1+9)->(But p H2 H')->wF p n l i wy c1 H2 σ' H'
inductive MdL (p l:Addr)(n:Nat)(c:Int)(H:Hp)(i:Nat)(σ:L2.St)(H2:Hp):Prop
 | mk (x4 x5 x6 x7 x8:Option V) (ks:List Str) (c':Int):σ=[some (.ref p),some (.int n),some (.str lettersS),some (.ref l),x4,x5,x6,x7,x8]->ks.length=i->(∀ k∈ks,aU k)->ks.Nodup->H2 l=some (.lst (ks.map V.str))->aJ H2 p c'->c<=c'->c'<=c+9 * i->But p H H2->MdL p l n c H i σ H2
theorem ui {f fT:Addr}{fd fdT:FuncData}(F:Fun K "_law_kinds" "_law_kinds" j6 f fd)(GT:bf P w K mg base CX0 1 fT fdT ["pool","many"] gf)(cT:Cal K mg "_law_take" ["pool","many"] fT fdT)(mR:mg "range" = none)(mL:mg "len" = none) :
 bf P w K mg base CX0 2 f fd ["pool","many"] sy:=by
 refine F.ok scMade (fun vs H Q E h=>?_) (fun cdv A outer s H vs Q E hr h=>?_)
 ·obtain⟨p,n,c,rfl,_⟩:=h
  rfl
 ·obtain⟨p,n,c,rfl,⟨o,hp,hpo⟩,hn,hc,hcn,k⟩:=h;have hu:=l7 hr;obtain⟨S,Cp⟩:=fh (X:=(gL CX0 P w K mg base ["pool","many","letters","found","k","kind","way","at","turn"] "_law_kinds" (aq j6) f cdv A outer s H E).nox) (outer:=aq j6) (N:=["pool","many","letters","found","k","kind","way","at","turn"]) rfl rfl vn;have tk:∀ {b:Expr} {t:TE},PE (gL CX0 P w K mg base ["pool","many","letters","found","k","kind","way","at","turn"] "_law_kinds" (aq j6) f cdv A outer s H E).nox b t->True:=fun _=>trivial;refine⟨_,aj (aD (i:=2) scMade.nd rfl (.inr rfl) iL)
   (aj (aD (i:=3) scMade.nd rfl (.inl rfl) (a7 ah))
   (aj (dZ yF rfl (bL rfl mR (ae (pv 1) ah)) (aF (i:=4) scMade.nd rfl (.inl rfl))
    (aj (bu (aD (i:=5) scMade.nd rfl (.inl rfl) (iP PySem.F.plainAttrs_str PySem.F.slot_str_join PySem.F.type_str_join t6 iL (ae (eM (tg:=.Name "j" _) rfl S Cp
     (bL rfl mR (ae (aN bH ao (bK GT hr rfl cT.mg cT.kp cT.b .nil fE (ae (pv 0) (ae ao ah)))) ah))
     (fun _ _ _ _=>aF (i:=0) nd8 rfl (.inl rfl) (.inr rfl)) (fun _ _ _ _=>dJ)
     (fun _ _ _ _=>aT jw (pv 1) (bK GT hr rfl cT.mg cT.kp cT.b .nil fE (ae (pv 2) (ae ao ah))) (fun _ _=>rfl))) ah))))
    (aj (aD (i:=6) scMade.nd rfl (.inl rfl) (bK GT hr rfl cT.mg cT.kp cT.b .nil fE (ae (pv 0) (ae ao ah))))
    (aj (bu (cm (PW.pt (pU (aZ iC (pv 6) ao (aY _)) (lU (aZ eX (pv 3) (a7 ah) (aY _)))))
     (au (aD (i:=5) scMade.nd rfl (.inl rfl) (bY qc (aN dE (aT aM (pv 3) (qd kJ ao) (fun _ _=>rfl)) (aT jw (pv 2) (bK GT hr rfl cT.mg cT.kp cT.b .nil fE (ae (pv 0) (ae ao ah))) (fun _ _=>rfl))) cZ (dg ao)))) aV))
    (aj (bu (cm (PW.pt (pU (aZ iC (pv 6) ao (aY _)) (lU (aZ eX (pv 3) (a7 ah) (aY _)))))
     (aj (aD (i:=7) scMade.nd rfl (.inl rfl) (bK GT hr rfl cT.mg cT.kp cT.b .nil fE (ae (pv 0) (ae (av gP rfl mL xU (ae (aT aM (pv 3) (qd kJ ao) (fun _ _=>rfl)) ah)) ah))))
     (au (aD (i:=5) scMade.nd rfl (.inl rfl) (aN dE (aN dE (bY qc (aT aM (pv 3) (qd kJ ao) (fun _ _=>rfl)) cZ (dg (pv 7)))
      (aT jw (pv 2) (bK GT hr rfl cT.mg cT.kp cT.b .nil fE (ae (pv 0) (ae ao ah))) (fun _ _=>rfl)))
      (bY qc (aT aM (pv 3) (qd kJ ao) (fun _ _=>rfl)) (dg (aN bH (pv 7) ao)) cZ))))) aV))
    (aj (aD (i:=8) scMade.nd rfl (.inl rfl) ao)
    (aj (mJ yF (aZ i6 (pv 5) (pv 3) rfl)
     (aj (aD (i:=5) scMade.nd rfl (.inl rfl) (aN dE (aN dE (aT jw (pv 2) (aN jG (pv 8) ao) (fun _ _=>rfl)) (aT jw (pv 2) (aN ip (pv 8) ao) (fun _ _=>rfl))) iL))
     (au (aD (i:=8) scMade.nd rfl (.inl rfl) (aN bH (pv 8) ao)))))
    (au (bO (iP yi yS yT cE (pv 3) (ae (pv 5) ah)))))))))))
   (au (aK (pv 3))))),?_⟩
  refine⟨xS _,fun l hl=>?_⟩;have npl:p≠l:=af hp hl
  first | refine tvE rfl ?_ | refine⟨_,rfl,?_⟩
  refine⟨(n:Int),rfl,by (first | lia | lia),by (first | lia | lia),?_⟩;refine dC (n:=n) (MdL p l n c H) ?_ ?_ ?_
  ·exact⟨none,none,none,none,none,[],c,rfl,rfl,(fun k h=>nomatch h),List.nodup_nil,ag,⟨o,by rw [ai npl];exact hp,hpo⟩,zB _,by (first | lia | lia),(But.refl p H).new hl⟩
  ·rintro i σ H2 hi ⟨x4,x5,x6,x7,x8,ks,c1,rfl,hkl,hko,hkn,hl2,⟨o2,hp2,hpo2⟩,hc1,hc1',hb⟩;have sk:ks.length<=60:=by (first | lia | lia)
   have keepL:∀ {H3:Hp},But p H2 H3->H3 l=some (.lst (ks.map V.str)):=fun b=>b l _ (xZ npl) hl2;refine⟨wG p n l i c1 H2,?_,?_⟩
   ·rintro σ H3 ⟨x6,x7,x8,z,c2,rfl,hz,⟨o3,hp3,hpo3⟩,g1,g2,b3⟩
    first | refine tvE rfl ?_ | refine⟨_,rfl,?_⟩
    refine⟨p,4,c2,o3,rfl,hp3,hpo3,by decide,by decide,by (first | lia | lia),by (first | lia | lia),fun wy c3 o4 w0 w1 g3 g4 hpo4=>?_⟩;have b4:But p H2 (upd H3 p o4):=b3.trans But.upd;generalize hH4:upd H3 p o4=H4 at b4;have hp4:H4 p=some o4:=by rw [← hH4];exact ag
    have hl4:=keepL b4;have seesL:∀ {H':Hp},H' l=some (.lst (ks.map V.str))->Sees H' (.ref l) (.list (ks.map PyData.str)):=fun e=>.lst e (SeesAll.strs ks);have unit:(A.deeper (envOfC "_law_kinds" (aq j6) s.heap.objs.size f cdv)).units+min (PyData.depth (.list (ks.map PyData.str))) (PyData.depth (.list [])) < cLine:=by
     show _+min (PyData.depthAll (ks.map PyData.str)+1) 1 < cLine;rw [dz];exact hu
    refine⟨wj p n l i wy c1 H2,?_,?_⟩
    ·rintro σ H5 ⟨x7,x8,z,c4,rfl,hz,⟨o5,hp5,hpo5⟩,g5,g6,b5⟩;have hl5:=keepL b5;refine⟨wF p n l i wy c1 H2,?_,?_⟩
     ·rintro σ H6 ⟨x7,x8,z,c5,rfl,hz,hp6,g7,g8,b6⟩;have hl6:=keepL b6;refine⟨fun m σ' H'=>H'=H6/\∃ (z:Str) (t:Nat),σ'=[some (.ref p),some (.int n),some (.str lettersS),some (.ref l),some (.int (0+i)),some (.str z),some (.int wy),x7,some (.int t)]/\m=100 - t/\t<=61/\aU z/\(∀ t',t=t'+1->z=fb t')/\∀ j,j+1 < t->fb j∈ks,⟨100,rfl,z,0,rfl,rfl,by decide,hz,(fun t' e=>by (first | lia | lia)),(fun j h=>by (first | lia | lia))⟩,?_⟩;rintro m σ' H' ⟨rfl,z,t,rfl,rfl,ht,hz,hzt,hw⟩;by_cases hin:z∈ks
      ·first | refine tvE rfl ?_ | refine⟨_,rfl,?_⟩
       first | refine tvE rfl ?_ | refine⟨_,rfl,?_⟩
       refine⟨l,_,rfl,.inl (aAA hl6),rfl,kE ks,true,xQ V.bl (by rw [if_neg xt,oQ,xK hin]),gz ?_⟩;have all:∀ j,j < t->fb j∈ks:=fun j hj=>by
        by_cases e:j+1=t
        ·have:=hzt j e.symm;rw [← this];exact hin
        ·exact hw j (by (first | lia | lia))
       have tl:t<=ks.length:=sC t fb ks (fun a b _ _ e=>qC e) all;refine⟨fun σ' H''=>H''=H'/\σ'=[some (.ref p),some (.int n),some (.str lettersS),some (.ref l),some (.int (0+i)),some (.str (fb t)),some (.int wy),x7,some (.int ((t+1:Nat):Int))],?_,?_⟩
       ·rintro σ' H'' ⟨rfl,rfl⟩;refine⟨100 - (t+1),by (first | lia | lia),rfl,fb t,t+1,rfl,rfl,by (first | lia | lia),sR (by (first | lia | lia)),fun t' e=>?_,fun j hj=>all j (by (first | lia | lia))⟩;have:t=t':=by (first | lia | lia)
        rw [this]
       ·first | refine tvE rfl ?_ | refine⟨_,rfl,?_⟩
        first | refine tvE rfl ?_ | refine⟨_,rfl,?_⟩
        refine⟨_,26,rfl,rfl,⟨by decide,by decide⟩,lettersS,_,97+t / 26,rfl,rfl,cn,?_,?_⟩
        ·rw [show ((t:Int) / 26)=((t / 26:Nat):Int) from by (first | lia | lia)];exact cO _ (by (first | lia | lia))
        first | refine tvE rfl ?_ | refine⟨_,rfl,?_⟩
        first | refine tvE rfl ?_ | refine⟨_,rfl,?_⟩
        refine⟨_,26,rfl,rfl,(by show (0:Int) < 26;decide),lettersS,_,97+t % 26,rfl,rfl,cn,?_,?_⟩
        ·rw [show ((t:Int) % 26)=((t % 26:Nat):Int) from by (first | lia | lia)];exact cO _ (by (first | lia | lia))
        refine⟨_,_,rfl,rfl,by show 1+1<=sizeLine;decide,_,_,rfl,rfl,by show 2+2<=sizeLine;decide,?_⟩
        first | refine tvE rfl ?_ | refine⟨_,rfl,?_⟩
        refine⟨_,1,rfl,rfl,rfl,?_⟩
        rfl
      ·first | refine tvE rfl ?_ | refine⟨_,rfl,?_⟩
       first | refine tvE rfl ?_ | refine⟨_,rfl,?_⟩
       refine⟨l,_,rfl,.inl (aAA hl6),rfl,kE ks,false,xQ V.bl (by rw [if_neg xt,oQ,xM hin]),dw ?_⟩
       first | refine tvE rfl ?_ | refine⟨_,rfl,?_⟩
       refine⟨.inl ⟨rfl,_,aAA hl6⟩,_,rfl,l,_,_,rfl,rfl,hl6,by rw [xn];exact aH (by (first | lia | lia)),?_⟩;refine⟨_,_,_,_,_,ks++[z],c5,rfl,by rw [xq,hkl];rfl,fun k hk=>?_,?_,by rw [ag,xR];rfl,?_,by (first | lia | lia),by (first | lia | lia),fun b u hb' e=>?_⟩
       ·rcases xG.mp hk with hk | hk
        ·exact hko k hk
        ·rw [xr.mp hk];exact hz
       ·exact d5 hkn hin (.refl _)
       ·obtain⟨o6,q1,q2⟩:=hp6;exact⟨o6,by rw [ai npl];exact q1,q2⟩
       ·rw [ai (af e hl)];exact b6 b u hb' (hb b u hb' e)
     ·first | refine tvE rfl ?_ | refine⟨_,rfl,?_⟩
      refine⟨rfl,_,rfl,?_⟩;refine su (fun _=>?_) (fun _=>?_)
      ·first | refine tvE rfl ?_ | refine⟨_,rfl,?_⟩
       refine⟨xS _,fun e ne=>?_⟩;have b6:But p H2 (upd H5 e (.lst [])):=fun b u hb' q=>by rw [ai (af (b5 b u hb' q) ne)];exact b5 b u hb' q
       have npe:p≠e:=af hp5 ne;have hp6:(upd H5 e (.lst [])) p=some o5:=by rw [ai npe];exact hp5
       generalize hH6:upd H5 e (.lst [])=H6 at b6 hp6;have hl6:=keepL b6;refine⟨_,_,seesL hl6,.lst (by rw [← hH6];exact ag) .nil,cI hko,rfl,unit,?_⟩;rw [pK];cases hks:ks with
       | nil =>
        refine⟨false,rfl,?_⟩;refine dw ?_;exact⟨_,_,z,c4,rfl,hz,⟨o5,hp6,hpo5⟩,by (first | lia | lia),by (first | lia | lia),b6⟩
       | cons k0 kr =>
        refine⟨true,rfl,?_⟩;refine gz ?_;obtain⟨y,hy,ha⟩:=pf (show ks≠[] by rw [hks];exact List.cons_ne_nil _ _);have yo:=pb (hko y hy);have yk:=hko y hy;have yl:y.cps.toList.length=y.length:=xJ
        first | refine tvE rfl ?_ | refine⟨_,rfl,?_⟩
        first | refine tvE rfl ?_ | refine⟨_,rfl,?_⟩
        refine⟨1,rfl,l,_,_,_,rfl,rfl,aAA hl6,ha,y,rfl,i7 yk,?_⟩;refine⟨p,(y.length:Nat),c4,o5,rfl,hp6,hpo5,by have:=yk.1;(first | lia | lia),by have:=yk.2.1;(first | lia | lia),by (first | lia | lia),by (first | lia | lia),fun a c5 o6 a0 a1 g7 g8 hpo6=>?_⟩;obtain⟨an,rfl⟩:∃ an:Nat,a=(an:Int):=⟨a.toNat,by (first | lia | lia)⟩;have b7:But p H2 (upd H6 p o6):=b6.trans But.upd;have hl7:=keepL b7
        first | refine tvE rfl ?_ | refine⟨_,rfl,?_⟩
        refine⟨1,rfl,l,_,_,_,rfl,rfl,aAA hl7,ha,_,rfl,an,rfl,y,rfl,i7 yk,?_⟩
        first | refine tvE rfl ?_ | refine⟨_,rfl,?_⟩
        first | refine tvE rfl ?_ | refine⟨_,rfl,?_⟩
        refine⟨p,26,c5,o6,rfl,ag,hpo6,by decide,by decide,by (first | lia | lia),by (first | lia | lia),fun q c6 o7 q0 q1 g9 g10 hpo7=>?_⟩;obtain⟨qn,rfl⟩:∃ qn:Nat,q=(qn:Int):=⟨q.toNat,by (first | lia | lia)⟩;refine⟨lettersS,_,97+qn,rfl,rfl,cn,cO qn (by (first | lia | lia)),?_⟩;have b8:But p H2 (upd (upd H6 p o6) p o7):=b7.trans But.upd;have hl8:=keepL b8;have s1:=mf y an;have s2:=nP y (an+1);generalize Txt.slice y none (some (an:Int))=u1 at s1 ⊢;have l1:u1.length=min an y.length:=by
         have:u1.cps.toList.length=u1.length:=xJ;rw [← this,s1,xN,yl]
        have y4:=yk.2.1;have le:(((⟨#[97+qn]⟩:Str)).cps.toList).length=1:=rfl;refine⟨u1,⟨#[97+qn]⟩,rfl,rfl,y6 (aH (by show u1.length+1<=1000;(first | lia | lia))),?_⟩
        first | refine tvE rfl ?_ | refine⟨_,rfl,?_⟩
        refine⟨1,rfl,l,_,_,_,rfl,rfl,aAA hl8,ha,_,rfl,_,1,rfl,rfl,_,rfl,y,rfl,i7 yk,?_⟩;rw [show ((an:Int)+1)=((an+1:Nat):Int) from by (first | lia | lia)];generalize Txt.slice y (some ((an+1:Nat):Int)) none=u2 at s2 ⊢;have l2:u2.length=y.length - (an+1):=by
         have:u2.cps.toList.length=u2.length:=xJ;rw [← this,s2,yV,yl]
        have l3:(u1++(⟨#[97+qn]⟩:Str)).length=u1.length+1:=by
         have e1:(u1++(⟨#[97+qn]⟩:Str)).cps.toList.length=(u1++(⟨#[97+qn]⟩:Str)).length:=xJ;have e2:u1.cps.toList.length=u1.length:=xJ;rw [← e1,df,xq,e2]
         rfl
        refine⟨_,u2,rfl,rfl,y6 (aH (by rw [l3];(first | lia | lia))),?_⟩;refine⟨_,_,_,c6,rfl,lJ ?_,⟨o7,ag,hpo7⟩,by (first | lia | lia),by (first | lia | lia),b8⟩;rw [df,df,s1,s2];refine⟨?_,?_,fun c hc=>?_⟩
        ·rw [xq,xq,le];(first | lia | lia)
        ·rw [xq,xq,le,xN,yV,yl];(first | lia | lia)
        ·rcases xG.mp hc with hc | hc
         ·rcases xG.mp hc with hc | hc
          ·exact yo.2.2 c (yL hc)
          ·have:c=97+qn:=by simpa using hc
           (first | lia | lia)
         ·exact yo.2.2 c (yK hc)
      ·refine dw ?_;exact⟨_,_,z,c4,rfl,hz,⟨o5,hp5,hpo5⟩,by (first | lia | lia),by (first | lia | lia),b5⟩
    ·first | refine tvE rfl ?_ | refine⟨_,rfl,?_⟩
     refine⟨rfl,_,rfl,?_⟩;refine su (fun _=>?_) (fun _=>?_)
     ·first | refine tvE rfl ?_ | refine⟨_,rfl,?_⟩
      refine⟨xS _,fun e ne=>?_⟩;have b5:But p H2 (upd H4 e (.lst [])):=fun b u hb' q=>by rw [ai (af (b4 b u hb' q) ne)];exact b4 b u hb' q
      have npe:p≠e:=af hp4 ne;have hp5:(upd H4 e (.lst [])) p=some o4:=by rw [ai npe];exact hp4
      generalize hH5:upd H4 e (.lst [])=H5 at b5 hp5;have hl5:=keepL b5;refine⟨_,_,seesL hl5,.lst (by rw [← hH5];exact ag) .nil,cI hko,rfl,unit,?_⟩;rw [pK];cases hks:ks with
      | nil =>
       refine⟨false,rfl,?_⟩;refine dw ?_;exact⟨_,_,z,c3,rfl,hz,⟨o4,hp5,hpo4⟩,by (first | lia | lia),by (first | lia | lia),b5⟩
      | cons k0 kr =>
       refine⟨true,rfl,?_⟩;refine gz ?_;obtain⟨y,hy,ha⟩:=pf (show ks≠[] by rw [hks];exact List.cons_ne_nil _ _);have yo:=pb (hko y hy)
       first | refine tvE rfl ?_ | refine⟨_,rfl,?_⟩
       refine⟨1,rfl,l,_,_,_,rfl,rfl,aAA hl5,ha,?_⟩
       first | refine tvE rfl ?_ | refine⟨_,rfl,?_⟩
       first | refine tvE rfl ?_ | refine⟨_,rfl,?_⟩
       refine⟨p,26,c3,o4,rfl,hp5,hpo4,by decide,by decide,by (first | lia | lia),by (first | lia | lia),fun q c4 o5 q0 q1 g5 g6 hpo5=>?_⟩;obtain⟨qn,rfl⟩:∃ qn:Nat,q=(qn:Int):=⟨q.toNat,by (first | lia | lia)⟩;refine⟨lettersS,_,97+qn,rfl,rfl,cn,cO qn (by (first | lia | lia)),?_⟩;have sz:(y++(⟨#[97+qn]⟩:Str)).length<=5:=by
        have e1:(y++(⟨#[97+qn]⟩:Str)).cps.toList.length=(y++(⟨#[97+qn]⟩:Str)).length:=xJ;have e2:=xQ List.length (df y ⟨#[97+qn]⟩);rw [xq] at e2;have e3:((⟨#[97+qn]⟩:Str).cps.toList).length=1:=rfl;have:=yo.2.1
        (first | lia | lia)
       refine⟨y,⟨#[97+qn]⟩,rfl,rfl,?_,?_⟩
       ·have:=(hko y hy).2.1;exact y6 (aH (by show y.length+1<=1000;(first | lia | lia)))
       refine⟨4,rfl,_,rfl,y6 (aH (by (first | lia | lia))),?_⟩;refine⟨_,_,_,c4,rfl,lJ ?_,⟨o5,ag,hpo5⟩,by (first | lia | lia),by (first | lia | lia),b5.trans But.upd⟩;have e4:=mf (y++(⟨#[97+qn]⟩:Str)) 4;rw [df] at e4;rw [show ((4:Nat):Int)=4 from rfl] at e4;rw [e4];refine⟨?_,?_,fun c hc=>?_⟩
       ·rw [xN,xq];have:=yo.1
        (first | lia | lia)
       ·rw [xN];(first | lia | lia)
       ·rcases xG.mp (yL hc) with hc | hc
        ·exact yo.2.2 c hc
        ·have:c=97+qn:=by simpa using hc
         (first | lia | lia)
     ·refine dw ?_;exact⟨_,_,z,c3,rfl,hz,⟨o4,hp4,hpo4⟩,by (first | lia | lia),by (first | lia | lia),b4⟩
   ·refine⟨rfl,?_⟩;dsimp only [bq,eZ];refine bE _ _ _ _ _ _ _ _ _ ?_
    first | refine tvE rfl ?_ | refine⟨_,rfl,?_⟩
    refine⟨p,4,c1,o2,rfl,hp2,hpo2,by decide,by decide,by (first | lia | lia),by (first | lia | lia),fun r c2 o3 r0 r1 h1 h2 hpo3=>?_⟩;refine⟨1,r,rfl,rfl,1+r,rfl,by (first | lia | lia),by (first | lia | lia),?_⟩;intro D hD;have npD:p≠D:=af (show (upd H2 p o3) p=some o3 from ag) hD;have nlD:l≠D:=af (show (upd H2 p o3) l=some _ from (But.upd:But p H2 (upd H2 p o3)) l _ (xZ npl) hl2) hD;obtain⟨m,hm⟩:∃ m:Nat,(1+r).toNat=m/\m<=4/\1<=m:=⟨_,rfl,by (first | lia | lia),by (first | lia | lia)⟩;rw [hm.1];refine dB (fun j ys H3=>∃ (ss:List Str) (c3:Int),ys=ss.map V.str/\ss.length=j/\(∀ x∈ss,∃ c,x=⟨#[c]⟩/\97<=c/\c<=122)/\H3 D=some (.lst ys)/\aJ H3 p c3/\c2<=c3/\c3<=c2+j/\But p H2 H3) ?_ (fun j ys H3 ⟨_,_,_,_,_,z,_⟩=>z) ?_ ?_
    ·exact⟨[],c2,rfl,rfl,(fun x h=>nomatch h),ag,⟨o3,by rw [ai npD];exact ag,hpo3⟩,zB _,by (first | lia | lia),fun b u hb' e=>by rw [ai (af ((But.upd:But p H2 (upd H2 p o3)) b u hb' e) hD)];exact (But.upd:But p H2 (upd H2 p o3)) b u hb' e⟩
    ·rintro j ys H3 hj ⟨ss,c3,rfl,hsl,hss,hD3,⟨o4,hp4,hpo4⟩,g1,g2,hb3⟩;refine dc rfl ?_
     first | refine tvE rfl ?_ | refine⟨_,rfl,?_⟩
     first | refine tvE rfl ?_ | refine⟨_,rfl,?_⟩
     refine⟨p,26,c3,o4,rfl,hp4,hpo4,by decide,by decide,by (first | lia | lia),by (first | lia | lia),fun q c4 o5 q0 q1 g3 g4 hpo5=>?_⟩;obtain⟨qn,rfl⟩:∃ qn:Nat,q=(qn:Int):=⟨q.toNat,by (first | lia | lia)⟩;refine⟨lettersS,_,97+qn,rfl,rfl,cn,cO qn (by (first | lia | lia)),?_⟩;refine⟨by rw [ai (xZ npD)];exact hD3,by rw [xn];exact aH (by (first | lia | lia)),nx hj ?_⟩;refine⟨ss++[⟨#[97+qn]⟩],c4,by simp,by simp [hsl],fun x hx=>?_,ag,⟨o5,by rw [ai npD,ag],hpo5⟩,by (first | lia | lia),by (first | lia | lia),fun b u hb' e=>?_⟩
     ·rcases xG.mp hx with hx | hx
      ·exact hss x hx
      ·exact⟨97+qn,xr.mp hx,by (first | lia | lia),by (first | lia | lia)⟩
     ·have e3:=hb3 b u hb' e;have nbD:b≠D:=af ((But.upd:But p H2 (upd H2 p o3)) b u hb' e) hD;rw [ai nbD,ai hb'];exact e3
    ·rintro ys H3 ⟨ss,c3,rfl,hsl,hss,hD3,hp4,g1,g2,hb3⟩;obtain⟨q1,q2⟩:=jx hss;refine⟨Str.ofString "",D,ss,rfl,rfl,aAA hD3,?_,?_⟩
     ·rw [mP hss];have:(Str.ofString "").length=0:=by decide
      rw [this]
      (first | lia | lia)
     ·exact⟨_,_,_,_,c3,rfl,lJ ⟨by rw [gN,q1];(first | lia | lia),by rw [gN,q1];(first | lia | lia),by rw [gN];exact q2⟩,hp4,by (first | lia | lia),by (first | lia | lia),hb3⟩
  ·rintro σ H2 ⟨x4,x5,x6,x7,x8,ks,c',rfl,hkl,hko,hkn,hl2,hp2,h1,h2,hb⟩
   first | refine tvE rfl ?_ | refine⟨_,rfl,?_⟩
   exact k l ks c' H2 hl hkl hko hkn hl2 hp2 h1 (by (first | lia | lia)) hb
end
def At (p:Addr)(H:Hp)(b:Addr)(o:HO):Prop:=H b=some o/\b≠p
theorem At.on {p b:Addr}{H H':Hp}{o:HO}(x:At p H b o)(h:But p H H'):At p H' b o:=⟨h b o x.2 x.1,x.2⟩
structure RoomsW (p:Addr)(H:Hp)(rA:Addr)(vs:List V)(rs:List Rm)(ws:List Addr):Prop where
 ls:At p H rA (.lst vs)
 l1:vs.length=rs.length
 l2:ws.length=rs.length
 nd:ws.Nodup
 off:rA ∉ ws
 item:∀ (i:Nat) (r:Rm) (w:Addr),rs[i]? = some r->ws[i]? = some w->∃ t d:Addr,vs[i]? = some (.ref t)/\At p H t (.tup [.ref d,.ref w])/\At p H d (.lst (r.1.map V.str))/\At p H w (.lst (r.2.map V.str))/\d ∉ ws/\d≠rA
theorem RoomsW.on {p rA:Addr}{H H':Hp}{vs:List V}{rs:List Rm}{ws:List Addr}(x:RoomsW p H rA vs rs ws)(h:But p H H'):RoomsW p H' rA vs rs ws :=
 ⟨x.ls.on h,x.l1,x.l2,x.nd,x.off,fun i r w e1 e2=>let ⟨t,d,a,b,c,d',e⟩:=x.item i r w e1 e2;⟨t,d,a,b.on h,c.on h,d'.on h,e⟩⟩
theorem RoomsW.more {p rA t d w:Addr}{H0 H:Hp}{vs:List V}{rs:List Rm}{ws:List Addr}{r:Rm}(x0:RoomsW p H0 rA vs rs ws)(hb:But p H0 H)(ht:At p H t (.tup [.ref d,.ref w]))(hd:At p H d (.lst (r.1.map V.str)))(hw:At p H w (.lst (r.2.map V.str)))
 (d0:H0 d=none)(w0:H0 w=none)(n3:d≠w) :
 RoomsW p (upd H rA (.lst (vs++[.ref t]))) rA (vs++[.ref t]) (rs++[r]) (ws++[w]):=by
 have x:=x0.on hb;have tn:t≠rA:=oX ht.1 x.ls.1 (fun z=>nomatch z);have up:∀ {b o},b≠rA->At p H b o->At p (upd H rA (.lst (vs++[.ref t]))) b o:=fun n h=>⟨by rw [ai n];exact h.1,h.2⟩;have n4:d≠rA:=fun z=>by have:=x0.ls.1;rw [← z,d0] at this;cases this
 have n5:w≠rA:=fun z=>by have:=x0.ls.1;rw [← z,w0] at this;cases this
 have mem:∀ a∈ws,∃ o,H0 a=some o:=fun a ha=>by
  obtain⟨i,hi,e⟩:=zc.mp ha;have hi':i < rs.length:=by rw [← x0.l2];exact hi
  obtain⟨_,_,_,_,_,h,_⟩:=x0.item i rs[i] a (xm hi') (by rw [xm hi,e]);exact⟨_,h.1⟩
 have n1:w ∉ ws:=fun z=>by obtain⟨o,e⟩:=mem w z;rw [w0] at e;cases e
 have n2:d ∉ ws:=fun z=>by obtain⟨o,e⟩:=mem d z;rw [d0] at e;cases e
 refine⟨⟨ag,x.ls.2⟩,by simp [x.l1],by simp [x.l2],d5 x.nd n1 (.refl _),fun z=>?_,fun i r' w' e1 e2=>?_⟩
 ·rcases xG.mp z with z | z
  ·exact x.off z
  ·exact n5 (xr.mp z).symm
 ·by_cases hi:i < rs.length
  ·rw [yr hi] at e1;rw [yr (by rw [x.l2];exact hi)] at e2;obtain⟨t',d',a1,a2,a3,a4,a5,a6⟩:=x0.item i r' w' e1 e2;have hw':w'≠rA:=fun z=>x.off (z▸xV e2);refine⟨t',d',by rw [yr (by rw [x.l1];exact hi)];exact a1,up (oX (a2.on hb).1 x.ls.1 (fun z=>nomatch z)) (a2.on hb),up a6 (a3.on hb),up hw' (a4.on hb),fun z=>?_,a6⟩;rcases xG.mp z with z | z
   ·exact a5 z
   ·exact af a3.1 w0 (xr.mp z)
  ·have hl:i < (rs++[r]).length:=(xp.mp e1).1;rw [xq,y8] at hl;have ei:i=rs.length:=by lia
   subst ei;rw [xX (xx _),zU] at e1;rw [xX (by rw [x.l2];exact xx _),x.l2,zU] at e2;cases e1;cases e2;refine⟨t,d,by rw [xX (by rw [x.l1];exact xx _),x.l1,zU];rfl,up tn ht,up n4 hd,up n5 hw,fun z=>?_,n4⟩;rcases xG.mp z with z | z
   ·exact n2 z
   ·exact n3 (xr.mp z)
theorem RoomsW.ext {p rA w:Addr}{H:Hp}{vs:List V}{rs:List Rm}{ws:List Addr}{r:Rm}{i:Nat}{ss:List Str}(x:RoomsW p H rA vs rs ws)(e1:rs[i]? = some r)(e2:ws[i]? = some w) :
 RoomsW p (upd H w (.lst (r.2.map V.str++ss.map V.str))) rA vs (rs.set i (r.1,r.2++ss)) ws:=by
 obtain⟨t,d,a1,a2,a3,a4,a5,a6⟩:=x.item i r w e1 e2;have hwr:rA≠w:=fun z=>x.off (by rw [z];exact xV e2);have up:∀ {b o},b≠w->At p H b o->At p (upd H w (.lst (r.2.map V.str++ss.map V.str))) b o:=fun n h=>⟨by rw [ai n];exact h.1,h.2⟩;refine⟨up hwr x.ls,by simp [x.l1],by simp [x.l2],x.nd,x.off,fun j r' w' f1 f2=>?_⟩;have hi:i < rs.length:=(xp.mp e1).1;by_cases hj:j=i
 ·subst hj;rw [e2] at f2;cases f2;rw [zk hi] at f1;cases f1;refine⟨t,d,a1,up (oX a2.1 a4.1 (fun z=>nomatch z)) a2,up (fun z=>a5 (z▸xV e2)) a3,⟨by rw [ag,xR],a4.2⟩,a5,a6⟩
 ·rw [z5 (xZ hj)] at f1;obtain⟨t',d',b1,b2,b3,b4,b5,b6⟩:=x.item j r' w' f1 f2;have nw:w'≠w:=fun z=>by
   subst z;have h1:=(xp.mp e2);have h2:=(xp.mp f2);rcases Nat.lt_or_gt_of_ne hj with l | l
   ·exact (y3.mp x.nd j i h2.1 h1.1 l) (h2.2.trans h1.2.symm)
   ·exact (y3.mp x.nd i j h1.1 h2.1 l) (h1.2.trans h2.2.symm)
  exact⟨t',d',b1,up (oX b2.1 a4.1 (fun z=>nomatch z)) b2,up (fun z=>b5 (z▸xV e2)) b3,up nw b4,b5,b6⟩
theorem RoomsW.rooms {p rA:Addr}{H:Hp}{vs:List V}{rs:List Rm}{ws:List Addr}(x:RoomsW p H rA vs rs ws):RoomsAt H vs rs:=⟨x.l1,fun i v r e1 e2=>by
 have hi:i < rs.length:=(xp.mp e2).1;have hi2:i < ws.length:=by rw [x.l2];exact hi
 obtain⟨t,d,a1,a2,a3,a4,_⟩:=x.item i r ws[i] e2 (xm hi2);rw [e1] at a1;cases a1;exact⟨t,d,_,rfl,a2.1,a3.1,a4.1⟩⟩
theorem uS {xs:List Int}{r:Int}(h0:0<=r)(h1:r < xs.length):∃ m∈xs,atI (xs.map V.int) r=some (.int m):=by
 obtain⟨j,rfl⟩:∃ j:Nat,r=(j:Int):=⟨r.toNat,by lia⟩;have hj:j < xs.length:=by lia
 exact⟨xs[j],yy hj,cf (by rw [xO,xm hj];rfl)⟩
def eP (r:Rm):PyData:=.tuple [.list (r.1.map PyData.str),.list (r.2.map PyData.str)]
theorem jv {H:Hp}:∀ {vs:List V} {rs:List Rm},RoomsAt H vs rs->SeesAll H vs (rs.map eP)
 | [],[],_=>.nil
 | [],_::_,h=>absurd h.1 (by simp)
 | _::_,[],h=>absurd h.1 (by simp)
 | v::vs,r::rs,h=>by
  obtain⟨t,a,b,rfl,h1,h2,h3⟩:=h.2 0 v r rfl rfl;refine .cons (.tup h1 (.cons (.lst h2 (SeesAll.strs _)) (.cons (.lst h3 (SeesAll.strs _)) .nil))) (jv ⟨by simpa using h.1,fun i v' r' e1 e2=>h.2 (i+1) v' r' (by simpa using e1) (by simpa using e2)⟩)
theorem k7:∀ {rs:List Rm},(∀ r∈rs,(∀ k∈r.1,aU k)/\∀ k∈r.2,aU k)->PyData.canLayAll0 (rs.map eP)=true
 | [],_=>rfl
 | r::rs,h=>by
  obtain⟨h1,h2⟩:=h r xD;have e1:=cI h1;have e2:=cI h2;have e3:=k7 fun q hq=>h q (xu _ hq);rw [yh];simp only [PyData.canLayAll0,PyData.canLay0,eP,e1,e2,e3,ab3]
end K7
namespace L2
open PySem PyProof.Rows
theorem pD {K:PySem.W.Frag}{nl:Nat}{ix:List Nat}{tf:TT}{te:TE}{σ:St}{D:Addr}{ys:List V}{H:Hp}{x:V}{nxt:List V->Hp->Prop}{i j:Nat}(a:Addr)(v1 v2:V)(hx:x=.ref a)(hs:SqT K H a [v1,v2])
 (hl:(((gM nl ix σ).set i (some v1)).set j (some v2)).drop nl=ix.map fun j=>(σ[j]?).join)
 (h:tf (((gM nl ix σ).set i (some v1)).set j (some v2)) H fun b H5=>if b=true then te (((gM nl ix σ).set i (some v1)).set j (some v2)) H5 fun y H6=>H6 D=some (.lst ys)/\ys.length < sizeLine/\nxt (ys++[y]) (upd H6 D (.lst (ys++[y]))) else nxt ys H5) :
 bF nl ix (tJ K 2 (jN (dh i) (jN (dh j) uo))) tf te σ D ys H x nxt:=by
 subst hx;unfold bF tJ jN dh uo;exact⟨a,_,rfl,hs,rfl,v1,[v2],rfl,v2,[],rfl,rfl,⟨by simp,hl⟩,h⟩
end L2
namespace K7
open PySem L2 PyProof.Rows
def dd:List Str->List Str
 | []=>[]
 | a::r=>if a∈dd r then dd r else a::dd r
def pend:List Nat->List Rm->Nat
 | m::ws,r::rs=>(if m=0 then 0 else r.2.length)+pend ws rs
 | _,_=>0
abbrev ax (ns:List Nat):List V:=ns.map fun i=>V.int (i:Nat)
theorem dI (i:Nat)(ns:List Nat):inV (.int i) (ax ns)=decide (i∈ns):=by
 unfold inV ax
 induction ns with
 | nil=>rfl
 | cons a r ih =>
  rw [yh,aaA,ih];show ((a:Int) == (i:Int) || decide (i∈r))=_;by_cases e:a=i
  ·subst e;simp
  ·have e':¬ ((a:Int)=(i:Int)):=by lia
   have e2:¬ i=a:=fun z=>e z.symm;have:((a:Int) == (i:Int))=false:=by simpa using e'
   rw [this];simp [e2]
theorem eu (ns:List Nat):(ax ns).all jd=true:=by
 rw [aaS,yW];intro _ _
 rfl
def i9 (hand locks:List Str):Bool:=locks.all fun x=>decide (locks.count x<=hand.count x)
def iq (hand:List Str)(r:Rm):List Str:=r.1.foldl List.erase hand++r.2
theorem cz (x:Str):∀ (l h:List Str),(l.foldl List.erase h).count x=h.count x - l.count x
 | [],h=>by simp
 | a::l,h=>by
  rw [aac,cz x l,List.count_erase,List.count_cons];by_cases e:a=x
  ·subst e;simp;lia
  ·have:¬ x=a:=fun z=>e z.symm;simp [e,this]
theorem gF:∀ (l h:List Str),(l.foldl List.erase h).length<=h.length
 | [],h=>xx _
 | a::l,h=>by
  rw [aac];exact xE (gF l _) (List.length_erase_le ..)
theorem uI {hand locks:List Str}(h:i9 hand locks=true){i:Nat}(hi:i < locks.length):locks[i]∈(locks.take i).foldl List.erase hand:=by
 unfold i9 at h;rw [yW] at h;have h1:=zf (h locks[i] (yy hi));have h2:=cz locks[i] (locks.take i) hand;have e:locks=locks.take i++locks[i]::locks.drop (i+1):=by rw [← zA hi,yt]
 have h3:locks.count locks[i]=(locks.take i).count locks[i]+(1+(locks.drop (i+1)).count locks[i]):=by
  have:=xQ (List.count locks[i]) e;rw [yC,List.count_cons_self] at this;lia
 exact List.count_pos_iff.mp (by lia)
theorem pC (hand:List Str)(r:Rm):(iq hand r).length<=hand.length+r.2.length:=by
 unfold iq;rw [xq];exact Nat.add_le_add_right (gF _ _) _
def ay (ks:List Str)(rs:List Rm)(order:List Nat):List Str:=order.foldl (fun hd i=>iq hd ((rs[i]?).getD ([],[]))) ks
theorem fz (ks:List Str)(rs:List Rm)(order:List Nat)(i:Nat):ay ks rs (order++[i])=iq (ay ks rs order) ((rs[i]?).getD ([],[])):=by
 unfold ay;rw [aba]
 rfl
theorem jo {ks:List Str}{rs:List Rm}(m:Nat)(hm:∀ r∈rs,r.2.length<=m):∀ (order:List Nat) (ks:List Str),(ay ks rs order).length<=ks.length+m * order.length
 | [],ks=>by simp [ay]
 | i::order,ks=>by
  have h1:=jo m hm (ks:=ks) order (iq ks ((rs[i]?).getD ([],[])));have h2:=pC ks ((rs[i]?).getD ([],[]));have h3:((rs[i]?).getD ([],[])).2.length<=m:=by
   cases e:rs[i]? with
   | none=>exact xS _
   | some r=>exact hm r (xV e)
  rw [yx,Nat.mul_succ];show (ay (iq ks ((rs[i]?).getD ([],[]))) rs order).length<=_;lia
def aP (rs:List Rm)(hand:List Str)(order:List Nat):List Nat:=(List.range rs.length).filter fun i=>!decide (i∈order) && i9 hand ((rs[i]?).getD ([],[])).1
def Gone (ks:List Str)(rs:List Rm)(order:List Nat):Prop:=∀ j i,order[j]? = some i->i < rs.length/\i ∉ order.take j/\i9 (ay ks rs (order.take j)) ((rs[i]?).getD ([],[])).1=true
theorem mM {α:Type}[DecidableEq α]:∀ {l L:List α},l.Nodup->(∀ x∈l,x∈L)->∃ r,(l++r).Perm L
 | [],L,_,_=>⟨L,abM _⟩
 | a::l,L,hn,h=>by
  rw [zS] at hn;have ha:=h a xD;obtain⟨r,hr⟩:=mM (l:=l) (L:=L.erase a) hn.2 fun x hx=>(aav (fun z=>hn.1 (by rw [← z];exact hx))).mpr (h x (xu _ hx));exact⟨r,(List.Perm.cons a hr).trans (List.perm_cons_erase ha).symm⟩
structure Ord (ks:List Str)(rs:List Rm)(order:List Nat):Prop where
 gone:Gone ks rs order
 nd:order.Nodup
 lt:∀ i∈order,i < rs.length
theorem Gone.ord {ks:List Str}{rs:List Rm}{order:List Nat}(h:Gone ks rs order):Ord ks rs order:=by
 refine⟨h,?_,fun i hi=>?_⟩
 ·rw [List.nodup_iff_pairwise_ne]<;>skip
  refine y3.mpr fun a b ha hb hab e=>?_;have q:=(h b order[b] (xm hb)).2.1;refine q (zc.mpr ⟨a,by rw [xN];lia,?_⟩);rw [aaj];exact e
 ·obtain⟨j,hj,e⟩:=zc.mp hi;exact (h j i (by rw [xm hj,e])).1
def lq:Sp:=fun vs H Q _=>∃ n:Int,vs=[.int n]/\∀ H',Same H H'->Q (.bl true) H'
def jY:Sp:=fun vs H Q _=>∃ (a b:Addr) (hand locks:List Str),vs=[.ref a,.ref b]/\H a=some (.lst (hand.map V.str))/\H b=some (.lst (locks.map V.str))/\locks.length<=1000/\∀ H',Same H H'->Q (.bl (i9 hand locks)) H'
def jI:Sp:=fun vs H Q _=>∃ (a:Addr) (v:V) (hand:List Str) (r:Rm),vs=[.ref a,v]/\H a=some (.lst (hand.map V.str))/\RoomAt H v r/\i9 hand r.1=true/\hand.length+r.2.length<=sizeLine ∧
 ∀ (l:Addr) (H':Hp),Same H H'->H l=none->H' l=some (.lst ((iq hand r).map V.str))->Q (.ref l) H'
section
variable {P:Program}{w:World}{K:PySem.W.Frag}{mg:Str->Option Value}{base:Heap}
theorem lG:aL ["thing"] ["thing"] (aq fk):=scM rfl rfl rfl rfl (by decide +kernel)
theorem rK {f:Addr}{fd:FuncData}(F:Fun K "is_whole" "is_whole" fk f fd)(p9:mg "bool" = none)(jb:mg "int" = none)(aR:mg "isinstance" = none):bf P w K mg base CX0 1 f fd ["thing"] lq:=by
 refine F.ok lG (fun vs H Q E h=>?_) (fun cdv A outer s H vs Q E hr h=>?_)
 ·obtain⟨n,rfl,_⟩:=h
  rfl
 ·obtain⟨n,rfl,k⟩:=h;refine⟨_,(au (aK (dW (av bB rfl aR (by decide +kernel) (ae (pv 0) (ae (dM (v:=.ty "int") (u:=.type "int") rfl jb (by decide +kernel) rfl) ah))) (gS (uV (av bB rfl aR (by decide +kernel) (ae (pv 0) (ae (dM (v:=.ty "bool") (u:=.type "bool") rfl p9 (by decide +kernel) rfl) ah)))))))),?_⟩;refine⟨_,rfl,_,_,_,true,rfl,.int n,dm K _,true,rfl,gz ?_⟩;exact⟨_,rfl,_,_,_,false,rfl,.int n,kn K,false,rfl,k _ (Same.refl H)⟩
theorem pJ:aL ["hand","locks"] ["hand","locks"] (aq gm):=scM rfl rfl rfl rfl (by decide +kernel)
theorem lu:(["kind","hand","locks"]:List Str).Nodup:=by decide +kernel
theorem oW {f:Addr}{fd:FuncData}(F:Fun K "serves" "serves" gm f fd)(kX:mg "all" = none):bf P w K mg base CX0 1 f fd ["hand","locks"] jY:=by
 refine F.ok pJ (fun vs H Q E h=>?_) (fun cdv A outer s H vs Q E hr h=>?_)
 ·obtain⟨a,b,hand,locks,rfl,_⟩:=h
  rfl
 ·obtain⟨a,b,hand,locks,rfl,ha,hb,hl,k⟩:=h;refine⟨_,(au (aK (av (fY rfl) rfl kX (by decide +kernel) (ae (og (tg:=.Name "kind" _) (outer:=aq (gm)) (N:=["hand","locks"]) (N':=["kind","hand","locks"]) (nl:=1) (ix:=[0,1]) rfl rfl rfl (cF (pv 1))
   (fun _ _ _ _=>(aF (i:=0) lu rfl (.inl rfl) (.inr rfl))) (fun _ _ _ _=>dJ)
   (fun _ _ _ _=>(bI vc (px (K:=K) rfl yi abd abe ma (pv 1) (ae (pv 0) ah)) (px (K:=K) rfl yi abd abe ma (pv 2) (ae (pv 0) ah)) (aY _)))) ah)))),?_⟩
  dsimp only [n9,tCB,bq,eZ];refine bE _ _ _ _ _ _ _ _ _ ?_;refine⟨_,rfl,b,rfl,⟨_,aAA hb⟩,?_⟩;intro D hD;refine cD (xs:=locks.map V.str) (fun i ys H'=>ys=((locks.take i).map fun x=>V.bl (decide (locks.count x<=hand.count x)))/\i<=1000/\H' D=some (.lst ys)/\Same H H') ⟨rfl,by decide,ag,fun b u e=>by rw [ai (af e hD)];exact e⟩ (fun i ys H' ⟨_,_,h,_⟩=>h) (fun i ys H' ⟨_,_,_,s⟩=>aAA (s _ _ hb)) ?_ ?_
  ·rintro i ys H2 x hx ⟨rfl,hi0,hD2,s2⟩;have hi:=(xp.mp hx).1;have hi':=hi;rw [xn] at hi';rw [xO,xm hi'] at hx;cases hx;refine dc rfl ?_;refine⟨_,rfl,.inl ⟨rfl,_,aAA (s2 _ _ ha)⟩,_,rfl,a,hand,locks[i],rfl,rfl,s2 _ _ ha,?_⟩;refine⟨_,rfl,.inl ⟨rfl,_,aAA (s2 _ _ hb)⟩,_,rfl,b,locks,locks[i],rfl,rfl,s2 _ _ hb,?_⟩;refine⟨_,_,rfl,rfl,hD2,by rw [xn,xN];exact aH (by lia),nx hi ⟨?_,(by lia:i+1<=1000),ag,fun b u e=>?_⟩⟩
   ·rw [yn,xm hi',xR];have e1:decide (((locks.count locks[i]:Nat):Int)<=((hand.count locks[i]:Nat):Int))=decide (locks.count locks[i]<=hand.count locks[i]):=decide_eq_decide.mpr Int.ofNat_le;exact xQ (fun z=>_++[V.bl z]) e1
   ·rw [ai (af e hD)];exact s2 b u e
  ·rintro ys H2 ⟨rfl,_,hD2,s2⟩;rw [xn,yv] at hD2;refine⟨D,locks.map (fun x=>decide (locks.count x<=hand.count x)),rfl,aAA (by rw [hD2,aco];rfl),?_⟩;have e:(locks.map (fun x=>decide (locks.count x<=hand.count x))).all id=i9 hand locks:=by rw [aaS];rfl
   rw [e];exact k H2 s2
theorem bN:aL ["hand","room","locks","within","rest","kind"] ["hand","room"] (aq dv):=scM rfl rfl rfl rfl (by decide +kernel)
theorem pI {f:Addr}{fd:FuncData}(F:Fun K "hand_behind" "hand_behind" dv f fd)(bU:mg "list" = none):bf P w K mg base CX0 1 f fd ["hand","room"] jI:=by
 refine F.ok bN (fun vs H Q E h=>?_) (fun cdv A outer s H vs Q E hr h=>?_)
 ·obtain⟨a,v,hand,r,rfl,_⟩:=h
  rfl
 ·obtain⟨a,v,hand,r,rfl,ha,⟨t,b,c,rfl,ht,hb,hc⟩,hm,hl,k⟩:=h;refine⟨_,(aj (jn (pv 1) (iW rfl (bo (aF (i:=2) bN.nd rfl (.inl rfl)) (bo (aF (i:=3) bN.nd rfl (.inl rfl)) dF))))
   (aj (aD (i:=4) bN.nd rfl (.inl rfl) (bV cy rfl bU (by decide +kernel) (ae (pv 0) ah)))
   (aj (bu (dZ yF rfl (cF (pv 2)) (aF (i:=5) bN.nd rfl (.inl rfl))
    (au (bO (iP yi abb abc ko (pv 4) (ae (pv 5) ah))))))
   (au (aK (aN gu (pv 4) (pv 3))))))),?_⟩
  refine⟨_,rfl,t,_,rfl,aAB ht,rfl,_,_,rfl,_,_,rfl,rfl,?_⟩;refine⟨_,rfl,a,_,rfl,.inl (aAA ha),fun l nl=>?_⟩;have s1:∀ o,Same H (upd H l o):=fun o b u e=>by rw [ai (af e nl)];exact e
  refine⟨fun σ' H'=>∃ x5,σ'=[some (.ref a),some (.ref t),some (.ref b),some (.ref c),some (.ref l),x5]/\H' l=some (.lst ((r.1.foldl List.erase hand).map V.str))/\Same H H',?_,?_⟩
  ·rintro σ H2 ⟨x5,rfl,hl2,s2⟩;refine⟨_,rfl,_,rfl,l,c,_,_,rfl,rfl,hl2,s2 _ _ hc,?_,fun p np=>?_⟩
   ·rw [xn,xn];exact xE (Nat.add_le_add_right (gF _ _) _) hl
   ·refine k p _ (fun b u e=>?_) (s2.free np) (by rw [ag];unfold iq;rw [xR]);have:=s2 b u e;rw [ai (af this np)];exact this
  ·refine⟨_,rfl,b,rfl,⟨_,aAA (s1 _ _ _ hb)⟩,?_⟩;refine ic (xs:=r.1.map V.str) (fun i σ' H'=>∃ x5,σ'=[some (.ref a),some (.ref t),some (.ref b),some (.ref c),some (.ref l),x5]/\H' l=some (.lst (((r.1.take i).foldl List.erase hand).map V.str))/\Same H H') ⟨_,rfl,ag,s1 _⟩ (fun i σ H' _ ⟨_,_,_,s⟩=>aAA (s _ _ hb)) ?_ ?_
   ·rintro i x σ H2 hx ⟨x5,rfl,hl2,s2⟩;have hi:=(xp.mp hx).1;rw [xn] at hi;rw [xO,xm hi] at hx;cases hx;refine⟨_,rfl,.inl ⟨rfl,_,aAA hl2⟩,_,rfl,l,_,r.1[i],rfl,rfl,hl2,uI hm hi,?_⟩;refine⟨_,rfl,?_,fun b u e=>?_⟩
    ·rw [ag,yn,xm hi,aba]
     rfl
    ·rw [ai (af e nl)];exact s2 b u e
   ·rintro σ H2 ⟨x5,rfl,hl2,s2⟩;rw [xn,yv] at hl2;exact⟨x5,rfl,hl2,s2⟩
def qu:Sp:=fun vs H Q _=>∃ (r a g:Addr) (n:Nat) (us:List V) (rs:List Rm) (hand:List Str) (gone:List Nat),vs=[.ref r,.ref a,.ref g,.int n]/\H r=some (.lst us)/\RoomsAt H us rs/\(∀ q∈rs,q.1.length<=1000)/\H a=some (.lst (hand.map V.str))/\H g=some (.lst (ax gone))/\n < rs.length ∧
 ∀ H',Same H H'->Q (.bl (!decide (n∈gone) && i9 hand ((rs[n]?).getD ([],[])).1)) H'
theorem jA:aL ["rooms","hand","gone","number"] ["rooms","hand","gone","number"] (aq eU):=scM rfl rfl rfl rfl (by decide +kernel)
theorem sQ {f fW fS:Addr}{fd fdW fdS:FuncData}(F:Fun K "is_step" "is_step" eU f fd)(gJ:bf P w K mg base CX0 1 fW fdW ["thing"] lq)(cW:Cal K mg "is_whole" ["thing"] fW fdW)
 (jJ:bf P w K mg base CX0 1 fS fdS ["hand","locks"] jY)(eN:Cal K mg "serves" ["hand","locks"] fS fdS)(bp:mg "len" = none):bf P w K mg base CX0 2 f fd ["rooms","hand","gone","number"] qu:=by
 refine F.ok jA (fun vs H Q E h=>?_) (fun cdv A outer s H vs Q E hr h=>?_)
 ·obtain⟨r,a,g,n,us,rs,hand,gone,rfl,_⟩:=h
  rfl
 ·obtain⟨r,a,g,n,us,rs,hand,gone,rfl,hr',hR,hl,ha,hg,hn,k⟩:=h;refine⟨_,(aj (cm (PW.pt (n8 (cG (dj (pcl gJ cW hr rfl (ae (pv 3) ah)))) (jy (cG (jW oC rj ao (pv 3) (av aA rfl bp xU (ae (pv 0) ah)))))))
   (au (aK gy)) aV)
   (au (aK (dW (bI d9 (pv 3) (pv 2) rfl) (gS (pcl jJ eN hr rfl (ae (pv 1) (ae (aT cw (aT aM (pv 0) (pv 3) (fun _ _=>rfl)) ao (fun _ _=>rfl)) ah)))))))),?_⟩
  refine⟨_,rfl,(n:Int),rfl,fun H1 s1=>⟨true,rfl,dw ?_⟩⟩;refine⟨_,rfl,0,_,rfl,rfl,true,xQ V.bl (xK (by lia)),gz ?_⟩;refine⟨_,rfl,r,us,rfl,.inl (aAA (s1 _ _ hr')),_,_,rfl,rfl,true,xQ V.bl (xK (by have:=hR.1;lia)),dw ?_⟩;refine⟨_,rfl,_,rfl,g,_,rfl,.inl (aAA (s1 _ _ hg)),rfl,eu gone,?_⟩;by_cases hin:n∈gone
  ·refine⟨false,xQ V.bl (by rw [if_pos rfl,dI,xK hin];rfl),dw ?_⟩;have:=k H1 s1;rw [xK hin] at this;exact this
  ·refine⟨true,xQ V.bl (by rw [if_pos rfl,dI,xM hin];rfl),gz ?_⟩;obtain⟨q,hq⟩:∃ q,rs[n]? = some q:=⟨_,xm hn⟩;obtain⟨v,hv⟩:∃ v,us[n]? = some v:=⟨_,xm (by rw [hR.1];exact hn)⟩;obtain⟨tt,aa,bb,rfl,q1,q2,q3⟩:=(hR.2 n v q hv hq).same s1;refine⟨_,rfl,_,rfl,_,rfl,r,us,(n:Int),_,rfl,rfl,aAA (s1 _ _ hr'),cf hv,tt,_,0,.ref aa,rfl,rfl,aAB q1,rfl,a,aa,hand,q.1,rfl,s1 _ _ ha,q2,hl q (xV hq),fun H2 s2=>?_⟩;have:=k H2 (s1.trans s2);rw [xM hin,hq] at this;exact this
theorem mW {xs:List V}{k:Nat}(h:k<=xs.length):sg xs none (some (k:Int))=xs.take k:=by
 unfold sg;rw [HT.sIx_none,HT.sIx_nat,Nat.sub_zero,yN,zj h]
def lj:Sp:=fun vs H Q _=>∃ (v:V) (o:Addr) (h:Hs) (order:List Nat),vs=[v,.ref o]/\HouseAt H v h/\aS h/\H o=some (.lst (ax order))/\Gone h.1 h.2 order/\order.length<=200 ∧
 ∀ (l:Addr) (H':Hp),Same H H'->H l=none->H' l=some (.lst ((ay h.1 h.2 order).map V.str))->Q (.ref l) H'
def eK:Sp:=fun vs H Q _=>∃ (v:V) (o:Addr) (h:Hs) (order:List Nat),vs=[v,.ref o]/\HouseAt H v h/\aS h/\H o=some (.lst (ax order))/\Gone h.1 h.2 order/\order.length<=200 ∧
 ∀ (l:Addr) (H':Hp),Same H H'->H l=none->H' l=some (.lst (ax (aP h.2 (ay h.1 h.2 order) order)))->Q (.ref l) H'
def ft:Sp:=fun vs H Q _=>∃ (v:V) (o:Addr) (h:Hs) (order:List Nat),vs=[v,.ref o]/\HouseAt H v h/\aS h/\H o=some (.lst (ax order))/\Gone h.1 h.2 order/\order.length<=200 ∧
 ∀ (l:Addr) (ss:List Str) (H':Hp),Same H H'->H l=none->ss.Perm (ay h.1 h.2 order)->ss.Pairwise leS->H' l=some (.lst (ss.map V.str))->Q (.ref l) H'
theorem jz {x:Str}:∀ (l h:List Str),x∈l.foldl List.erase h->x∈h
 | [],h,e=>e
 | a::l,h,e=>List.mem_of_mem_erase (jz l _ (by rw [aac] at e;exact e))
theorem jt {rs:List Rm}(hr:∀ r∈rs,∀ k∈r.2,aU k):∀ (order:List Nat) (ks:List Str),(∀ k∈ks,aU k)->∀ k∈ay ks rs order,aU k
 | [],ks,hk,k,e=>hk k e
 | i::order,ks,hk,k,e=>by
  refine jt hr order (iq ks ((rs[i]?).getD ([],[]))) (fun x hx=>?_) k e;unfold iq at hx;rcases xG.mp hx with q | q
  ·exact hk x (jz _ _ q)
  ·cases e2:rs[i]? with
   | none=>rw [e2] at q;cases q
   | some r=>rw [e2] at q;exact hr r (xV e2) x q
theorem gn {h:Hs}(ok:aS h){order:List Nat}(ho:order.length<=200):(ay h.1 h.2 order).length<=201000:=by
 have:=jo (ks:=h.1) 1000 (fun r hr=>(ok.rs r hr).kl) order h.1;have:=ok.kl
 (first | lia | lia)
theorem aI:aL ["house","order","keys","rooms","hand","at","number"] ["house","order"] (aq cM):=scM rfl rfl rfl rfl (by decide +kernel)
inductive wW (t:Addr)(o:Addr)(a:Addr)(r:Addr)(h:Hs)(order:List Nat)(H:Hp)(σ':L2.St)(H':Hp):Prop
 | mk (l:Addr) (x5 x6:Option V):(σ'=[some (.ref t),some (.ref o),some (.ref a),some (.ref r),some (.ref l),x5,x6])->(H' l=some (.lst ((ay h.1 h.2 order).map V.str)))->(H l=none)->(Same H H')->wW t o a r h order H σ' H'
inductive wH (t:Addr)(o:Addr)(a:Addr)(r:Addr)(h:Hs)(order:List Nat)(H:Hp)(i:Nat)(σ':L2.St)(H':Hp):Prop
 | mk (l:Addr) (x5 x6:Option V):(σ'=[some (.ref t),some (.ref o),some (.ref a),some (.ref r),some (.ref l),x5,x6])->(H' l=some (.lst ((ay h.1 h.2 (order.take i)).map V.str)))->(H l=none)->(Same H H')->wH t o a r h order H i σ' H'
theorem rT {f fS fB:Addr}{fd fdS fdB:FuncData}(F:Fun K "hand_after" "hand_after" cM f fd)(d8:bf P w K mg base CX0 2 fS fdS ["rooms","hand","gone","number"] qu)(bZ:Cal K mg "is_step" ["rooms","hand","gone","number"] fS fdS)
 (dH:bf P w K mg base CX0 1 fB fdB ["hand","room"] jI)(bG:Cal K mg "hand_behind" ["hand","room"] fB fdB)(cg:mg "enumerate" = none)(aR:mg "isinstance" = none)(bU:mg "list" = none):bf P w K mg base CX0 3 f fd ["house","order"] lj:=by
 refine F.ok aI (fun vs H Q E h=>?_) (fun cdv A outer s H vs Q E hr h=>?_)
 ·obtain⟨v,o,h,order,rfl,_⟩:=h
  rfl
 ·obtain⟨v,o,h,order,rfl,⟨t,a,r,us,rfl,ht,ha,hr',hR⟩,ok,ho,hg,hol,k⟩:=h;refine⟨_,(aj (cm (cG (dj (av bB rfl aR (by decide +kernel) (ae (pv 1) (ae (dM (v:=.ty "list") (u:=.type "list") rfl bU (by decide +kernel) rfl) ah)))))
   iU aV)
   (aj (jn (pv 0) (iW rfl (bo (aF (i:=2) aI.nd rfl (.inl rfl)) (bo (aF (i:=3) aI.nd rfl (.inl rfl)) dF))))
   (aj (aD (i:=4) aI.nd rfl (.inl rfl) (bV cy rfl bU (by decide +kernel) (ae (pv 2) ah)))
   (aj (bu (dZ yF rfl (oJ rfl cg (ae (pv 1) ah)) (iW rfl (bo (aF (i:=5) aI.nd rfl (.inl rfl)) (bo (aF (i:=6) aI.nd rfl (.inl rfl)) dF)))
    (aj (cm (cG (dj (pcl d8 bZ hr rfl (ae (pv 3) (ae (pv 4) (ae (bY fO (pv 1) cZ (dg (pv 5))) (ae (pv 6) ah)))))))
     iU aV)
    (au (aD (i:=4) aI.nd rfl (.inl rfl) (pcl dH bG (hr.mono (by decide:1<=2)) rfl (ae (pv 4) (ae (aT aM (pv 3) (pv 6) (fun _ _=>rfl)) ah))))))))
   (au (aK (pv 4))))))),?_⟩
  first | refine tvE rfl ?_ | refine⟨_,rfl,?_⟩
  refine⟨_,_,_,true,rfl,.lst ho,dm K _,true,rfl,dw ?_⟩
  first | refine tvE rfl ?_ | refine⟨_,rfl,?_⟩
  refine⟨t,_,rfl,aAB ht,rfl,_,_,rfl,_,_,rfl,rfl,?_⟩
  first | refine tvE rfl ?_ | refine⟨_,rfl,?_⟩
  refine⟨a,_,rfl,.inl (aAA ha),fun l nl=>?_⟩;have s1:Same H (upd H l (.lst (h.1.map V.str))):=fun b u e=>by rw [ai (af e nl)];exact e
  refine⟨wW t o a r h order H,?_,?_⟩
  ·rintro σ H2 ⟨l,x5,x6,rfl,hl,nl,s2⟩
   first | refine tvE rfl ?_ | refine⟨_,rfl,?_⟩
   exact k l H2 s2 nl hl
  first | refine tvE rfl ?_ | refine⟨_,rfl,?_⟩
  refine⟨o,rfl,⟨_,aAA (s1 _ _ ho)⟩,?_⟩;refine mX (xs:=ax order) (wH t o a r h order H) ⟨l,_,_,rfl,ag,nl,s1⟩ (fun i σ H' _ ⟨_,_,_,_,_,_,s⟩=>aAA (s _ _ ho)) ?_ ?_
  ·rintro i x σ H2 T hx ⟨l2,x5,x6,rfl,hl2,nl2,s2⟩ nT;have hi:i < order.length:=by
    have:=(xp.mp hx).1;rw [xn] at this;exact this
   obtain⟨n,hn⟩:∃ n,order[i]? = some n:=⟨_,xm hi⟩;rw [xO,hn] at hx;cases hx;obtain⟨g1,g2,g3⟩:=hg i n hn;have sT:Same H2 (upd H2 T (.tup [.int (i:Int),.int ((n:Nat):Int)])):=fun b u e=>by rw [ai (af e nT)];exact e
   refine⟨T,_,rfl,aAB ag,rfl,_,_,rfl,_,_,rfl,rfl,?_⟩;have hl3:=sT _ _ hl2;have s3:=s2.trans sT;generalize upd H2 T (.tup [.int (i:Int),.int ((n:Nat):Int)])=H3 at hl3 s3 ⊢
   first | refine tvE rfl ?_ | refine⟨_,rfl,?_⟩
   first | refine tvE rfl ?_ | refine⟨_,rfl,?_⟩
   first | refine tvE rfl ?_ | refine⟨_,rfl,?_⟩
   first | refine tvE rfl ?_ | refine⟨_,rfl,?_⟩
   first | refine tvE rfl ?_ | refine⟨_,rfl,?_⟩
   refine⟨o,_,rfl,aAA (s3 _ _ ho),fun c nc=>?_⟩;rw [mW (by rw [xn];(first | lia | lia))];have ec:(ax order).take i=ax (order.take i):=ab5.symm;rw [ec];have s4:Same H3 (upd H3 c (.lst (ax (order.take i)))):=fun b u e=>by rw [ai (af e nc)];exact e
   have hc4:(upd H3 c (.lst (ax (order.take i)))) c=some (.lst (ax (order.take i))):=ag;generalize upd H3 c (.lst (ax (order.take i)))=H4 at s4 hc4 ⊢;have s04:=s3.trans s4
   first | refine tvE rfl ?_ | refine⟨_,rfl,?_⟩
   refine⟨r,l2,c,n,us,h.2,ay h.1 h.2 (order.take i),order.take i,rfl,s04 _ _ hr',hR.same s04,fun q hq=>by have:=(ok.rs q hq).l4;(first | lia | lia),s4 _ _ hl3,hc4,g1,fun H5 s5=>?_⟩;refine⟨true,xQ V.bl (by rw [xM g2,g3];rfl),dw ?_⟩;have s05:=s04.trans s5;obtain⟨q,hq⟩:∃ q,h.2[n]? = some q:=⟨_,xm g1⟩;obtain⟨v,hv⟩:∃ v,us[n]? = some v:=⟨_,xm (by rw [hR.1];exact g1)⟩;have hrm:=(hR.2 n v q hv hq).same s05;have hf:=gn ok (order:=order.take i) (by rw [xN];(first | lia | lia));have hkl:=(ok.rs q (xV hq)).kl;rw [hq] at g3
   first | refine tvE rfl ?_ | refine⟨_,rfl,?_⟩
   first | refine tvE rfl ?_ | refine⟨_,rfl,?_⟩
   first | refine tvE rfl ?_ | refine⟨_,rfl,?_⟩
   refine⟨r,us,(n:Int),_,rfl,rfl,aAA (s05 _ _ hr'),cf hv,l2,v,ay h.1 h.2 (order.take i),q,rfl,s5 _ _ (s4 _ _ hl3),hrm,g3,xE (by (first | lia | lia):_<=202000) (by decide),fun l6 H6 s6 nl6 hl6=>?_⟩;refine⟨l6,_,_,rfl,?_,s05.free nl6,s05.trans s6⟩;rw [hl6,yn,hn];show _=some (HO.lst ((ay h.1 h.2 (order.take i++[n])).map V.str));rw [fz,hq]
   rfl
  ·rintro σ H2 ⟨l2,x5,x6,rfl,hl2,nl2,s2⟩;rw [xn,yv] at hl2;exact⟨l2,x5,x6,rfl,hl2,nl2,s2⟩
theorem dQ:aL ["house","order","hand","rooms"] ["house","order"] (aq cN):=scM rfl rfl rfl rfl (by decide +kernel)
theorem iQ:(["number","rooms","hand","order"]:List Str).Nodup:=by decide +kernel
theorem qH {f fR fA fS:Addr}{fd fdR fdA fdS:FuncData}(F:Fun K "next_rooms" "next_rooms" cN f fd)(bh:bf P w K mg base CX0 6 fR fdR ["thing"] p8)(aG:Cal K mg "require_house" ["thing"] fR fdR)
 (cB:bf P w K mg base CX0 3 fA fdA ["house","order"] lj)(aX:Cal K mg "hand_after" ["house","order"] fA fdA)
 (d8:bf P w K mg base CX0 2 fS fdS ["rooms","hand","gone","number"] qu)(bZ:Cal K mg "is_step" ["rooms","hand","gone","number"] fS fdS)(bp:mg "len" = none)(bw:mg "range" = none):bf P w K mg base CX0 7 f fd ["house","order"] eK:=by
 refine F.ok dQ (fun vs H Q E h=>?_) (fun cdv A outer s H vs Q E hr h=>?_)
 ·obtain⟨v,o,h,order,rfl,_⟩:=h
  rfl
 ·obtain⟨v,o,h,order,rfl,hh,ok,ho,hg,hol,k⟩:=h;refine⟨_,(aj (bO (pcl bh aG hr rfl (ae (pv 0) ah)))
   (aj (aD (i:=2) dQ.nd rfl (.inr rfl) (pcl cB aX (hr.mono (by decide:3<=6)) rfl (ae (pv 0) (ae (pv 1) ah))))
   (aj (aD (i:=3) dQ.nd rfl (.inr rfl) (aT cw (pv 0) ao (fun _ _=>rfl)))
   (au (aK (og (tg:=.Name "number" _) (outer:=aq (cN)) (N:=["house","order","hand","rooms"]) (N':=["number","rooms","hand","order"]) (nl:=1) (ix:=[3,2,1]) rfl rfl rfl (bL rfl bw (ae (av aA rfl bp xU (ae (pv 3) ah)) ah))
    (fun _ _ _ _=>(aF (i:=0) iQ rfl (.inl rfl) (.inr rfl))) (fun _ _ _ _=>(iE (dj (pcl d8 bZ (hr.mono (by decide:2<=6)) rfl (ae (pv 1) (ae (pv 2) (ae (pv 3) (ae (pv 0) ah))))))))
    (fun _ _ _ _=>(pv 0)))))))),?_⟩
  first | refine tvE rfl ?_ | refine⟨_,rfl,?_⟩
  refine⟨v,h,rfl,hh,ok,fun H1 s1=>?_⟩
  first | refine tvE rfl ?_ | refine⟨_,rfl,?_⟩
  first | refine tvE rfl ?_ | refine⟨_,rfl,?_⟩
  refine⟨v,o,h,order,rfl,hh.same s1,ok,s1 _ _ ho,hg,hol,fun l H2 s2 nl hl=>?_⟩;have s02:=s1.trans s2;obtain⟨t,a,r,us,rfl,ht,ha,hr',hR⟩:=hh.same s02;have ho2:=s02 _ _ ho
  first | refine tvE rfl ?_ | refine⟨_,rfl,?_⟩
  refine⟨t,_,1,.ref r,rfl,rfl,aAB ht,rfl,?_⟩;have hul:us.length<=1000:=by rw [hR.1];exact ok.rl
  dsimp only [n9];refine bE _ _ _ _ _ _ _ _ _ ?_
  first | refine tvE rfl ?_ | refine⟨_,rfl,?_⟩
  refine⟨r,us,rfl,.inl (aAA hr'),((us.length:Nat):Int),rfl,by (first | lia | lia),by (first | lia | lia),?_⟩;rw [yf];intro D hD;refine dB (n:=us.length) (fun i ys H'=>ys=ax ((List.range i).filter fun i=>!decide (i∈order) && i9 (ay h.1 h.2 order) ((h.2[i]?).getD ([],[])).1)/\i<=1000/\H' D=some (.lst ys)/\Same H2 H') ⟨rfl,by decide,ag,fun b u e=>by rw [ai (af e hD)];exact e⟩ (fun i ys H' ⟨_,_,h,_⟩=>h) ?_ ?_
  ·rintro i ys H3 hi ⟨rfl,hi0,hD3,s3⟩;rw [show (0+(i:Int))=((i:Nat):Int) by (first | lia | lia)];have hi':i < h.2.length:=by rw [← hR.1];exact hi
   have hlen:(ax ((List.range i).filter fun i=>!decide (i∈order) && i9 (ay h.1 h.2 order) ((h.2[i]?).getD ([],[])).1)).length<=1000:=by
    rw [xn];exact xE (y9 _ _) (by rw [zX];(first | lia | lia))
   refine gd rfl ?_
   first | refine tvE rfl ?_ | refine⟨_,rfl,?_⟩
   first | refine tvE rfl ?_ | refine⟨_,rfl,?_⟩
   first | refine tvE rfl ?_ | refine⟨_,rfl,?_⟩
   first | refine tvE rfl ?_ | refine⟨_,rfl,?_⟩
   refine⟨r,l,o,i,us,h.2,ay h.1 h.2 order,order,rfl,s3 _ _ hr',hR.same s3,fun q hq=>by have:=(ok.rs q hq).l4;(first | lia | lia),s3 _ _ hl,s3 _ _ ho2,hi',fun H4 s4=>?_⟩;cases hm:(!decide (i∈order) && i9 (ay h.1 h.2 order) ((h.2[i]?).getD ([],[])).1) with
   | true =>
    refine⟨true,rfl,gz ?_⟩
    first | refine tvE rfl ?_ | refine⟨_,rfl,?_⟩
    refine⟨s4 _ _ hD3,aH hlen,nx hi ⟨?_,by (first | lia | lia),ag,fun b u e=>?_⟩⟩
    ·rw [List.range_succ,zz,zv,if_pos hm,zW];unfold ax;rw [xR]
     rfl
    ·rw [ai (af e hD)];exact s4 _ _ (s3 b u e)
   | false =>
    refine⟨false,rfl,dw ?_⟩;refine nx hi ⟨?_,by (first | lia | lia),s4 _ _ hD3,s3.trans s4⟩;rw [List.range_succ,zz,zv,if_neg (by rw [hm];exact xt),zW,yg]
  ·rintro ys H3 ⟨rfl,_,hD3,s3⟩;rw [hR.1] at hD3;exact k D H3 (s02.trans s3) (s02.free hD) hD3
theorem fe:aL ["house","order"] ["house","order"] (aq cu):=scM rfl rfl rfl rfl (by decide +kernel)
theorem qL {f fR fA:Addr}{fd fdR fdA:FuncData}(F:Fun K "keys_behind" "keys_behind" cu f fd)(bh:bf P w K mg base CX0 6 fR fdR ["thing"] p8)(aG:Cal K mg "require_house" ["thing"] fR fdR)
 (cB:bf P w K mg base CX0 3 fA fdA ["house","order"] lj)(aX:Cal K mg "hand_after" ["house","order"] fA fdA)(a9:mg "sorted" = none):bf P w K mg base CX0 7 f fd ["house","order"] ft:=by
 refine F.ok fe (fun vs H Q E h=>?_) (fun cdv A outer s H vs Q E hr h=>?_)
 ·obtain⟨v,o,h,order,rfl,_⟩:=h
  rfl
 ·obtain⟨v,o,h,order,rfl,hh,ok,ho,hg,hol,k⟩:=h;refine⟨_,(aj (bO (pcl bh aG hr rfl (ae (pv 0) ah)))
   (au (aK (av di rfl a9 aak (ae (pcl cB aX (hr.mono (by decide:3<=6)) rfl (ae (pv 0) (ae (pv 1) ah))) ah))))),?_⟩
  first | refine tvE rfl ?_ | refine⟨_,rfl,?_⟩
  refine⟨v,h,rfl,hh,ok,fun H1 s1=>?_⟩
  first | refine tvE rfl ?_ | refine⟨_,rfl,?_⟩
  first | refine tvE rfl ?_ | refine⟨_,rfl,?_⟩
  refine⟨v,o,h,order,rfl,hh.same s1,ok,s1 _ _ ho,hg,hol,fun l H2 s2 nl hl=>?_⟩;have hf:=gn ok hol;refine⟨l,_,rfl,aAA hl,xE hf (by decide),fun l2 ss nl2 hp hs=>?_⟩;have s02:=s1.trans s2;exact k l2 ss _ (fun b u e=>by rw [ai (af (s02 b u e) nl2)];exact s02 b u e) (s02.free nl2) hp (bt hs) ag
end
abbrev rmD (rs:List Rm)(i:Nat):Rm:=(rs[i]?).getD ([],[])
theorem next_iffD {rs:List Rm}{hand:List Str}{o:List Nat}{i:Nat}:i∈aP rs hand o↔i < rs.length/\i ∉ o/\i9 hand (rmD rs i).1=true:=by
 unfold aP;rw [z9,aam,yu,aa7,abf]
theorem oZ (ks:List Str)(rs:List Rm):Gone ks rs []:=fun j i e=>by simp at e
theorem oy {ks:List Str}{rs:List Rm}{o:List Nat}{i:Nat}(g:Gone ks rs o)(hi:i∈aP rs (ay ks rs o) o):Gone ks rs (o++[i]):=by
 intro j k e;obtain⟨h1,h2,h3⟩:=next_iffD.mp hi;by_cases hj:j < o.length
 ·rw [yr hj] at e;rw [yq (by lia)];exact g j k e
 ·rw [xX (by lia)] at e;have:j - o.length=0:=by
   have:=(xp.mp e).1;simp at this;lia
  rw [this] at e;cases e;have ej:j=o.length:=by lia
  subst ej;rw [yq (xx _),yv];exact⟨h1,h2,h3⟩
theorem jm {ks:List Str}{rs:List Rm}{o:List Nat}{i:Nat}(g:Gone ks rs (o++[i])):Gone ks rs o/\i∈aP rs (ay ks rs o) o:=by
 constructor
 ·intro j k e;have hj:j < o.length:=(xp.mp e).1;have:=g j k (by rw [yr hj];exact e);rw [yq (by lia)] at this;exact this
 ·have:=g o.length i (by simp);rw [yq (xx _),yv] at this;exact next_iffD.mpr this
theorem kY {p:List Nat->Prop}(h0:p [])(hs:∀ o i,p o->p (o++[i]))(o:List Nat):p o:=by
 have go:∀ n (o:List Nat),o.length=n->p o:=fun n=>by
  induction n with
  | zero=>intro o e;rw [aat e];exact h0
  | succ n ih =>
   intro o e;rcases abz o with z | ⟨r,y,z⟩
   ·subst z;cases e
   ·rw [abA] at z;subst z;exact hs r y (ih r (by simpa using e))
 exact go _ o rfl
theorem tW {hand:List Str}{r:List Str}(m:i9 hand r=true)(k:Str):r.count k<=hand.count k:=by
 by_cases hk:k∈r
 ·unfold i9 at m;rw [yW] at m;exact zf (m _ hk)
 ·rw [List.count_eq_zero_of_not_mem hk];exact xS _
theorem cj {ks:List Str}{rs:List Rm}(k:Str):∀ o,Gone ks rs o->(ay ks rs o).count k+(o.flatMap fun i=>(rmD rs i).1).count k=ks.count k+(o.flatMap fun i=>(rmD rs i).2).count k:=by
 refine kY (fun _=>by simp [ay]) fun o i ih g=>?_;obtain⟨g1,g2⟩:=jm g;have:=ih g1;have le:=tW (next_iffD.mp g2).2.2 k;rw [fz,zM,zM,yC,yC];unfold iq;rw [yC,cz];simp only [zg,abh,yg];show (ay ks rs o).count k - (rmD rs i).1.count k+(rmD rs i).2.count k+_=_;lia
theorem nI {ks:List Str}{rs:List Rm}{o o':List Nat}(g:Gone ks rs o)(g':Gone ks rs o')(p:o.Perm o'):(ay ks rs o).Perm (ay ks rs o'):=by
 rw [aaK];intro k;have a:=cj k o g;have b:=cj k o' g';have c:=(p.flatMap_right fun i=>(rmD rs i).1).count_eq k;have d:=(p.flatMap_right fun i=>(rmD rs i).2).count_eq k;lia
theorem oi {rs:List Rm}{hd hd':List Str}{o o':List Nat}(p:hd.Perm hd')(q:o.Perm o'):aP rs hd o=aP rs hd' o':=by
 unfold aP;apply List.filter_congr;intro i _;have e1:decide (i∈o)=decide (i∈o'):=decide_eq_decide.mpr q.mem_iff;have e2:∀ l,i9 hd l=i9 hd' l:=fun l=>by
  unfold i9;congr 1;funext x;rw [p.count_eq]
 rw [e1,e2]
end K7
namespace L2
open PySem PySem.Spec PyProof.Rows
section
variable {X:Cx}
end
section
variable {P:Program}{w:World}{K:PySem.W.Frag}{mg:Str->Option Value}{base:Heap}
end
section
variable {X:Cx}
end
section
variable {prog:Program}{w:World}{A:Around}{E:Value->Shared->Prop}{s:Shared}
end
section
variable {prog:Program}{w:World}{A:Around}{R:Result->Shared->Prop}
end
section
variable {prog:Program}{w:World}{A:Around}{E:Value->Shared->Prop}{s:Shared}
end
section
variable {X:Cx}
end
section
variable {prog:Program}{w:World}{A:Around}{E:Value->Shared->Prop}{s:Shared}
end
section
variable {prog:Program}{w:World}{A:Around}{R:Result->Shared->Prop}
end
section
variable {prog:Program}{w:World}{A:Around}{E:Value->Shared->Prop}{s:Shared}
end
section
variable {X:Cx}
end
end L2
namespace K7
open PySem L2 PyProof.Rows
abbrev gk:Stmt:=oR
def qw:Sp:=fun vs H Q _=>∃ (p:Addr) (most:Nat) (c:Int),vs=[.ref p,.int most]/\aJ H p c/\most<=60/\0<=c/\c+4000 < 1000000 ∧
 ∀ (v:V) (h:Hs) (c':Int) (H':Hp),HouseAt H' v h->aS h->nq h->h.2.length<=most->(dU h).length<=276->aJ H' p c'->c<=c'->c'<=c+4000->But p H H'->Q v H'
section
variable {P:Program}{w:World}{K:PySem.W.Frag}{mg:Str->Option Value}{base:Heap}
theorem aE:aL ["pool","most","kinds","many","locks","keys","rooms","spare","room","doors","few","left","more"] ["pool","most"] (aq gk):=scM rfl rfl rfl rfl (by decide +kernel)
theorem eg:(["doors","within"]:List Str).Nodup:=by decide +kernel
inductive wL (p:Addr)(most:Nat)(c:Int)(H:Hp)(σ':L2.St)(H':Hp):Prop
 | mk (kA:Addr) (ks:List Str) (c':Int):(σ'=[some (.ref p),some (.int most),some (.ref kA),none,none,none,none,none,none,none,none,none,none])->(At p H' kA (.lst (ks.map V.str)))->(ks≠[])->(ks.length<=60)->((∀ k∈ks,aU k))->(aJ H' p c')->(c<=c')->(c'<=c+542)->(But p H H')->wL p most c H σ' H'
inductive wV (p:Addr)(most:Nat)(kA:Addr)(c1:Int)(H1:Hp)(σ':L2.St)(H':Hp):Prop
 | mk (mn:Nat) (c':Int):(σ'=[some (.ref p),some (.int most),some (.ref kA),some (.int mn),none,none,none,none,none,none,none,none,none])->(mn<=most)->(aJ H' p c')->(c1<=c')->(c'<=c1+3)->(But p H1 H')->wV p most kA c1 H1 σ' H'
inductive wq (p:Addr)(most:Nat)(kA:Addr)(mn:Nat)(c1:Int)(H1:Hp)(σ':L2.St)(H':Hp):Prop
 | mk (lk c':Int):(σ'=[some (.ref p),some (.int most),some (.ref kA),some (.int mn),some (.int lk),none,none,none,none,none,none,none,none])->(1<=lk)->(lk<=4)->(aJ H' p c')->(c1<=c')->(c'<=c1+4)->(But p H1 H')->wq p most kA mn c1 H1 σ' H'
inductive wz (p:Addr)(most:Nat)(kA:Addr)(mn:Nat)(lk:Int)(c1:Int)(H1:Hp)(σ':L2.St)(H':Hp):Prop
 | mk (ky c':Int):(σ'=[some (.ref p),some (.int most),some (.ref kA),some (.int mn),some (.int lk),some (.int ky),none,none,none,none,none,none,none])->(2<=ky)->(ky<=4)->(aJ H' p c')->(c1<=c')->(c'<=c1+5)->(But p H1 H')->wz p most kA mn lk c1 H1 σ' H'
inductive wR (p:Addr)(most:Nat)(kA:Addr)(mn:Nat)(lk:Int)(ky:Int)(rA:Addr)(H4:Hp)(ks:List Str)(c4:Int)(σ':L2.St)(H':Hp):Prop
 | mk (x8 x9 x10:Option V) (sp c':Int) (vs:List V) (rs:List Rm) (ws:List Addr):(σ'=[some (.ref p),some (.int most),some (.ref kA),some (.int mn),some (.int lk),some (.int ky),some (.ref rA),some (.int sp),x8,x9,x10,none,none])->(RoomsW p H' rA vs rs ws)->((∀ w∈ws,H4 w=none))->(rs.length=mn)->((∀ r∈rs,(∀ k∈r.1,k∈ks)/\1<=r.1.length/\r.1.length<=4/\r.1.Pairwise leS/\(∀ k∈r.2,k∈ks)/\r.2.length<=12))->((rs.map (·.2.length)).sum<=266)->(aJ H' p c')->(c4<=c')->(c'<=c4+20 * mn)->(But p H4 H')->wR p most kA mn lk ky rA H4 ks c4 σ' H'
inductive wD (p:Addr)(most:Nat)(kA:Addr)(mn:Nat)(lk:Int)(ky:Int)(rA:Addr)(sp:Int)(x8:Option V)(x9:Option V)(x10:Option V)(vs:List V)(ws:List Addr)(ks:List Str)(c5:Int)(H4:Hp)(σ':L2.St)(H':Hp):Prop
 | mk (x12:Option V) (rs':List Rm) (lf c':Int):(σ'=[some (.ref p),some (.int most),some (.ref kA),some (.int mn),some (.int lk),some (.int ky),some (.ref rA),some (.int sp),x8,x9,x10,some (.int lf),x12])->(RoomsW p H' rA vs rs' ws)->(rs'.length=mn)->((∀ r∈rs',(∀ k∈r.1,k∈ks)/\1<=r.1.length/\r.1.length<=4/\r.1.Pairwise leS/\(∀ k∈r.2,k∈ks)/\r.2.length<=300))->(0<=lf)->((((rs'.map (·.2.length)).sum:Nat):Int)+lf=276)->(aJ H' p c')->(c5<=c')->(c'<=c5+300)->(But p H4 H')->wD p most kA mn lk ky rA sp x8 x9 x10 vs ws ks c5 H4 σ' H'
inductive wo (p:Addr)(most:Nat)(kA:Addr)(mn:Nat)(lk:Int)(ky:Int)(rA:Addr)(H4:Hp)(ks:List Str)(c4:Int)(i:Nat)(σ':L2.St)(H':Hp):Prop
 | mk (x8 x9 x10:Option V) (sp c':Int) (vs:List V) (rs:List Rm) (ws:List Addr) (q:Nat):(σ'=[some (.ref p),some (.int most),some (.ref kA),some (.int mn),some (.int lk),some (.int ky),some (.ref rA),some (.int sp),x8,x9,x10,none,none])->(RoomsW p H' rA vs rs ws)->((∀ w∈ws,H4 w=none))->(rs.length=i)->((∀ r∈rs,(∀ k∈r.1,k∈ks)/\1<=r.1.length/\r.1.length<=4/\r.1.Pairwise leS/\(∀ k∈r.2,k∈ks)/\r.2.length<=12))->(0<=sp)->(sp<=40)->(40 - sp<=12 * q)->((((rs.map (·.2.length)).sum:Nat):Int)+4 * q<=4 * i+(40 - sp))->(aJ H' p c')->(c4<=c')->(c'<=c4+20 * i)->(But p H4 H')->wo p most kA mn lk ky rA H4 ks c4 i σ' H'
inductive wN (p:Addr)(most:Nat)(kA:Addr)(mn:Nat)(lk:Int)(ky:Int)(rA:Addr)(sp:Int)(i:Nat)(x10:Option V)(H5:Hp)(ks:List Str)(c5:Int)(σ':L2.St)(H':Hp):Prop
 | mk (dA:Addr) (ds:List Str) (c':Int):(σ'=[some (.ref p),some (.int most),some (.ref kA),some (.int mn),some (.int lk),some (.int ky),some (.ref rA),some (.int sp),some (.int (0+i)),some (.ref dA),x10,none,none])->(At p H' dA (.lst (ds.map V.str)))->(H5 dA=none)->((∀ k∈ds,k∈ks))->(1<=ds.length)->(ds.length<=4)->(ds.Pairwise leS)->(aJ H' p c')->(c5<=c')->(c'<=c5+5)->(But p H5 H')->wN p most kA mn lk ky rA sp i x10 H5 ks c5 σ' H'
inductive wx (p:Addr)(most:Nat)(kA:Addr)(mn:Nat)(lk:Int)(ky:Int)(rA:Addr)(i:Nat)(dA:Addr)(sp:Int)(c5:Int)(H7:Hp)(σ':L2.St)(H':Hp):Prop
 | mk (fw':Nat) (sp' c':Int):(σ'=[some (.ref p),some (.int most),some (.ref kA),some (.int mn),some (.int lk),some (.int ky),some (.ref rA),some (.int sp'),some (.int (0+i)),some (.ref dA),some (.int fw'),none,none])->(((sp'=sp/\fw'<=4)\/(sp'=sp - fw'/\(fw':Int)<=sp/\fw'<=12)))->(aJ H' p c')->(c5<=c')->(c'<=c5+8)->(But p H7 H')->wx p most kA mn lk ky rA i dA sp c5 H7 σ' H'
theorem qF {f fT fM fS:Addr}{fd fdT fdM fdS:FuncData}(F:Fun K "_law_house" "_law_house" oR f fd)(aw:bf P w K mg base CX0 1 fT fdT ["pool","many"] gf)(ar:Cal K mg "_law_take" ["pool","many"] fT fdT)
 (ku:bf P w K mg base CX0 2 fM fdM ["pool","many"] sy)(eF:Cal K mg "_law_kinds" ["pool","many"] fM fdM)(dR:bf P w K mg base CX0 2 fS fdS ["pool","kinds","many"] r8)(cq:Cal K mg "_law_some" ["pool","kinds","many"] fS fdS)
 (bw:mg "range" = none)(bp:mg "len" = none)(kv:mg "min" = none)(a9:mg "sorted" = none)(sU:mg "sum" = none) :
 bf P w K mg base CX0 3 f fd ["pool","most"] qw:=by
 refine F.ok aE (fun vs H Q E h=>?_) (fun cdv A outer s H vs Q E hr h=>?_)
 ·obtain⟨p,n,c,rfl,_⟩:=h
  rfl
 ·obtain⟨p,most,c,rfl,⟨o,hp,hpo⟩,hmost,hc,hcn,k⟩:=h;have hu:=l7 hr;refine⟨_,(aj (bu (aD (i:=2) aE.nd rfl (.inl rfl) (pcl ku eF hr rfl (ae (pv 0) (ae (aN bH ao (pcl aw ar (hr.mono (by decide:1<=2)) rfl (ae (pv 0) (ae (aT aM (a7 (ae ao (ae ao (ae ao (ae ao ah))))) (pcl aw ar (hr.mono (by decide:1<=2)) rfl (ae (pv 0) (ae ao ah))) (fun _ _=>rfl)) ah)))) ah)))))
   (aj (bu (aD (i:=3) aE.nd rfl (.inl rfl) (aT aM (a7 (ae (pcl aw ar (hr.mono (by decide:1<=2)) rfl (ae (pv 0) (ae (aN bH (av (f7 rfl) rfl kv (by decide +kernel) (ae (pv 1) (ae ao ah))) ao) ah))) (ae (pcl aw ar (hr.mono (by decide:1<=2)) rfl (ae (pv 0) (ae (aN bH (pv 1) ao) ah))) ah))) (pcl aw ar (hr.mono (by decide:1<=2)) rfl (ae (pv 0) (ae ao ah))) (fun _ _=>rfl))))
   (aj (bu (aD (i:=4) aE.nd rfl (.inl rfl) (aT aM (a7 (ae ao (ae ao (ae ao (ae ao ah))))) (pcl aw ar (hr.mono (by decide:1<=2)) rfl (ae (pv 0) (ae ao ah))) (fun _ _=>rfl))))
   (aj (bu (aD (i:=5) aE.nd rfl (.inl rfl) (aT aM (a7 (ae ao (ae ao (ae ao ah)))) (pcl aw ar (hr.mono (by decide:1<=2)) rfl (ae (pv 0) (ae ao ah))) (fun _ _=>rfl))))
   (aj (aD (i:=6) aE.nd rfl (.inl rfl) (a7 ah))
   (aj (aD (i:=7) aE.nd rfl (.inl rfl) ao)
   (aj (bu (dZ yF rfl (bL rfl bw (ae (pv 3) ah)) (aF (i:=8) aE.nd rfl (.inl rfl))
    (aj (bu (aD (i:=9) aE.nd rfl (.inl rfl) (av fG rfl a9 aak (ae (pcl dR cq hr rfl (ae (pv 0) (ae (pv 2) (ae (aN bH ao (pcl aw ar (hr.mono (by decide:1<=2)) rfl (ae (pv 0) (ae (pv 4) ah)))) ah)))) ah))))
    (aj (aD (i:=10) aE.nd rfl (.inl rfl) (pcl aw ar (hr.mono (by decide:1<=2)) rfl (ae (pv 0) (ae (aN bH (pv 5) ao) ah))))
    (aj (bu (cm (aZ iC (pcl aw ar (hr.mono (by decide:1<=2)) rfl (ae (pv 0) (ae ao ah))) ao (aY _))
     (aj (aD (i:=10) aE.nd rfl (.inl rfl) (av (f7 rfl) rfl kv (by decide +kernel) (ae (pv 7) (ae (aN bH ao (pcl aw ar (hr.mono (by decide:1<=2)) rfl (ae (pv 0) (ae ao ah)))) ah))))
     (au (aD (i:=7) aE.nd rfl (.inl rfl) (aN kP (pv 7) (pv 10))))) aV))
    (au (bO (iP yi yS yT cE (pv 6) (ae (kO (ae (pv 9) (ae (pcl dR cq hr rfl (ae (pv 0) (ae (pv 2) (ae (pv 10) ah)))) ah))) ah)))))))))
   (aj (bu (aD (i:=11) aE.nd rfl (.inl rfl) (aN kP ao (av (rH rfl) rfl sU (by decide +kernel) (ae (og (outer:=aq (gk)) (N:=["pool","most","kinds","many","locks","keys","rooms","spare","room","doors","few","left","more"]) (N':=["doors","within"]) (nl:=2) (ix:=[]) rfl rfl rfl (cF (pv 6))
    (fun _ _ _ _=>(lF (K:=K) (n:=2) rfl rfl (bo (aF (i:=0) eg rfl (.inl rfl) (.inr rfl)) (bo (aF (i:=1) eg rfl (.inl rfl) (.inr rfl)) dF)))) (fun _ _ _ _=>dJ)
    (fun _ _ _ _=>(av (eI (K:=K) rfl) rfl bp xU (ae (pv 1) ah)))) ah)))))
   (aj (bu (cm (PW.pt (pU (aZ eX (pv 6) (a7 ah) (aY _)) (lU (aZ iC (pcl aw ar (hr.mono (by decide:1<=2)) rfl (ae (pv 0) (ae ao ah))) ao (aY _)))))
    (aj (aD (i:=12) aE.nd rfl (.inl rfl) (pcl aw ar (hr.mono (by decide:1<=2)) rfl (ae (pv 0) (ae (aN bH (pv 11) ao) ah))))
    (aj (bO (iP yi PySem.F.slot_list_extend PySem.F.type_list_extend qh (aT cw (aT aM (pv 6) (pcl aw ar (hr.mono (by decide:1<=2)) rfl (ae (pv 0) (ae (av aA rfl bp xU (ae (pv 6) ah)) ah))) (fun _ _=>rfl)) ao (fun _ _=>rfl)) (ae (pcl dR cq hr rfl (ae (pv 0) (ae (pv 2) (ae (pv 12) ah)))) ah)))
    (au (aD (i:=11) aE.nd rfl (.inl rfl) (aN kP (pv 11) (pv 12)))))) aV))
   (au (aK (kO (ae (pcl dR cq hr rfl (ae (pv 0) (ae (pv 2) (ae (av (f7 rfl) rfl kv (by decide +kernel) (ae (pv 11) (ae (pcl aw ar (hr.mono (by decide:1<=2)) rfl (ae (pv 0) (ae (aT aM (a7 (ae ao (ae ao (ae ao (ae ao ah))))) (pcl aw ar (hr.mono (by decide:1<=2)) rfl (ae (pv 0) (ae ao ah))) (fun _ _=>rfl)) ah))) ah))) ah)))) (ae (pv 6) ah)))))))))))))),?_⟩
  refine⟨wL p most c H,?_,?_⟩
  ·rintro σ H1 ⟨kA,ks,c1,rfl,hk1,hkn,hkl,hko,⟨o1,hp1,hpo1⟩,g1,g2,b1⟩;refine⟨wV p most kA c1 H1,?_,?_⟩
   ·rintro σ H2 ⟨mn,c2,rfl,hmn,⟨o2,hp2,hpo2⟩,g3,g4,b2⟩;refine⟨wq p most kA mn c1 H1,?_,?_⟩
    ·rintro σ H3 ⟨lk,c3,rfl,hlk1,hlk2,⟨o3,hp3,hpo3⟩,g5,g6,b3⟩;refine⟨wz p most kA mn lk c1 H1,?_,?_⟩
     ·rintro σ H4 ⟨ky,c4,rfl,hky1,hky2,⟨o4,hp4,hpo4⟩,g7,g8,b4⟩;have hk4:=hk1.on b4;refine⟨xS _,fun rA nR=>?_⟩;have npR:p≠rA:=af hp4 nR;have bR:But p H4 (upd H4 rA (.lst [])):=fun b u hb e=>by rw [ai (af e nR)];exact e
      refine⟨wR p most kA mn lk ky rA H4 ks c4,?_,?_⟩
      ·rintro σ H5 ⟨x8,x9,x10,sp,c5,vs,rs,ws,rfl,hW,hwf,hrl,hro,hsum,⟨o5,hp5,hpo5⟩,g9,g10,b5⟩;have hk5:=hk4.on b5;have mn60:mn<=60:=by (first | lia | lia)
       refine⟨fun σ' H'=>σ'=[some (.ref p),some (.int most),some (.ref kA),some (.int mn),some (.int lk),some (.int ky),some (.ref rA),some (.int sp),x8,x9,x10,some (.int (276 - (((rs.map (·.2.length)).sum:Nat):Int))),none]/\Same H5 H',?_,?_⟩
       ·rintro σ H6 ⟨rfl,sm6⟩;have b6:But p H5 H6:=fun b u _ e=>sm6 b u e;have hW6:=hW.on b6;have hk6:=hk5.on b6;have hp6:=sm6 _ _ hp5;refine⟨wD p most kA mn lk ky rA sp x8 x9 x10 vs ws ks c5 H4,?_,?_⟩
        ·rintro σ H7 ⟨x12,rs',lf,c7,rfl,hW7,hrl7,hro7,hlf,hsum7,⟨o7,hp7,hpo7⟩,g11,g12,b7⟩;have hk7:=hk4.on b7
         first | refine tvE rfl ?_ | refine⟨_,rfl,?_⟩
         first | refine tvE rfl ?_ | refine⟨_,rfl,?_⟩
         first | refine tvE rfl ?_ | refine⟨_,rfl,?_⟩
         first | refine tvE rfl ?_ | refine⟨_,rfl,?_⟩
         refine⟨by show 4<=sizeLine;decide,fun l1 n1=>?_⟩;have np1:p≠l1:=af hp7 n1
         first | refine tvE rfl ?_ | refine⟨_,rfl,?_⟩
         refine⟨p,4,c7,o7,rfl,by rw [ai np1];exact hp7,hpo7,by decide,by decide,by (first | lia | lia),by (first | lia | lia),fun r c8 o8 r0 r1 h1 h2 hpo8=>?_⟩;obtain⟨m,hm,ha⟩:=uS (xs:=[3,7,25,277]) r0 r1;have hm':3<=m/\m<=277:=by simp only [xA,yP,abD] at hm;(first | lia | lia)
         refine⟨l1,_,r,.int m,rfl,rfl,aAA (by rw [ai (xZ np1),ag];rfl),ha,?_⟩;refine⟨p,m,c8,o8,rfl,ag,hpo8,by (first | lia | lia),by (first | lia | lia),by (first | lia | lia),by (first | lia | lia),fun q c9 o9 q0 q1 h3 h4 hpo9=>?_⟩;refine⟨_,_,rfl,?_⟩;have mi:(if q < lf then q else lf)<=lf/\0<=(if q < lf then q else lf)/\(if q < lf then q else lf)<=276:=by split<;>(first | lia | lia)
         generalize (if q < lf then q else lf)=mv at mi ⊢;obtain⟨mvn,rfl⟩:∃ n:Nat,mv=(n:Int):=⟨mv.toNat,by (first | lia | lia)⟩;have b8:But p H7 (upd (upd (upd H7 l1 (.lst [.int 3,.int 7,.int 25,.int 277])) p o8) p o9):=fun b u hb e=>by rw [ai hb,ai hb,ai (af e n1)];exact e
         refine⟨p,kA,mvn,c9,ks,rfl,⟨o9,ag,hpo9⟩,(hk7.on b8).1,hkn,by (first | lia | lia),by (first | lia | lia),by (first | lia | lia),by (first | lia | lia),fun l ss c10 H8 nl hsl hsm hl8 hp8 g13 g14 b9=>?_⟩
         first | refine tvE rfl ?_ | refine⟨_,rfl,?_⟩
         refine⟨by show 2<=sizeLine;decide,fun tA nT=>?_⟩;have b79:=b8.trans b9;have bT:But p H8 (upd H8 tA (.tup [.ref l,.ref rA])):=fun b u hb e=>by rw [ai (af e nT)];exact e
         obtain⟨o10,hp10,hpo10⟩:=hp8;have hW10:=(hW7.on b79).on bT;have fl2:((rs'.flatMap (·.2)).length:Int)+lf=276:=by rw [List.length_flatMap];exact hsum7
         have fl1:(rs'.flatMap (·.1)).length<=1000:=by
          have:∀ l:List Rm,(∀ r∈l,r.1.length<=4)->(l.flatMap (·.1)).length<=4 * l.length:=fun l=>by
           induction l with
           | nil=>intro _;exact xS _
           | cons a t ih =>
            intro h;have h1:=h a xD;have h2:=ih fun r hr=>h r (xu _ hr);rw [zg,xq,yx]
            (first | lia | lia)
          have:=this rs' fun r hr=>(hro7 r hr).2.2.1
          (first | lia | lia)
         have ak:(dU (ss,rs')).length<=276:=by
          unfold dU;rw [xq];show ss.length+(rs'.flatMap (·.2)).length<=276
          (first | lia | lia)
         have hin:∀ x,(x∈dU (ss,rs')\/x∈hU (ss,rs'))->x∈ks:=fun x h=>by
          rcases h with h | h
          ·rcases xG.mp h with h | h
           ·exact hsm x h
           ·obtain⟨r,hr,hx⟩:=aau.mp h;exact (hro7 r hr).2.2.2.2.1 x hx
          ·obtain⟨r,hr,hx⟩:=aau.mp h;exact (hro7 r hr).1 x hx
         refine k (.ref tA) (ss,rs') c10 _ ⟨tA,l,rA,vs,rfl,ag,?_,hW10.ls.1,hW10.rooms⟩ ⟨fun k hk=>hko k (hsm k hk),by show ss.length<=1000;(first | lia | lia),fun r hr=>?_,by show rs'.length<=1000;(first | lia | lia)⟩ ⟨⟨ks,by (first | lia | lia),hin⟩,by (first | lia | lia),fl1⟩ (by show rs'.length<=most;(first | lia | lia)) ak ⟨o10,by rw [ai (af hp10 nT)];exact hp10,hpo10⟩ (by (first | lia | lia)) (by (first | lia | lia)) ?_
         ·rw [ai (af hl8 nT)];exact hl8
         ·obtain⟨r1,r2,r3,r4,r5,r6⟩:=hro7 r hr;exact⟨fun k hk=>hko k (r1 k hk),r2,r3,r4,fun k hk=>hko k (r5 k hk),by (first | lia | lia)⟩
         ·exact b1.trans (b4.trans (b7.trans (b79.trans bT)))
        ·have rk:∀ r∈rs,(∀ k∈r.1,aU k)/\∀ k∈r.2,aU k:=fun r hr=>⟨fun k hk=>hko k ((hro r hr).1 k hk),fun k hk=>hko k ((hro r hr).2.2.2.2.1 k hk)⟩;have ro300:∀ r∈rs,(∀ k∈r.1,k∈ks)/\1<=r.1.length/\r.1.length<=4/\r.1.Pairwise leS/\(∀ k∈r.2,k∈ks)/\r.2.length<=300:=fun r hr=>by
          obtain⟨r1,r2,r3,r4,r5,r6⟩:=hro r hr;exact⟨r1,r2,r3,r4,r5,by (first | lia | lia)⟩
         first | refine tvE rfl ?_ | refine⟨_,rfl,?_⟩
         refine⟨xS _,fun e ne=>?_⟩;have sm7:Same H6 (upd H6 e (.lst [])):=fun b u q=>by rw [ai (af q ne)];exact q
         have he:(upd H6 e (.lst [])) e=some (.lst []):=ag;generalize upd H6 e (.lst [])=H7 at sm7 he;have b7:But p H6 H7:=fun b u _ q=>sm7 b u q;have hW7:=hW6.on b7;have hp7:=sm7 _ _ hp6;refine⟨.list (rs.map eP),.list [],.lst hW7.ls.1 (jv hW7.rooms),.lst he .nil,k7 rk,rfl,?_,?_⟩
         ·refine yG ?_ hu;exact yI (zN _ _) _
         by_cases hemp:rs=[]
         ·subst hemp;refine⟨false,rfl,dw (dw ?_)⟩;exact⟨none,[],_,c5,rfl,hW7,hrl,ro300,by (first | lia | lia),by (first | lia | lia),⟨o5,hp7,hpo5⟩,by (first | lia | lia),by (first | lia | lia),b5.trans (b6.trans b7)⟩
         ·have hne:(if true=true then !PyData.eqv (.list (rs.map eP)) (.list []) else PyData.eqv (.list (rs.map eP)) (.list []))=true:=by
           cases rs with
           | nil=>exact absurd rfl hemp
           | cons a t=>rfl
          refine⟨true,xQ V.bl hne,gz ?_⟩
          first | refine tvE rfl ?_ | refine⟨_,rfl,?_⟩
          refine⟨p,8,c5,o5,rfl,hp7,hpo5,by decide,by decide,by (first | lia | lia),by (first | lia | lia),fun z c8 o8 z0 z1 g15 g16 hpo8=>?_⟩;have b8:But p H7 (upd H7 p o8):=But.upd;refine⟨rfl,_,rfl,su (fun _=>?_) (fun _=>?_)⟩
          ·first | refine tvE rfl ?_ | refine⟨_,rfl,?_⟩
           first | refine tvE rfl ?_ | refine⟨_,rfl,?_⟩
           refine⟨_,1,rfl,rfl,p,_,c8,o8,rfl,ag,hpo8,by (first | lia | lia),by (first | lia | lia),by (first | lia | lia),by (first | lia | lia),fun mo c9 o9 m0 m1 g17 g18 hpo9=>?_⟩;obtain⟨mon,rfl⟩:∃ n:Nat,mo=(n:Int):=⟨mo.toNat,by (first | lia | lia)⟩;have b9:But p H7 (upd (upd H7 p o8) p o9):=b8.trans But.upd;have hp9:(upd (upd H7 p o8) p o9) p=some o9:=ag;generalize upd (upd H7 p o8) p o9=H9 at b9 hp9;have hW9:=hW7.on b9;have hrs:0 < rs.length:=List.length_pos_iff.mpr hemp
           first | refine tvE rfl ?_ | refine⟨_,rfl,?_⟩
           first | refine tvE rfl ?_ | refine⟨_,rfl,?_⟩
           first | refine tvE rfl ?_ | refine⟨_,rfl,?_⟩
           refine⟨rA,vs,rfl,.inl (aAA hW9.ls.1),p,_,c9,o9,rfl,hp9,hpo9,by rw [hW9.l1];(first | lia | lia),by rw [hW9.l1];(first | lia | lia),by (first | lia | lia),by (first | lia | lia),fun ii c10 o10 i0 i1 g19 g20 hpo10=>?_⟩;rw [hW9.l1] at i1;obtain⟨ix,rfl⟩:∃ n:Nat,ii=(n:Int):=⟨ii.toNat,by (first | lia | lia)⟩;have hix:ix < rs.length:=by (first | lia | lia)
           have hix2:ix < ws.length:=by rw [hW9.l2];exact hix
           have b10:But p H9 (upd H9 p o10):=But.upd;have hp10:(upd H9 p o10) p=some o10:=ag;generalize upd H9 p o10=H10 at b10 hp10;have hW10:=hW9.on b10;obtain⟨t,d,a1,a2,a3,a4,a5,a6⟩:=hW10.item ix rs[ix] ws[ix] (xm hix) (xm hix2);refine⟨rA,vs,_,.ref t,rfl,rfl,aAA hW10.ls.1,cf a1,t,_,1,.ref ws[ix],rfl,rfl,aAB a2.1,rfl,.inl ⟨rfl,_,aAA a4.1⟩,?_⟩;have b410:But p H4 H10:=b5.trans (b6.trans (b7.trans (b9.trans b10)));have hk10:=hk4.on b410
           first | refine tvE rfl ?_ | refine⟨_,rfl,?_⟩
           first | refine tvE rfl ?_ | refine⟨_,rfl,?_⟩
           first | refine tvE rfl ?_ | refine⟨_,rfl,?_⟩
           refine⟨p,kA,mon,c10,ks,rfl,⟨o10,hp10,hpo10⟩,hk10.1,hkn,by (first | lia | lia),by (first | lia | lia),by (first | lia | lia),by (first | lia | lia),fun l ss c11 H11 nl hsl hsm hl11 hp11 g21 g22 b11=>?_⟩;have hW11:=hW10.on b11;have r12:=(hro rs[ix] (yy hix)).2.2.2.2.2;refine⟨ws[ix],l,_,_,rfl,rfl,(a4.on b11).1,hl11,by rw [xn,xn];exact y6 (aH (by (first | lia | lia))),?_⟩;have hWe:=hW11.ext (ss:=ss) (xm hix) (xm hix2);obtain⟨o11,hp11',hpo11⟩:=hp11
           first | refine tvE rfl ?_ | refine⟨_,rfl,?_⟩
           first | refine tvE rfl ?_ | refine⟨_,rfl,?_⟩
           refine⟨_,_,rfl,rfl,?_⟩;have sset:(((rs.set ix (rs[ix].1,rs[ix].2++ss)).map (·.2.length)).sum:Nat)=(rs.map (·.2.length)).sum+mon:=by
            have:∀ (l:List Rm) (i:Nat) (h:i < l.length) (x:Rm),((l.set i x).map (·.2.length)).sum+(l[i]).2.length=(l.map (·.2.length)).sum+x.2.length:=fun l=>by
             induction l with
             | nil=>intro i h;exact absurd h (abu _)
             | cons a t ih =>
              intro i h x;cases i with
              | zero=>simp;(first | lia | lia)
              | succ i =>
               have:=ih i (by simpa using h) x;simp only [List.set_cons_succ,yh,aaC,List.getElem_cons_succ]
               (first | lia | lia)
            have:=this rs ix hix (rs[ix].1,rs[ix].2++ss);simp only [xq] at this
            (first | lia | lia)
           refine⟨_,_,_,c11,rfl,hWe,by simp [hrl],fun r hr'=>?_,?_,?_,⟨o11,by rw [ai (xZ a4.2)];exact hp11',hpo11⟩,by (first | lia | lia),by (first | lia | lia),fun b u hb e=>?_⟩
           ·rcases List.mem_or_eq_of_mem_set hr' with hr' | hr'
            ·exact ro300 r hr'
            ·obtain⟨r1,r2,r3,r4,r5,r6⟩:=hro rs[ix] (yy hix);rw [hr'];refine⟨r1,r2,r3,r4,fun k hk=>?_,?_⟩
             ·rcases xG.mp hk with hk | hk
              ·exact r5 k hk
              ·exact hsm k hk
             ·show (rs[ix].2++ss).length<=300;rw [xq]
              (first | lia | lia)
           ·(first | lia | lia)
           ·rw [sset];(first | lia | lia)
           ·rw [ai (af e (hwf _ (yy hix2)))];exact b11 b u hb (b410 b u hb e)
          ·exact⟨none,rs,_,c8,rfl,hW7.on b8,hrl,ro300,by (first | lia | lia),by (first | lia | lia),⟨o8,ag,hpo8⟩,by (first | lia | lia),by (first | lia | lia),b5.trans (b6.trans (b7.trans b8))⟩
       ·dsimp only [qy,tOp,tC,tCB,bq,eZ];refine bE _ _ _ _ _ _ _ _ _ ?_
        first | refine tvE rfl ?_ | refine⟨_,rfl,?_⟩
        refine⟨rA,rfl,⟨_,aAA hW.ls.1⟩,?_⟩;intro D hD;refine cD (xs:=vs) (fun j ys H'=>ys=((rs.take j).map fun r=>V.int ((r.2.length:Nat):Int))/\j<=60/\H' D=some (.lst ys)/\Same H5 H') ⟨rfl,by decide,ag,fun b u e=>by rw [ai (af e hD)];exact e⟩ (fun j ys H' ⟨_,_,h,_⟩=>h) (fun j ys H' ⟨_,_,_,sm⟩=>aAA (sm _ _ hW.ls.1)) ?_ ?_
        ·rintro j ys H6 x hx ⟨rfl,hj0,hD6,sm⟩;have hj:j < vs.length:=(xp.mp hx).1;have hj1:j < rs.length:=by rw [← hW.l1];exact hj
         have hj2:j < ws.length:=by rw [hW.l2];exact hj1
         obtain⟨t,d,a1,a2,a3,a4,_⟩:=hW.item j rs[j] ws[j] (xm hj1) (xm hj2);rw [hx] at a1;cases a1;refine mF t (.ref d) (.ref ws[j]) rfl (aAB (sm _ _ a2.1)) rfl ?_
         first | refine tvE rfl ?_ | refine⟨_,rfl,?_⟩
         refine⟨ws[j],_,rfl,.inl (aAA (sm _ _ a4.1)),hD6,by rw [xn,xN];exact aH (by (first | lia | lia)),nx hj ⟨?_,by (first | lia | lia),ag,fun b u e=>?_⟩⟩
         ·rw [yn,xm hj1,xR,xn]
          rfl
         ·rw [ai (af e hD)];exact sm b u e
        ·rintro ys H6 ⟨rfl,_,hD6,sm⟩;rw [hW.l1,yv] at hD6;have sc:∀ l:List Rm,(l.map fun r=>((r.2.length:Nat):Int)).sum=(((l.map (·.2.length)).sum:Nat):Int):=fun l=>by
          induction l with
          | nil=>rfl
          | cons a t ih =>
           rw [yh,yh,aaC,aaC,ih]
           (first | lia | lia)
         refine⟨D,rs.map (fun r=>((r.2.length:Nat):Int)),rfl,aAA (by rw [hD6,aco];rfl),fun n hn=>?_,by rw [xn];(first | lia | lia),276,_,rfl,rfl,?_⟩
         ·obtain⟨r,hr',rfl⟩:=List.mem_map.mp hn;have:=(hro r hr').2.2.2.2.2
          (first | lia | lia)
         ·exact⟨by rw [← sc rs];rfl,sm⟩
      ·first | refine tvE rfl ?_ | refine⟨_,rfl,?_⟩
       refine⟨(mn:Int),rfl,by (first | lia | lia),by (first | lia | lia),?_⟩;refine dC (n:=mn) (wo p most kA mn lk ky rA H4 ks c4) ?_ ?_ ?_
       ·exact⟨none,none,none,40,c4,[],[],[],0,rfl,⟨⟨ag,xZ npR⟩,rfl,rfl,List.nodup_nil,(fun z=>nomatch z),(fun i r w e=>by simp at e)⟩,(fun w h=>nomatch h),rfl,(fun r h=>nomatch h),by decide,by decide,by decide,by decide,⟨o4,by rw [ai npR];exact hp4,hpo4⟩,zB _,by (first | lia | lia),bR⟩
       ·rintro i σ H5 hi ⟨x8,x9,x10,sp,c5,vs,rs,ws,q,rfl,hW,hwf,hrl,hro,hs0,hs1,hs2,hs3,⟨o5,hp5,hpo5⟩,g9,g10,b5⟩;have hk5:=hk4.on b5;refine⟨wN p most kA mn lk ky rA sp i x10 H5 ks c5,?_,?_⟩
        ·rintro σ H6 ⟨dA,ds,c6,rfl,hd6,nd6,hdk,hd1,hd4,hdp,⟨o6,hp6,hpo6⟩,g11,g12,b6⟩
         first | refine tvE rfl ?_ | refine⟨_,rfl,?_⟩
         first | refine tvE rfl ?_ | refine⟨_,rfl,?_⟩
         refine⟨_,1,rfl,rfl,p,ky+1,c6,o6,rfl,hp6,hpo6,by (first | lia | lia),by (first | lia | lia),by (first | lia | lia),by (first | lia | lia),fun fw c7 o7 f0 f1 g13 g14 hpo7=>?_⟩;have b7:But p H5 (upd H6 p o7):=b6.trans But.upd;have hd7:At p (upd H6 p o7) dA (.lst (ds.map V.str)):=hd6.on But.upd;have hp7:(upd H6 p o7) p=some o7:=ag;generalize upd H6 p o7=H7 at b7 hd7 hp7;refine⟨wx p most kA mn lk ky rA i dA sp c5 H7,?_,?_⟩
         ·rintro σ H8 ⟨fw,sp',c8,rfl,hfw,hp8,g15,g16,b8⟩;have b58:=b7.trans b8;have hk8:=hk5.on b58;have hd8:=hd7.on b8;have hW8:=hW.on b58
          first | refine tvE rfl ?_ | refine⟨_,rfl,?_⟩
          refine⟨.inl ⟨rfl,_,aAA hW8.ls.1⟩,_,rfl,_,rfl,_,rfl,_,rfl,p,kA,fw,c8,ks,rfl,hp8,hk8.1,hkn,by (first | lia | lia),by (first | lia | lia),by (first | lia | lia),by (first | lia | lia),fun wA ss c9 H9 nW hsl hsm hw9 hp9 g17 g18 b9=>?_⟩;obtain⟨o8,hp8',_⟩:=hp8;obtain⟨o9,hp9',hpo9⟩:=hp9;have npw:p≠wA:=af hp8' nW;refine⟨by show 2<=sizeLine;decide,fun tA nT=>?_⟩;have npt:p≠tA:=af hp9' nT;have bT:But p H9 (upd H9 tA (.tup [.ref dA,.ref wA])):=fun b u hb e=>by rw [ai (af e nT)];exact e
          have b5T:=(b58.trans b9).trans bT;have hdw:dA≠wA:=af hd8.1 nW;have hWn:=hW.more (r:=(ds,ss)) b5T (t:=tA) (d:=dA) (w:=wA) ⟨ag,xZ npt⟩ ((hd8.on b9).on bT) ⟨by rw [ai (af hw9 nT)];exact hw9,xZ npw⟩ nd6 (b58.free (xZ npw) nW) hdw;have hrA:=(hW.on b5T).ls;refine⟨rA,vs,.ref tA,rfl,rfl,hrA.1,by rw [hW.l1];exact aH (by (first | lia | lia)),?_⟩;have hst:∃ q':Nat,40 - sp'<=12 * q'/\((((rs++[(ds,ss)]).map (·.2.length)).sum:Nat):Int)+4 * q'<=4 * ((i+1:Nat):Int)+(40 - sp')/\0<=sp'/\sp'<=40:=by
           rw [xR,List.sum_append];simp only [yh,abq,aaC,List.sum_nil];rcases hfw with ⟨e1,e2⟩ | ⟨e1,e2,e3⟩
           ·exact⟨q,by (first | lia | lia),by (first | lia | lia),by (first | lia | lia),by (first | lia | lia)⟩
           ·exact⟨q+1,by (first | lia | lia),by (first | lia | lia),by (first | lia | lia),by (first | lia | lia)⟩
          obtain⟨q',q1,q2,q3,q4⟩:=hst;refine⟨_,_,_,sp',c9,vs++[.ref tA],rs++[(ds,ss)],ws++[wA],q',rfl,hWn,fun w' hw'=>?_,by simp [hrl],fun r hr'=>?_,q3,q4,q1,q2,⟨o9,by rw [ai (xZ hrA.2),ai npt];exact hp9',hpo9⟩,by (first | lia | lia),by (first | lia | lia),fun b u hb e=>?_⟩
          ·rcases xG.mp hw' with hw' | hw'
           ·exact hwf w' hw'
           ·rw [xr.mp hw'];exact b5.free (xZ npw) (b58.free (xZ npw) nW)
          ·rcases xG.mp hr' with hr' | hr'
           ·exact hro r hr'
           ·rw [xr.mp hr'];exact⟨hdk,hd1,hd4,hdp,hsm,by show ss.length<=12;(first | lia | lia)⟩
          ·rw [ai (af e nR)];exact b5T b u hb (b5 b u hb e)
         ·first | refine tvE rfl ?_ | refine⟨_,rfl,?_⟩
          refine⟨p,8,c7,o7,rfl,hp7,hpo7,by decide,by decide,by (first | lia | lia),by (first | lia | lia),fun z c8 o8 z0 z1 g15 g16 hpo8=>?_⟩;refine⟨rfl,_,rfl,su (fun _=>?_) (fun _=>?_)⟩
          ·first | refine tvE rfl ?_ | refine⟨_,rfl,?_⟩
           first | refine tvE rfl ?_ | refine⟨_,rfl,?_⟩
           refine⟨p,9,c8,o8,rfl,ag,hpo8,by decide,by decide,by (first | lia | lia),by (first | lia | lia),fun y c9 o9 y0 y1 g17 g18 hpo9=>?_⟩;refine⟨4,y,rfl,rfl,_,_,rfl,?_⟩;have mi:(if 4+y < sp then 4+y else sp)<=sp/\0<=(if 4+y < sp then 4+y else sp)/\(if 4+y < sp then 4+y else sp)<=12:=by split<;>(first | lia | lia)
           generalize (if 4+y < sp then 4+y else sp)=mv at mi ⊢;obtain⟨mvn,rfl⟩:∃ n:Nat,mv=(n:Int):=⟨mv.toNat,by (first | lia | lia)⟩
           first | refine tvE rfl ?_ | refine⟨_,rfl,?_⟩
           first | refine tvE rfl ?_ | refine⟨_,rfl,?_⟩
           refine⟨_,_,rfl,rfl,?_⟩;exact⟨mvn,_,c9,rfl,.inr ⟨rfl,mi.1,by (first | lia | lia)⟩,⟨o9,ag,hpo9⟩,by (first | lia | lia),by (first | lia | lia),But.upd.trans But.upd⟩
          ·obtain⟨fwn,rfl⟩:∃ n:Nat,fw=(n:Int):=⟨fw.toNat,by (first | lia | lia)⟩;exact⟨fwn,sp,c8,rfl,.inl ⟨rfl,by (first | lia | lia)⟩,⟨o8,ag,hpo8⟩,by (first | lia | lia),by (first | lia | lia),But.upd⟩
        ·first | refine tvE rfl ?_ | refine⟨_,rfl,?_⟩
         first | refine tvE rfl ?_ | refine⟨_,rfl,?_⟩
         first | refine tvE rfl ?_ | refine⟨_,rfl,?_⟩
         first | refine tvE rfl ?_ | refine⟨_,rfl,?_⟩
         refine⟨p,lk,c5,o5,rfl,hp5,hpo5,by (first | lia | lia),by (first | lia | lia),by (first | lia | lia),by (first | lia | lia),fun z c6 o6 z0 z1 g11 g12 hpo6=>?_⟩;obtain⟨zn,rfl⟩:∃ n:Nat,z=(n:Int):=⟨z.toNat,by (first | lia | lia)⟩;refine⟨1,_,rfl,rfl,?_⟩;have hk6:At p (upd H5 p o6) kA (.lst (ks.map V.str)):=hk5.on But.upd;refine⟨p,kA,1+zn,c6,ks,xQ (fun z=>[V.ref p,V.ref kA,V.int z]) (show (1+(zn:Int))=((1+zn:Nat):Int) by (first | lia | lia)),⟨o6,ag,hpo6⟩,hk6.1,hkn,by (first | lia | lia),by (first | lia | lia),by (first | lia | lia),by (first | lia | lia),fun l ss c7 H7 nl hsl hsm hl7 hp7 g13 g14 b7=>?_⟩;refine⟨l,ss,rfl,aAA hl7,by (first | lia | lia),fun dA ds nd hpm hso=>?_⟩;have npl:p≠l:=af (show (upd H5 p o6) p=some o6 from ag) nl;obtain⟨o7,hp7',hpo7⟩:=hp7;have npd:p≠dA:=af hp7' nd;have b57:But p H5 H7:=But.upd.trans b7;refine⟨dA,ds,c7,rfl,⟨ag,xZ npd⟩,b57.free (xZ npd) nd,fun k hk=>hsm k (hpm.mem_iff.mp hk),by rw [hpm.length_eq];(first | lia | lia),by rw [hpm.length_eq];(first | lia | lia),bt hso,⟨o7,by rw [ai npd];exact hp7',hpo7⟩,by (first | lia | lia),by (first | lia | lia),fun b u hb e=>by rw [ai (af (b57 b u hb e) nd)];exact b57 b u hb e⟩
       ·rintro σ H5 ⟨x8,x9,x10,sp,c5,vs,rs,ws,q,rfl,hW,hwf,hrl,hro,hs0,hs1,hs2,hs3,hp5,g9,g10,b5⟩;exact⟨x8,x9,x10,sp,c5,vs,rs,ws,rfl,hW,hwf,hrl,hro,by (first | lia | lia),hp5,g9,g10,b5⟩
     ·refine⟨by show 3<=sizeLine;decide,fun l1 n1=>?_⟩;have np1:p≠l1:=af hp3 n1
      first | refine tvE rfl ?_ | refine⟨_,rfl,?_⟩
      refine⟨p,3,c3,o3,rfl,by rw [ai np1];exact hp3,hpo3,by decide,by decide,by (first | lia | lia),by (first | lia | lia),fun r c4 o4 r0 r1 h1 h2 hpo4=>?_⟩;obtain⟨m,hm,ha⟩:=uS (xs:=[2,3,4]) r0 r1;refine⟨l1,_,r,.int m,rfl,rfl,aAA (by rw [ai (xZ np1),ag];rfl),ha,?_⟩;simp only [xA,yP,abD] at hm;exact⟨m,c4,rfl,by (first | lia | lia),by (first | lia | lia),⟨o4,ag,hpo4⟩,by (first | lia | lia),by (first | lia | lia),fun b u hb e=>by rw [ai hb,ai (af (b3 b u hb e) n1)];exact b3 b u hb e⟩
    ·refine⟨by show 4<=sizeLine;decide,fun l1 n1=>?_⟩;have np1:p≠l1:=af hp2 n1
     first | refine tvE rfl ?_ | refine⟨_,rfl,?_⟩
     refine⟨p,4,c2,o2,rfl,by rw [ai np1];exact hp2,hpo2,by decide,by decide,by (first | lia | lia),by (first | lia | lia),fun r c4 o4 r0 r1 h1 h2 hpo4=>?_⟩;obtain⟨m,hm,ha⟩:=uS (xs:=[1,1,2,4]) r0 r1;refine⟨l1,_,r,.int m,rfl,rfl,aAA (by rw [ai (xZ np1),ag];rfl),ha,?_⟩;simp only [xA,yP,abD] at hm;exact⟨m,c4,rfl,by (first | lia | lia),by (first | lia | lia),⟨o4,ag,hpo4⟩,by (first | lia | lia),by (first | lia | lia),fun b u hb e=>by rw [ai hb,ai (af (b2 b u hb e) n1)];exact b2 b u hb e⟩
   ·first | refine tvE rfl ?_ | refine⟨_,rfl,?_⟩
    first | refine tvE rfl ?_ | refine⟨_,rfl,?_⟩
    refine⟨_,_,rfl,_,1,rfl,rfl,?_⟩;have mi:0<=(if (8:Int) < (most:Int) then (8:Int) else (most:Int))/\(if (8:Int) < (most:Int) then (8:Int) else (most:Int))<=most:=by split<;>(first | lia | lia)
    refine⟨p,_,c1,o1,rfl,hp1,hpo1,by (first | lia | lia),by (first | lia | lia),by (first | lia | lia),by (first | lia | lia),fun a c2 o2 a0 a1 h1 h2 hpo2=>?_⟩
    first | refine tvE rfl ?_ | refine⟨_,rfl,?_⟩
    first | refine tvE rfl ?_ | refine⟨_,rfl,?_⟩
    refine⟨_,1,rfl,rfl,p,_,c2,o2,rfl,ag,hpo2,by (first | lia | lia),by (first | lia | lia),by (first | lia | lia),by (first | lia | lia),fun b c3 o3 b0 b1' h3 h4 hpo3=>?_⟩;refine⟨by show 2<=sizeLine;decide,fun l1 n1=>?_⟩;have np1:p≠l1:=af (show (upd (upd H1 p o2) p o3) p=some o3 from ag) n1
    first | refine tvE rfl ?_ | refine⟨_,rfl,?_⟩
    refine⟨p,2,c3,o3,rfl,by rw [ai np1];exact ag,hpo3,by decide,by decide,by (first | lia | lia),by (first | lia | lia),fun r c4 o4 r0 r1 h5 h6 hpo4=>?_⟩;obtain⟨m,hm,ha⟩:=uS (xs:=[a,b]) r0 r1;refine⟨l1,_,r,.int m,rfl,rfl,aAA (by rw [ai (xZ np1),ag];rfl),ha,?_⟩;simp only [xA,yP,abD] at hm;obtain⟨mn,rfl⟩:∃ mn:Nat,m=(mn:Int):=⟨m.toNat,by (first | lia | lia)⟩;have n1':H1 l1=none:=by
     rw [ai (xZ np1),ai (xZ np1)] at n1;exact n1
    exact⟨mn,c4,rfl,by (first | lia | lia),⟨o4,ag,hpo4⟩,by (first | lia | lia),by (first | lia | lia),fun b u hb e=>by rw [ai hb,ai (af e n1'),ai hb,ai hb];exact e⟩
  ·first | refine tvE rfl ?_ | refine⟨_,rfl,?_⟩
   first | refine tvE rfl ?_ | refine⟨_,rfl,?_⟩
   refine⟨by show 4<=sizeLine;decide,fun l1 n1=>?_⟩;have np1:p≠l1:=af hp n1
   first | refine tvE rfl ?_ | refine⟨_,rfl,?_⟩
   refine⟨p,4,c,o,rfl,by rw [ai np1];exact hp,hpo,by decide,by decide,by (first | lia | lia),by (first | lia | lia),fun r c1 o1 r0 r1 h1 h2 hpo1=>?_⟩;obtain⟨m,hm,ha⟩:=uS (xs:=[6,6,24,60]) r0 r1;have hm':1<=m/\m<=60:=by simp only [xA,yP,abD] at hm;(first | lia | lia)
   refine⟨l1,_,r,.int m,rfl,rfl,aAA (by rw [ai (xZ np1),ag];rfl),ha,?_⟩;refine⟨p,m,c1,o1,rfl,ag,hpo1,by (first | lia | lia),by (first | lia | lia),by (first | lia | lia),by (first | lia | lia),fun q c2 o2 q0 q1 h3 h4 hpo2=>?_⟩;obtain⟨qn,rfl⟩:∃ qn:Nat,q=(qn:Int):=⟨q.toNat,by (first | lia | lia)⟩;refine⟨1,_,rfl,rfl,?_⟩;have bb:But p H (upd (upd (upd H l1 (.lst [.int 6,.int 6,.int 24,.int 60])) p o1) p o2):=fun b u hb e=>by rw [ai hb,ai hb,ai (af e n1)];exact e
   refine⟨p,1+qn,c2,xQ (fun z=>[V.ref p,V.int z]) (show (1+(qn:Int))=((1+qn:Nat):Int) by (first | lia | lia)),⟨o2,ag,hpo2⟩,by (first | lia | lia),by (first | lia | lia),by (first | lia | lia),fun l ks c3 H' hl hkl hko hkn hl' hp' h5 h6 hb=>?_⟩;refine⟨l,ks,c3,rfl,⟨hl',fun z=>?_⟩,(fun z=>by rw [z] at hkl;simp at hkl;(first | lia | lia)),by (first | lia | lia),hko,hp',by (first | lia | lia),by (first | lia | lia),bb.trans hb⟩;subst z;rw [ag] at hl;cases hl
theorem SeesAll.ints {H:Hp}:∀ ns:List Nat,SeesAll H (ax ns) (ns.map fun i=>PyData.int ((i:Nat):Int))
 | []=>.nil
 | n::ns=>.cons (.int _) (SeesAll.ints ns)
theorem dG:∀ ns:List Nat,PyData.canLayAll0 (ns.map fun i=>PyData.int ((i:Nat):Int))=true
 | []=>rfl
 | n::ns=>by rw [yh];simp only [PyData.canLayAll0,PyData.canLay0,aaB];exact dG ns
theorem jT:∀ ns:List Nat,PyData.eqvAll (ns.map fun i=>PyData.int ((i:Nat):Int)) (ns.map fun i=>PyData.int ((i:Nat):Int))=true
 | []=>rfl
 | n::ns=>by
  rw [yh];simp only [PyData.eqvAll,PyData.eqv,aar,aaB];exact jT ns
theorem gC:∀ ns:List Nat,PyData.depthAll (ns.map fun i=>PyData.int ((i:Nat):Int))=0
 | []=>rfl
 | n::ns=>by
  rw [yh];simp only [PyData.depthAll,PyData.depth,gC ns]
  rfl
theorem jO {ss:List Str}{a f c:Int}(h:HO.lst (ss.map V.str)=.lst [.int a,.int f,.int c]):False:=by
 cases ss with
 | nil=>cases h
 | cons x t=>simp at h
theorem HouseAt.but {H H':Hp}{v:V}{h:Hs}{p:Addr}{c:Int}(x:HouseAt H v h)(pl:aJ H p c)(b:But p H H'):HouseAt H' v h:=by
 obtain⟨o,hp,a0,f0,rfl⟩:=pl;obtain⟨t,a,r,vs,rfl,h1,h2,h3,hl,h4⟩:=x;have ns:∀ {y:Addr} {ss:List Str},H y=some (.lst (ss.map V.str))->y≠p:=fun e z=>by
  rw [z,hp] at e;exact jO (yz e).symm
 have nt:∀ {y:Addr} {us:List V},H y=some (.tup us)->y≠p:=fun e z=>by
  rw [z,hp] at e;cases e
 have nr:r≠p:=fun z=>by
  rw [z,hp] at h3;cases h3;have hlt:0 < h.2.length:=by rw [← hl];exact Nat.succ_pos 2
  obtain⟨_,_,_,e,_⟩:=h4 0 _ h.2[0] rfl (xm hlt);cases e
 refine⟨t,a,r,vs,rfl,b _ _ (nt h1) h1,b _ _ (ns h2) h2,b _ _ nr h3,hl,fun i v q e1 e2=>?_⟩;obtain⟨t',a',b',e,g1,g2,g3⟩:=h4 i v q e1 e2;exact⟨t',a',b',e,b _ _ (nt g1) g1,b _ _ (ns g2) g2,b _ _ (ns g3) g3⟩
theorem jM {A:Around}{H:Hp}{x y:Addr}{ss:List Str}{Q:VK}(hx:H x=some (.lst (ss.map V.str)))(hy:H y=some (.lst (ss.map V.str)))(kk:∀ k∈ss,aU k)(hu:A.units+1 < cLine)(q:Q (.bl false) H):m8 A true (.ref x) (.ref y) H Q:=by
 have lay:=cI kk;have d1:(PyData.list (ss.map PyData.str)).depth<=1:=by simp only [PyData.depth,dz];decide
 refine⟨.list (ss.map PyData.str),.list (ss.map PyData.str),.lst hx (SeesAll.strs _),.lst hy (SeesAll.strs _),by simp only [PyData.canLay0,lay],by simp only [PyData.canLay0,lay],yG (yI (xE (aae _ _) d1) _) hu,?_⟩;rw [show (if true=true then !PyData.eqv (.list (ss.map PyData.str)) (.list (ss.map PyData.str)) else PyData.eqv (.list (ss.map PyData.str)) (.list (ss.map PyData.str)))=false by simp only [PyData.eqv,h9];rfl];exact q
theorem qM {A:Around}{H:Hp}{x y:Addr}{ns:List Nat}{Q:VK}(hx:H x=some (.lst (ax ns)))(hy:H y=some (.lst (ax ns)))(hu:A.units+1 < cLine)(q:Q (.bl false) H):m8 A true (.ref x) (.ref y) H Q:=by
 have d1:(PyData.list (ns.map fun i=>PyData.int ((i:Nat):Int))).depth<=1:=by simp only [PyData.depth,gC];decide
 refine⟨.list (ns.map fun i=>PyData.int ((i:Nat):Int)),.list (ns.map fun i=>PyData.int ((i:Nat):Int)),.lst hx (SeesAll.ints _),.lst hy (SeesAll.ints _),by simp only [PyData.canLay0,dG],by simp only [PyData.canLay0,dG],yG (yI (xE (aae _ _) d1) _) hu,?_⟩;rw [show (if true=true then !PyData.eqv (.list (ns.map fun i=>PyData.int ((i:Nat):Int))) (.list (ns.map fun i=>PyData.int ((i:Nat):Int))) else PyData.eqv (.list (ns.map fun i=>PyData.int ((i:Nat):Int))) (.list (ns.map fun i=>PyData.int ((i:Nat):Int))))=false by simp only [PyData.eqv,jT];rfl];exact q
theorem kZ {A:Around}{H:Hp}{x y:Addr}{n:Nat}{ns:List Nat}{Q:VK}(hx:H x=some (.lst (ax (n::ns))))(hy:H y=some (.lst []))(hu:A.units+1 < cLine)(q:Q (.bl true) H):m8 A true (.ref x) (.ref y) H Q:=by
 refine⟨.list ((n::ns).map fun i=>PyData.int ((i:Nat):Int)),.list [],.lst hx (SeesAll.ints _),.lst hy .nil,by simp only [PyData.canLay0,dG],rfl,yG (yI (zN _ _) _) hu,?_⟩;exact q
theorem Gone.nil (ks:List Str)(rs:List Rm):Gone ks rs []:=fun j i e=>by simp at e
theorem Gone.snoc {ks:List Str}{rs:List Rm}{order:List Nat}{i:Nat}(h:Gone ks rs order)(hi:i∈aP rs (ay ks rs order) order):Gone ks rs (order++[i]):=by
 unfold aP at hi;obtain⟨h1,h2⟩:=z9.mp hi;rw [yu,aa7,abf] at h2;intro j n e;by_cases hj:j < order.length
 ·rw [yr hj] at e;rw [yq (by lia)];exact h j n e
 ·have hl:=(xp.mp e).1;rw [xq,y8] at hl;have ej:j=order.length:=by lia
  subst ej;rw [xX (xx _),zU] at e;cases e;rw [abO];exact⟨aam.mp h1,h2.1,h2.2⟩
def wu (x:V):Prop:=(∃ z,aU z/\x=.str z)\/∃ i:Int,x=.int i
theorem mY {H:Hp}:∀ {xs:List V},(∀ x∈xs,wu x)->∃ ds,SeesAll H xs ds/\PyData.canLayAll0 ds=true/\ds.isEmpty=xs.isEmpty
 | [],_=>⟨[],.nil,rfl,rfl⟩
 | x::xs,h=>by
  obtain⟨ds,s,l,_⟩:=mY (H:=H) fun y hy=>h y (xu _ hy);rcases h x xD with ⟨z,hz,rfl⟩ | ⟨i,rfl⟩
  ·have:=cI (ks:=[z]) fun k hk=>by rw [xr.mp hk];exact hz
   simp only [yh,abq,PyData.canLayAll0,Bool.and_true] at this;exact⟨_,.cons (.str z) s,by simp only [PyData.canLayAll0,this,l,ab3],rfl⟩
  ·exact⟨_,.cons (.int i) s,by simp only [PyData.canLayAll0,PyData.canLay0,l,ab3],rfl⟩
theorem lY {A:Around}{H:Hp}{x y:Addr}{xs:List V}{Q:VK}(hx:H x=some (.lst xs))(hy:H y=some (.lst []))(sc:∀ x∈xs,wu x)(hu:A.units+1 < cLine)(q:Q (.bl (!xs.isEmpty)) H):m8 A true (.ref x) (.ref y) H Q:=by
 obtain⟨ds,s,l,e⟩:=mY (H:=H) sc;refine⟨.list ds,.list [],.lst hx s,.lst hy .nil,by simp only [PyData.canLay0,l],rfl,yG (yI (zN _ _) _) hu,?_⟩;rw [if_pos rfl,show PyData.eqv (.list ds) (.list [])=ds.isEmpty by cases ds<;>rfl,e];exact q
theorem az {H:Hp}{l:Addr}{o:HO}(n:H l=none):Same H (upd H l o):=fun b u e=>by rw [ai (af e n)];exact e
theorem bQ {H H':Hp}{p:Addr}{c:Int}(pl:aJ H p c)(s:Same H H'):aJ H' p c:=let ⟨o,e,i⟩:=pl;⟨o,s _ _ e,i⟩
theorem cv {H H':Hp}{p:Addr}(s:Same H H'):But p H H':=fun b u _ e=>s b u e
theorem lO:aL ["house","order"] ["house","order"] (aq fq):=scM rfl rfl rfl rfl (by decide +kernel)
def kc:Sp:=fun vs H Q _=>∃ (v:V) (o:Addr) (h:Hs) (order:List Nat),vs=[v,.ref o]/\HouseAt H v h/\aS h/\H o=some (.lst (ax order))/\Gone h.1 h.2 order/\order.length<=200 ∧
 ∀ H':Hp,Same H H'->Q (.bl (aP h.2 (ay h.1 h.2 order) order).isEmpty) H'
theorem qZ {f fN:Addr}{fd fdN:FuncData}(F:Fun K "is_stuck" "is_stuck" fq f fd)(aQ:bf P w K mg base CX0 7 fN fdN ["house","order"] eK)(aC:Cal K mg "next_rooms" ["house","order"] fN fdN):bf P w K mg base CX0 8 f fd ["house","order"] kc:=by
 refine F.ok lO (fun vs H Q E h=>?_) (fun cdv A outer s H vs Q E hr h=>?_)
 ·obtain⟨v,o,h,order,rfl,_⟩:=h
  rfl
 ·obtain⟨v,o,h,order,rfl,hh,ok,ho,hg,hol,k⟩:=h;refine⟨_,(au (aK (tS (pcl aQ aC hr rfl (ae (pv 0) (ae (pv 1) ah)))))),?_⟩;refine⟨_,rfl,_,rfl,v,o,h,order,rfl,hh,ok,ho,hg,hol,fun l H2 s2 nl hl=>?_⟩;refine⟨_,.inl ⟨_,aAA hl,rfl⟩,?_⟩;have:=k H2 s2;rw [Bool.not_not];rw [show (ax (aP h.2 (ay h.1 h.2 order) order)).isEmpty=(aP h.2 (ay h.1 h.2 order) order).isEmpty from List.isEmpty_map ..];exact this
def at_ (π:List Nat)(i:Nat):Nat:=(π[i]?).getD 0
def mz (h:Hs):Bool:=h.2.all fun r=>decide (r.1.length=1)
def lp:Sp:=fun vs H Q _=>∃ (v:V) (h:Hs),vs=[v]/\HouseAt H v h/\aS h/\∀ H',Same H H'->Q (.bl (mz h)) H'
theorem lE:aL ["house"] ["house"] (aq dN):=scM rfl rfl rfl rfl (by decide +kernel)
theorem f9:(["locks","within"]:List Str).Nodup:=by decide +kernel
theorem rp {f fQ:Addr}{fd fdQ:FuncData}(F:Fun K "is_plain" "is_plain" dN f fd)(bh:bf P w K mg base CX0 6 fQ fdQ ["thing"] p8)(aG:Cal K mg "require_house" ["thing"] fQ fdQ)(kX:mg "all" = none)(bp:mg "len" = none):bf P w K mg base CX0 7 f fd ["house"] lp:=by
 refine F.ok lE (fun vs H Q E h=>?_) (fun cdv A outer s H vs Q E hr h=>?_)
 ·obtain⟨v,h,rfl,_⟩:=h
  rfl
 ·obtain⟨v,h,rfl,hh,ok,k⟩:=h;refine⟨_,(aj (bO (pcl bh aG hr rfl (ae (pv 0) ah)))
   (au (aK (av (fY rfl) rfl kX (by decide +kernel) (ae (og (outer:=aq (dN)) (N:=["house"]) (N':=["locks","within"]) (nl:=2) (ix:=[]) rfl rfl rfl (cF (aT cw (pv 0) ao (fun _ _=>rfl)))
    (fun _ _ _ _=>(lF (K:=K) (n:=2) rfl rfl (bo (aF (i:=0) f9 rfl (.inl rfl) (.inr rfl)) (bo (aF (i:=1) f9 rfl (.inl rfl) (.inr rfl)) dF)))) (fun _ _ _ _=>dJ)
    (fun _ _ _ _=>(bI iC (av (eI (K:=K) rfl) rfl bp xU (ae (pv 0) ah)) ao (aY _)))) ah))))),?_⟩
  refine⟨_,rfl,v,h,rfl,hh,ok,fun H1 s1=>?_⟩;obtain⟨t,a,r,vs,rfl,ht,ha,hrr,hR⟩:=hh.same s1;dsimp only [iY,n9,tCB,bq,eZ];refine bE _ _ _ _ _ _ _ _ _ ?_;refine⟨_,rfl,t,_,1,.ref r,rfl,rfl,aAB ht,rfl,r,rfl,⟨_,aAA hrr⟩,?_⟩;intro D hD;have hl:=hR.1;have rl:=ok.rl;refine cD (xs:=vs) (fun i ys H2=>ys=((h.2.take i).map fun r=>decide (r.1.length=1)).map V.bl/\i<=h.2.length/\H2 D=some (.lst ys)/\Same H1 H2) ⟨rfl,xS _,ag,fun b u e=>by rw [ai (af e hD)];exact e⟩ (fun i ys H2 ⟨_,_,h,_⟩=>h) (fun i ys H2 ⟨_,_,_,sm⟩=>aAA (sm r _ hrr)) ?_ ?_
  ·rintro i ys H2 x hx ⟨rfl,hi0,hD2,sm⟩;have hi:i < vs.length:=(xp.mp hx).1;have hi':i < h.2.length:=by lia
   have er:h.2[i]? = some h.2[i]:=xm hi';obtain⟨tt,aa,bb,rfl,g1,g2,g3⟩:=(hR.2 i x _ hx er).same sm;refine mF tt (.ref aa) (.ref bb) rfl (aAB g1) rfl ?_;refine⟨_,rfl,aa,_,rfl,.inl (aAA g2),rfl,hD2,by rw [xn,xn,xN];exact aH (by lia),nx hi ⟨?_,by lia,ag,fun b u e=>?_⟩⟩
   ·rw [List.take_succ,er,xR,xR];simp only [Option.toList_some,yh,abq,xn];congr 3;by_cases q:(h.2[i]).1.length=1
    ·rw [q];rfl
    ·rw [xM q,xM];intro z;injection z with z
     lia
   ·rw [ai (af e hD)];exact sm b u e
  ·rintro ys H2 ⟨rfl,_,hD2,sm⟩;refine⟨D,_,rfl,aAA hD2,?_⟩;have z3:=k H2 (s1.trans sm);have e3:mz h=(((h.2.take vs.length).map fun r=>decide (r.1.length=1)).all id):=by
    rw [hl,yv,aaS]
    rfl
   rw [e3] at z3;exact z3
def mZ:Sp:=fun vs H Q _=>∃ (v:V) (o:Addr) (h:Hs) (order:List Nat),vs=[v,.ref o]/\HouseAt H v h/\aS h/\H o=some (.lst (ax order))/\Gone h.1 h.2 order/\order.length<=200 ∧
 ∀ (l:Addr) (ss:List Str) (H':Hp),Same H H'->H l=none->ss.Perm (ay h.1 h.2 order)->ss.Pairwise leS->H' l=some (.lst (ss.map V.str))->Q (.ref l) H'
abbrev lkD (rs:List Rm)(o:List Nat):List Str:=o.flatMap fun i=>(rmD rs i).1
abbrev kyD (rs:List Rm)(o:List Nat):List Str:=o.flatMap fun i=>(rmD rs i).2
theorem sF {rs:List Rm}(h:∀ r∈rs,r.2.length<=1000):∀ o:List Nat,(kyD rs o).length<=1000 * o.length
 | []=>xS _
 | i::o=>by
  have ih:=sF h o;have hi:(rmD rs i).2.length<=1000:=by
   unfold rmD;cases e:rs[i]? with
   | none=>exact xS _
   | some r=>exact h r (xV e)
  show (List.flatMap _ (i::o)).length<=_;rw [zg,xq,yx];show _+(kyD rs o).length<=_;lia
theorem tX {α:Type}(f:Nat->List α){o:List Nat}{i n:Nat}(h:o[i]? = some n):o.flatMap f=(o.take i).flatMap f++(f n++(o.drop (i+1)).flatMap f):=by
 obtain⟨lt,e⟩:=xp.mp h;have e1:o=o.take i++n::o.drop (i+1):=by
  rw [← e,← zA lt,yt]
 have e2:=xQ (List.flatMap f) e1;rw [zM,zg] at e2;exact e2
theorem tT {h:Hs}{o:List Nat}(g:Gone h.1 h.2 o){i n j:Nat}(hi:o[i]? = some n)(hj:j < (rmD h.2 n).1.length):(rmD h.2 n).1[j]∈(lkD h.2 (o.take i)++(rmD h.2 n).1.take j).foldl List.erase (h.1++kyD h.2 o):=by
 generalize ex:(rmD h.2 n).1[j]=x;have a:=cj x o g;have b:=tX (fun i=>(rmD h.2 i).1) hi;have c:=(aa2 (j+1) (rmD h.2 n).1).count_le x;rw [yn,xm hj,ex,yC] at c;have c1:[x].count x=1:=by simp
 have c2:(List.count x (some x).toList)=1:=c1;rw [c2] at c;rw [b,yC,yC] at a;refine List.count_pos_iff.mp ?_;rw [cz,yC,yC];show 0 < h.1.count x+(o.flatMap fun i=>(rmD h.2 i).2).count x - (((o.take i).flatMap fun i=>(rmD h.2 i).1).count x+_);lia
theorem pH {h:Hs}{o:List Nat}(g:Gone h.1 h.2 o):((lkD h.2 o).foldl List.erase (h.1++kyD h.2 o)).Perm (ay h.1 h.2 o):=by
 rw [aaK];intro x;have a:=cj x o g;rw [cz,yC];show h.1.count x+(o.flatMap fun i=>(rmD h.2 i).2).count x - (o.flatMap fun i=>(rmD h.2 i).1).count x=_;lia
theorem bP:aL ["house","order","found","room","kind"] ["house","order"] (aq eA):=scM rfl rfl rfl rfl (by decide +kernel)
theorem sV {f:Addr}{fd:FuncData}(F:Fun K "_law_held" "_law_held" eA f fd)(bU:mg "list" = none)(a9:mg "sorted" = none):bf P w K mg base CX0 1 f fd ["house","order"] mZ:=by
 refine F.ok bP (fun vs H Q E h=>?_) (fun cdv A outer s H vs Q E hr h=>?_)
 ·obtain⟨v,o,h,order,rfl,_⟩:=h
  rfl
 ·obtain⟨v,o,h,order,rfl,⟨t,a,r,us,rfl,ht,ha,hr',hR⟩,ok,ho,hg,hol,k⟩:=h;refine⟨_,(aj (aD (i:=2) bP.nd rfl (.inl rfl) (bV cy rfl bU (by decide +kernel) (ae (aT cw (pv 0) ao (fun _ _=>rfl)) ah)))
   (aj (bu (dZ yF rfl (cF (pv 1)) (aF (i:=3) bP.nd rfl (.inl rfl))
    (au (aD (i:=2) bP.nd rfl (.inl rfl) (aN gu (pv 2) (aT cw (aT aM (aT cw (pv 0) ao (fun _ _=>rfl)) (pv 3) (fun _ _=>rfl)) ao (fun _ _=>rfl)))))))
   (aj (bu (dZ yF rfl (cF (pv 1)) (aF (i:=3) bP.nd rfl (.inl rfl))
    (au (bu (dZ yF rfl (cF (aT cw (aT aM (aT cw (pv 0) ao (fun _ _=>rfl)) (pv 3) (fun _ _=>rfl)) ao (fun _ _=>rfl))) (aF (i:=4) bP.nd rfl (.inl rfl))
     (au (bO (iP yi abb abc ko (pv 2) (ae (pv 4) ah)))))))))
   (au (aK (av di rfl a9 aak (ae (pv 2) ah))))))),?_⟩
  have kl2:∀ r∈h.2,r.2.length<=1000:=fun r hr=>(ok.rs r hr).kl;have kl1:=ok.kl;refine⟨_,rfl,t,_,0,.ref a,rfl,rfl,aAB ht,rfl,a,_,rfl,.inl (aAA ha),fun l nl=>?_⟩;have s1:Same H (upd H l (.lst (h.1.map V.str))):=az nl;refine⟨fun σ' H'=>∃ (l:Addr) (x3 x4:Option V),σ'=[some (.ref t),some (.ref o),some (.ref l),x3,x4]/\H' l=some (.lst ((h.1++kyD h.2 order).map V.str))/\H l=none/\Same H H',?_,?_⟩;rotate_left
  ·refine⟨_,rfl,o,rfl,⟨_,aAA (s1 _ _ ho)⟩,?_⟩;refine ic (xs:=ax order) (fun i σ' H'=>∃ (l:Addr) (x3 x4:Option V),σ'=[some (.ref t),some (.ref o),some (.ref l),x3,x4]/\H' l=some (.lst ((h.1++kyD h.2 (order.take i)).map V.str))/\H l=none/\Same H H') ⟨l,_,_,rfl,by rw [ag];simp [kyD],nl,s1⟩ (fun i σ H' _ ⟨_,_,_,_,_,_,s⟩=>aAA (s _ _ ho)) ?_ ?_
   ·rintro i x σ H2 hx ⟨l2,x3,x4,rfl,hl2,nl2,s2⟩;have hi:=(xp.mp hx).1;rw [xn] at hi;rw [xO,xm hi] at hx;cases hx;have ei:order[i]? = some order[i]:=xm hi;generalize order[i]=n at ei ⊢;have g1:=(hg i n ei).1;obtain⟨q,hq⟩:∃ q,h.2[n]? = some q:=⟨_,xm g1⟩;obtain⟨v,hv⟩:∃ v,us[n]? = some v:=⟨_,xm (by rw [hR.1];exact g1)⟩;obtain⟨tt,aa,bb,rfl,q1,q2,q3⟩:=(hR.2 n v q hv hq).same s2;have z1:=sF kl2 (order.take i);rw [xN] at z1;have z2:=kl2 q (xV hq);refine⟨_,rfl,_,rfl,t,_,1,.ref r,rfl,rfl,aAB (s2 _ _ ht),rfl,_,rfl,r,us,(n:Int),_,rfl,rfl,aAA (s2 _ _ hr'),cf hv,tt,_,1,.ref bb,rfl,rfl,aAB q1,rfl,l2,bb,_,_,rfl,rfl,hl2,q3,?_,fun p np=>?_⟩
    ·rw [xn,xn,xq];exact xE (by lia:_<=202000) (by decide)
    ·refine⟨p,_,_,rfl,?_,s2.free np,s2.trans (az np)⟩;rw [ag,yn,ei];show _=some (HO.lst ((h.1++List.flatMap _ (order.take i++[n])).map V.str));rw [zM,← xB,← xR];have e9:(List.flatMap (fun i=>(rmD h.2 i).2) [n])=q.2:=by
      rw [zg,abh,yg];unfold rmD;rw [hq];rfl
     rw [e9]
   ·rintro σ H2 ⟨l2,x3,x4,rfl,hl2,nl2,s2⟩;rw [xn,yv] at hl2;exact⟨l2,x3,x4,rfl,hl2,nl2,s2⟩
  rintro σ H1 ⟨l1,x3,x4,rfl,hl1,nl1,s01⟩;refine⟨fun σ' H'=>∃ (x3 x4:Option V),σ'=[some (.ref t),some (.ref o),some (.ref l1),x3,x4]/\H' l1=some (.lst (((lkD h.2 order).foldl List.erase (h.1++kyD h.2 order)).map V.str))/\Same H H',?_,?_⟩
  ·rintro σ H2 ⟨x3,x4,rfl,hl2,s2⟩;have hp:=pH hg;have hf:=gn ok hol;refine⟨_,rfl,l1,_,rfl,aAA hl2,by rw [hp.length_eq];exact xE hf (by decide),fun l2 ss nl2 hp2 hs=>?_⟩;exact k l2 ss _ (s2.trans (az nl2)) (s2.free nl2) (hp2.trans hp) (bt hs) ag
  refine⟨_,rfl,o,rfl,⟨_,aAA (s01 _ _ ho)⟩,?_⟩;refine ic (xs:=ax order) (fun i σ' H'=>∃ (x3 x4:Option V),σ'=[some (.ref t),some (.ref o),some (.ref l1),x3,x4]/\H' l1=some (.lst (((lkD h.2 (order.take i)).foldl List.erase (h.1++kyD h.2 order)).map V.str))/\Same H H') ⟨_,_,rfl,hl1,s01⟩ (fun i σ H' _ ⟨_,_,_,_,s⟩=>aAA (s _ _ ho)) ?_ ?_;rotate_left
  ·rintro σ H2 ⟨x3,x4,rfl,hl2,s2⟩;rw [xn,yv] at hl2;exact⟨x3,x4,rfl,hl2,s2⟩
  rintro i x σ H2 hx ⟨x3,x4,rfl,hl2,s2⟩;have hi:=(xp.mp hx).1;rw [xn] at hi;rw [xO,xm hi] at hx;cases hx;have ei:order[i]? = some order[i]:=xm hi;generalize order[i]=n at ei ⊢;have g1:=(hg i n ei).1;obtain⟨q,hq⟩:∃ q,h.2[n]? = some q:=⟨_,xm g1⟩;have eq1:rmD h.2 n=q:=by unfold rmD;rw [hq];rfl
  obtain⟨v,hv⟩:∃ v,us[n]? = some v:=⟨_,xm (by rw [hR.1];exact g1)⟩;obtain⟨tt,aa,bb,rfl,q1,q2,q3⟩:=hR.2 n v q hv hq;have e8:lkD h.2 (order.take (i+1))=lkD h.2 (order.take i)++q.1:=by
   rw [yn,ei];show List.flatMap _ (order.take i++[n])=_;rw [zM,zg,abh,yg,eq1]
  refine⟨fun σ' H'=>∃ (x3 x4:Option V),σ'=[some (.ref t),some (.ref o),some (.ref l1),x3,x4]/\H' l1=some (.lst (((lkD h.2 (order.take (i+1))).foldl List.erase (h.1++kyD h.2 order)).map V.str))/\Same H H',fun σ' H' z=>z,?_⟩;refine⟨_,rfl,t,_,1,.ref r,rfl,rfl,aAB (s2 _ _ ht),rfl,_,rfl,r,us,(n:Int),_,rfl,rfl,aAA (s2 _ _ hr'),cf hv,tt,_,0,.ref aa,rfl,rfl,aAB (s2 _ _ q1),rfl,aa,rfl,⟨_,aAA (s2 _ _ q2)⟩,?_⟩;refine ic (xs:=q.1.map V.str) (fun j σ' H'=>∃ (x3 x4:Option V),σ'=[some (.ref t),some (.ref o),some (.ref l1),x3,x4]/\H' l1=some (.lst (((lkD h.2 (order.take i)++q.1.take j).foldl List.erase (h.1++kyD h.2 order)).map V.str))/\Same H H') ⟨_,_,rfl,by rw [hl2];simp,s2⟩ (fun j σ H' _ ⟨_,_,_,_,s⟩=>aAA (s _ _ q2)) ?_ ?_
  ·rintro j x σ H3 hx ⟨x3,x4,rfl,hl3,s3⟩;have hj:=(xp.mp hx).1;rw [xn] at hj;rw [xO,xm hj] at hx;cases hx;have hin:q.1[j]∈(lkD h.2 (order.take i)++q.1.take j).foldl List.erase (h.1++kyD h.2 order):=by
    subst eq1;exact tT hg ei hj
   refine⟨_,rfl,.inl ⟨rfl,_,aAA hl3⟩,_,rfl,l1,_,q.1[j],rfl,rfl,hl3,hin,?_⟩;refine⟨_,_,rfl,?_,fun b u e=>?_⟩
   ·rw [ag,yn,xm hj,← xB];rw [aba (l':=(some q.1[j]).toList)]
    rfl
   ·rw [ai (af e nl1)];exact s3 b u e
  ·rintro σ H3 ⟨x3,x4,rfl,hl3,s3⟩;rw [xn,yv,← e8] at hl3;exact⟨x3,x4,rfl,hl3,s3⟩
end
end K7
namespace L2
open PySem PySem.Spec PyProof.Rows
def uU (h:Heap)(e T:Addr)(cls a0:Value):Prop :=
 ∃ oe vs oT ts,h.get? e=some oe/\(oe.cls=cls/\vs[0]? = some a0)/\oe.data=.fields vs/\vs[1]? = some (.ref T)/\T≠e/\h.get? T=some oT/\oT.data=.fields ts/\ts[3]? = some .none
def CXr (P:Program)(w:World):CXT:=fun outer H s E ev s'=>∃ (e T:Addr) (cls a0:Value) (H':Hp),ev=.ref e/\s'.os=s.os/\AllBare s'.gens/\Un (frs outer) [] H H' s.heap s'.heap/\HOk P w H' s'.heap ∧
 uU s'.heap e T cls a0/\s.heap.get? e=none/\s.heap.get? T=none/\H' e=none/\H' T=none/\E cls none H'
theorem ObjOk.obj {P:Program}{w:World}{H:Hp}{h:Heap}{a:Addr}{o:HO}(x:ObjOk P w H h a o):∃ ob,h.get? a=some ob:=by
 cases o with
 | lst xs=>obtain⟨_,_,_,_,e⟩:=x;exact⟨_,e⟩
 | tup xs=>obtain⟨_,_,_,o,e,_⟩:=x;exact⟨_,e⟩
 | dK kvs=>obtain⟨_,_,_,_,o,_,_,e,_⟩:=x;exact⟨_,e⟩
 | dT kvs=>obtain⟨_,_,_,_,o,_,_,e,_⟩:=x;exact⟨_,e⟩
 | set S n=>obtain⟨o,_,_,_,e,_⟩:=x;exact⟨_,e⟩
 | ins C dx fs=>obtain⟨_,_,_,e,_⟩:=x;exact⟨_,e⟩
 | own y=>exact x
 | xd fs=>obtain⟨_,⟨_,_,_,e,_⟩,_⟩:=x;exact⟨_,e⟩
 | rng lo hi=>obtain⟨_,_,_,e⟩:=x;exact⟨_,e⟩
 | frz ob u=>obtain⟨e,_⟩:=x;exact⟨_,e⟩
 | tbl ps=>exact⟨_,x⟩
 | met f y=>exact⟨_,x⟩
 | ext φ=>exact x.2.1
def cb (h:Heap)(l:List Addr):Heap:=hideAll h l
theorem eB {h base:Heap}{L:List Addr}:∀ {l:List Env},h.FunFrames base l->(∀ b∈frs l,b∈L)->h.FunFrames (cb h L) l
 | [],_,_=>True.intro
 | env::outer,x,s=>by
  unfold Heap.FunFrames at x ⊢;obtain⟨k,⟨F,o,f,_,g,d⟩,r⟩:=x;have hF:F∈frs (env::outer):=by unfold frs;rw [zh,f];exact xD
  exact⟨k,⟨F,o,f,zZ _ (s F hF),g,d⟩,eB r fun b hb=>s b (by unfold frs at hb ⊢;rw [zh,f];exact xu _ hb)⟩
theorem HOk.left {P:Program}{w:World}{H:Hp}{h h':Heap}{L:List Addr}(x:HOk P w H h)(n:∀ b∈L,H b=none)(k:(cb h L).StaysIn h'):HOk P w H h':=fun a o q=>by
 refine (x a o q).stay (fun b u hb g=>k b u (zI _ g fun z=>?_)) (fun _ z=>z) fun _ _ z=>z;have hn:=n b z;rcases hb with e | e
 ·rw [e,q] at hn;cases hn
 ·rw [e] at hn;cases hn
theorem iT {h h':Heap}{base:Heap}{l:List Env}(x:h.FunFrames base l)(k:∀ b o,h.get? b=some o->(∀ vs,o.data≠.fields vs)->∃ sl,h'.get? b=some { o with slots:=sl }){b:Addr}{o:Obj}(hb:b∈frs l)(e:h.get? b=some o):∃ sl,h'.get? b=some { o with slots:=sl }:=by
 obtain⟨_,o',e',d⟩:=x.mem hb;rw [e] at e';cases e';exact k b o e d
section
variable {P:Program}{w:World}{K:PySem.W.Frag}{mg:Str->Option Value}{base:Heap}{N:List Str}{qual:Str}{scope:Scope}{f:Addr}{cd:Value}{A:Around}{outer:List Env}{s:Shared}{H:Hp}{E0:XK}
theorem tF {pins:List (Addr×Obj)}{σ:St}{H2:Hp}{s2:Shared}{h':Heap}{e T:Addr}{cls a0:Value}(J:Inv (gL (CXr P w) P w K mg base N qual scope f cd A outer s H E0) pins σ H2 s2)
 (ne:H2 e=none)(nT:H2 T=none)(ge:s.heap.get? e=none)(gT:s.heap.get? T=none)
 (L:Heap.LeftW (cb s2.heap (e::T::frs (envOfC qual scope s.heap.objs.size f cd::outer))) (envOfC qual scope s.heap.objs.size f cd::outer) e cls a0 s2.heap h')(q:E0 cls none H2):CXr P w outer H s E0 (.ref e) { s2 with heap:=h' }:=by
 obtain⟨st,fn,⟨oe,vs,T',oT,ts,g1,g2,g3,g4,g5,g6,g7,g8,g9⟩,kp⟩:=L;have hst:=J.stack;have sf:∀ b∈frs (envOfC qual scope s.heap.objs.size f cd::outer),H2 b=none:=J.stkFree;have nl:∀ b∈e::T::frs (envOfC qual scope s.heap.objs.size f cd::outer),H2 b=none:=fun b hb=>by
  rcases xA.mp hb with z | hb
  ·rw [z];exact ne
  ·rcases xA.mp hb with z | hb
   ·rw [z];exact nT
   ·exact sf b hb
 have fsub:∀ b∈frs outer,b∈frs (envOfC qual scope s.heap.objs.size f cd::outer):=fun b hb=>by
  unfold frs at hb ⊢;rw [zh];split
  ·exact hb
  ·exact xu _ hb
 have locs:∀ b∈frs (envOfC qual scope s.heap.objs.size f cd::outer),b=s.heap.objs.size\/b∈frs outer:=fun b hb=>xA.mp (J.stkSub b hb);have notF:∀ b∈frs (envOfC qual scope s.heap.objs.size f cd::outer),b≠T':=fun b hb z=>by
  obtain⟨_,o',e',d⟩:=fn.mem hb;rw [z,g7] at e';cases e';exact d _ g8
 have inB:∀ b o,s2.heap.get? b=some o->b≠e->b≠T->b ∉ frs (envOfC qual scope s.heap.objs.size f cd::outer)->(cb s2.heap (e::T::frs (envOfC qual scope s.heap.objs.size f cd::outer))).get? b=some o:=fun b o g h1 h2 h3=>zI _ g fun z=>by
  rcases xA.mp z with z | z
  ·exact h1 z
  ·rcases xA.mp z with z | z
   ·exact h2 z
   ·exact h3 z
 have hb:=J.base;have old:∀ b o,s.heap.get? b=some o->b≠e/\b≠T/\b≠s.heap.objs.size:=fun b o g=>⟨(fun z=>by rw [z,ge] at g;cases g),(fun z=>by rw [z,gT] at g;cases g),fun z=>yU _ (z▸xF g)⟩;have step:∀ b o,s2.heap.get? b=some o->b≠e->b≠T->∃ sl,h'.get? b=some { o with slots:=sl }:=fun b o g h1 h2=>by
  by_cases h3:b∈frs (envOfC qual scope s.heap.objs.size f cd::outer)
  ·exact iT hst kp h3 g
  ·exact⟨o.slots,st b o (inB b o g h1 h2 h3)⟩
 refine⟨e,T',cls,a0,H2,rfl,J.os,J.bare,⟨fun b o g n hf hx=>?_,fun b o g n hf hx=>?_,hb.free,fun b o g hx=>?_,hb.tups,hb.frzs,hb.tbls⟩,J.hok.left nl st,⟨oe,vs,oT,ts,g1,g2,g3,g4,g6,g7,g8,g9⟩,ge,?_,ne,?_,q⟩
 ·obtain⟨h1,h2,h3⟩:=old b o g;refine st b o (inB b o (hb.keep b o g n hf hx) h1 h2 fun z=>?_);rcases locs b z with z | z
  ·exact h3 z
  ·exact hf z
 ·obtain⟨h1,h2,h3⟩:=old b o g;obtain⟨sl,g'⟩:=hb.slot b o g n hf hx;obtain⟨sl',g''⟩:=step b _ g' h1 h2;exact⟨sl',g''⟩
 ·obtain⟨h1,h2,h3⟩:=old b o g;obtain⟨o',g'⟩:=hb.there b o g hx;obtain⟨sl',g''⟩:=step b _ g' h1 h2;exact⟨_,g''⟩
 ·cases g:s.heap.get? T' with
  | none=>rfl
  | some o =>
   obtain⟨h1,h2,h3⟩:=old T' o g;obtain⟨o',g'⟩:=hb.there T' o g (by show T' ∉ ([]:List Addr);simp);have:=inB T' o' g' h1 h2 fun z=>notF T' z rfl;rw [g5] at this;cases this
 ·cases g:H2 T' with
  | none=>rfl
  | some o =>
   obtain⟨ob,g'⟩:=(J.hok T' o g).obj;have:=inB T' ob g' g6 (fun z=>by rw [z,nT] at g;cases g) fun z=>notF T' z rfl;rw [g5] at this;cases this
end
section
variable {P:Program}{w:World}{K:PySem.W.Frag}{mg:Str->Option Value}{base:Heap}{N:List Str}{qual:Str}{scope:Scope}{f:Addr}{cd:Value}{A:Around}{outer:List Env}{s:Shared}{H:Hp}{E0:XK}
end
theorem jc:isSubtype (.type "type") (.type "tuple")=pure false:=by first | rfl | kernel_rfl
theorem iG {M:Model}{A:Around}{E:Value->Shared->Prop}{s:Shared}{C1:Addr}{b:Value}{nm1 q1:Str}{N1:Addr}{bs1 bm1:List Value}{hdct1:Bool}{sn1:List Str}{sub1:List Value}{ab1:Bool}{col1:Option Bool}{dd1:Option Addr}{l0 l1 l2 l3 l5:Option Value}{newId1:String}{Q:Bool->Shared->Prop}
 (hC1:s.heap.get? C1=some (excClassObj nm1 q1 C1 N1 bs1 bm1 hdct1 sn1 sub1 ab1 col1 dd1 l0 l1 l2 l3 l5 newId1))(h:Q ((Value.ref C1::bm1).contains b) s):wpAny M A (isSubtype (.ref C1) b) Q E s:=by
 unfold isSubtype mroOf classData;refine xo (xo (xo (wpAny_load hC1 ?_)));refine xC (xC ?_);show wpAny M A (pure ((Value.ref C1::bm1).contains b)) Q E s;exact xC h
theorem tD {M:Model}{A:Around}{E:Value->Shared->Prop}{s:Shared}{e C C1:Addr}{oe:Obj}{nm q nm1 q1:Str}{N N1:Addr}{bs bm bs1 bm1:List Value}{hdct hdct1:Bool}{sn sn1:List Str}{sub sub1:List Value}{ab ab1:Bool}{col col1:Option Bool}{dd dd1:Option Addr}{k0 k1 k2 k3 k5 l0 l1 l2 l3 l5:Option Value}{newId newId1:String}{Q:Bool->Shared->Prop}
 (hC:s.heap.get? C=some (excClassObj nm q C N bs bm hdct sn sub ab col dd k0 k1 k2 k3 k5 newId))(hC1:s.heap.get? C1=some (excClassObj nm1 q1 C1 N1 bs1 bm1 hdct1 sn1 sub1 ab1 col1 dd1 l0 l1 l2 l3 l5 newId1))
 (he:s.heap.get? e=some oe)(hc:oe.cls=.ref C1)(hb:bm.contains (.type "BaseException")=true)(hm:(Value.ref C1::bm1).contains (.ref C)=true)(h:Q true s):wpAny M A (excMatches (.ref e) (.ref C)) Q E s:=by
 unfold excMatches isInstance;refine xo (xo (wpAny_typeOf (T := "type") ⟨_,hC,rfl⟩ ?_));rw [jc];refine xC ?_;show wpAny M A (forIn [Value.ref C] PUnit.unit _ >>= _) Q E s;rw [abr];refine xo (xo (xo ?_));unfold isExcClass isType loadHead;refine xo (xo (aaX hC ?_));refine xC ?_;show wpAny M A (isSubtype (Value.ref C) (Value.type "BaseException")) _ E s;refine iG hC ?_;have e1:(Value.ref C::bm).contains (.type "BaseException")=true:=by rw [aaU,hb,acp]
 rw [e1];show wpAny M A (pure (ForInStep.yield PUnit.unit)) _ E s;refine xC ?_;show wpAny M A (pure PUnit.unit) _ E s;refine xC ?_;refine xo (yX he ?_);rw [hc];rw [abr];refine xo (xo (xo (iG hC1 ?_)));rw [hm];show wpAny M A (pure (ForInStep.done (some true,()))) _ E s;refine xC ?_;show wpAny M A (pure (some true,())) _ E s;refine xC ?_;exact xC h
abbrev Cx.tried (X:Cx)(pins:List (Addr×Obj))(xe:Value->Shared->Prop):Cx:={ X with pn:=X.pn++pins,xe:=xe }
abbrev Cx.marked (X:Cx)(a:Addr):Cx:={ X with A:=X.A.mark (some (.ref a)),calm:=false,xe:=fun _ _=>False }
section
variable {X:Cx}{pins pins':List (Addr×Obj)}{σ:St}{H:Hp}{s:Shared}{xe:Value->Shared->Prop}{a:Addr}
theorem Inv.tried (I:Inv X pins σ H s)(xe:Value->Shared->Prop):Inv (X.tried pins xe) [] σ H s :=
 ⟨⟨I.ok.mod,I.ok.kind,I.ok.glob,I.ok.blt,I.ok.above,I.ok.inj,I.ok.has,I.ok.cab,I.ok.hd,I.ok.frames,I.ok.stk,I.ok.exf,I.ok.bs,I.ok.bsz,I.ok.noex,I.ok.exfs,I.ok.funs,I.ok.frf⟩,I.os,I.bare,I.base,I.loc,I.cell,I.free,I.freeC,fun p hp=>I.pin p (by simpa using hp),I.hok,I.len⟩
theorem Inv.untried (I:Inv (X.tried pins xe) pins' σ H s):Inv X pins σ H s :=
 ⟨⟨I.ok.mod,I.ok.kind,I.ok.glob,I.ok.blt,I.ok.above,I.ok.inj,I.ok.has,I.ok.cab,I.ok.hd,I.ok.frames,I.ok.stk,I.ok.exf,I.ok.bs,I.ok.bsz,I.ok.noex,I.ok.exfs,I.ok.funs,I.ok.frf⟩,I.os,I.bare,I.base,I.loc,I.cell,I.free,I.freeC,fun p hp=>I.pin p (z4 _ hp),I.hok,I.len⟩
theorem SP.untried {D:lg}{f:Flow}{s':Shared}(h:SP (X.tried pins xe) pins' D f s'):SP X pins D f s':=by
 cases f with
 | next=>obtain⟨σ',H',I,q⟩:=h;exact⟨σ',H',I.untried,q⟩
 | brk=>obtain⟨σ',H',I,q⟩:=h;exact⟨σ',H',I.untried,q⟩
 | cont=>obtain⟨σ',H',I,q⟩:=h;exact⟨σ',H',I.untried,q⟩
 | ret u=>obtain⟨v,σ',H',I,r,q⟩:=h;exact⟨v,σ',H',I.untried,r,q⟩
theorem Inv.marked (I:Inv X pins σ H s)(a:Addr):Inv (X.marked a) pins σ H s :=
 ⟨⟨I.ok.mod,I.ok.kind,I.ok.glob,I.ok.blt,I.ok.above,I.ok.inj,I.ok.has,I.ok.cab,(fun z=>by cases z),I.ok.frames,I.ok.stk,I.ok.exf,I.ok.bs,I.ok.bsz,I.ok.noex,I.ok.exfs,I.ok.funs,I.ok.frf⟩,I.os,I.bare,I.base,I.loc,I.cell,I.free,I.freeC,I.pin,I.hok,I.len⟩
theorem Inv.unmarked (I:Inv (X.marked a) pins σ H s)(hd:X.calm=true->X.A.handled=none):Inv X pins σ H s :=
 ⟨⟨I.ok.mod,I.ok.kind,I.ok.glob,I.ok.blt,I.ok.above,I.ok.inj,I.ok.has,I.ok.cab,hd,I.ok.frames,I.ok.stk,I.ok.exf,I.ok.bs,I.ok.bsz,I.ok.noex,I.ok.exfs,I.ok.funs,I.ok.frf⟩,I.os,I.bare,I.base,I.loc,I.cell,I.free,I.freeC,I.pin,I.hok,I.len⟩
theorem Inv.bend {h':Heap}{t':Nat}{e T:Addr}(I:Inv X pins σ H s)(ne:H e=none)(nT:H T=none)(old:∀ b o,X.s₀.heap.get? b=some o->b ∉ X.ex->b≠e/\b≠T)(pn:∀ p∈X.pn++pins,p.1≠e/\p.1≠T)
 (st:(cb s.heap (e::T::frs X.stack)).StaysIn h')(kp:∀ b o,s.heap.get? b=some o->(∀ vs,o.data≠.fields vs)->∃ sl,h'.get? b=some { o with slots:=sl }):Inv X pins σ H { s with heap:=h',toks:=t' }:=by
 have hst:=I.stack;have nl:∀ b∈e::T::frs X.stack,H b=none:=fun b hb=>by
  rcases xA.mp hb with z | hb
  ·rw [z];exact ne
  ·rcases xA.mp hb with z | hb
   ·rw [z];exact nT
   ·exact I.stkFree b hb
 have inB:∀ b o,s.heap.get? b=some o->b≠e->b≠T->b ∉ frs X.stack->h'.get? b=some o:=fun b o g h1 h2 h3=>st b o (zI _ g fun z=>by
  rcases xA.mp z with z | z
  ·exact h1 z
  ·rcases xA.mp z with z | z
   ·exact h2 z
   ·exact h3 z)
 have neL:∀ b o,X.s₀.heap.get? b=some o->b≠X.env.locals:=fun b o e=>xY (xP (xF e) I.ok.above);have notF:∀ b,b≠X.env.locals->b ∉ X.fs->b ∉ frs X.stack:=fun b h1 h2 z=>by
  rcases xA.mp (I.stkSub b z) with z | z
  ·exact h1 z
  ·exact h2 z
 have step:∀ b o,s.heap.get? b=some o->b≠e->b≠T->∃ sl,h'.get? b=some { o with slots:=sl }:=fun b o g h1 h2=>by
  by_cases h3:b∈frs X.stack
  ·exact iT hst kp h3 g
  ·exact⟨o.slots,inB b o g h1 h2 h3⟩
 have cellK:∀ c v,s.heap.IsCell c v->h'.IsCell c v:=fun c v ⟨o,ho,hd⟩=>by
  obtain⟨sl,g⟩:=kp c o ho fun vs z=>by rw [hd] at z;cases z
  exact⟨_,g,hd⟩
 refine⟨I.ok,I.os,I.bare,⟨fun b o g n hf hx=>?_,fun b o g n hf hx=>?_,I.base.free,fun b o g hx=>?_,I.base.tups,I.base.frzs,I.base.tbls⟩,?_,fun x c g=>?_,I.free,I.freeC,fun p hp=>?_,I.hok.left nl st,I.len⟩
 ·obtain⟨h1,h2⟩:=old b o g hx;exact inB b o (I.base.keep b o g n hf hx) h1 h2 (notF b (neL b o g) hf)
 ·obtain⟨h1,h2⟩:=old b o g hx;obtain⟨sl,g'⟩:=I.base.slot b o g n hf hx;obtain⟨sl',g''⟩:=step b _ g' h1 h2;exact⟨sl',g''⟩
 ·obtain⟨h1,h2⟩:=old b o g hx;obtain⟨o',g'⟩:=I.base.there b o g hx;obtain⟨sl',g''⟩:=step b _ g' h1 h2;exact⟨_,g''⟩
 ·obtain⟨m,hn,hl⟩:=I.loc;obtain⟨o,es,ep,ho,r⟩:=id hn;obtain⟨sl,g⟩:=kp X.env.locals o ho fun vs z=>by rw [r.1] at z;cases z
  refine⟨m,⟨_,es,ep,g,r⟩,fun i x v e1 e2 e3=>?_⟩;obtain⟨u,rv,l⟩:=hl i x v e1 e2 e3;refine⟨u,rv,?_⟩;rcases l with l | ⟨k,c,hc,hi⟩
  ·exact .inl l
  ·exact .inr ⟨k,c,hc,cellK c _ hi⟩
 ·obtain⟨v,hv⟩:=I.cell x c g;exact⟨v,cellK c v hv⟩
 ·obtain⟨p1,p2,p3,p4,p5⟩:=I.pin p hp;obtain⟨h1,h2⟩:=pn p hp;exact⟨inB p.1 p.2 p1 h1 h2 (notF p.1 p3 p4),p2,p3,p4,p5⟩
theorem Inv.goes {i:Nat}{n:Str}{h':Heap}{t':Nat}{v:Option Value}{m:Str->Option Value}(I:Inv X pins σ H s)(hN:X.N.Nodup)(hi:X.N[i]? = some n)(hk:X.env.kindOf n=some .local)(hm:∀ (j:Nat) (x:Str) (v:V),X.N[j]? = some x->σ[j]? = some (some v)->Vis X.env.scope x->∃ u,RelV v u/\wI X.env s.heap m x u)
 (ns:h'.Ns X.env.locals fun x=>if x=n then v else m x)(sb:Heap.SameBut X.env.locals s.heap h')(nsm:s.heap.Ns X.env.locals m):Inv X pins (σ.set i none) H { s with heap:=h',toks:=t' }:=by
 have neL:∀ b o,X.s₀.heap.get? b=some o->b≠X.env.locals:=fun b o e=>xY (xP (xF e) I.ok.above);obtain⟨oL,_,_,hoL,_⟩:=id nsm;have cellK:∀ x c v,X.env.cells.lookup x=some c->s.heap.IsCell c v->h'.IsCell c v:=fun x c v hx ⟨o,ho,hd⟩=>⟨o,(sb.2 c (I.cne x c hx)).trans ho,hd⟩;refine⟨I.ok,I.os,I.bare,⟨fun b o g nn hf hx=>(sb.2 b (neL b o g)).trans (I.base.keep b o g nn hf hx),fun b o g nn hf hx=>?_,I.base.free,fun b o g hx=>?_,I.base.tups,I.base.frzs,I.base.tbls⟩,⟨_,ns,fun j x v' e1 e2 e3=>?_⟩,fun x c g=>?_,I.free,I.freeC,fun p hp=>?_,fun b u g=>?_,by simpa using I.len⟩
 ·obtain⟨sl,g'⟩:=I.base.slot b o g nn hf hx;exact⟨sl,(sb.2 b (neL b o g)).trans g'⟩
 ·obtain⟨o',g'⟩:=I.base.there b o g hx;exact⟨o',(sb.2 b (neL b o g)).trans g'⟩
 ·have hj:j≠i:=fun z=>by
   subst z;have hjl:j < σ.length:=by rw [I.len];exact (xp.mp hi).1
   rw [zk hjl] at e2;cases e2
  rw [z5 (xZ hj)] at e2;obtain⟨u,r,l⟩:=hm j x v' e1 e2 e3;refine⟨u,r,?_⟩;rcases l with ⟨k,q⟩ | ⟨k,c,hc,hi'⟩
  ·refine .inl ⟨k,?_⟩;show (if x=n then v else m x)=some u;rw [if_neg fun z:x=n=>hj (jH hN e1 (by rw [z];exact hi))];exact q
  ·exact .inr ⟨k,c,hc,cellK x c _ hc hi'⟩
 ·obtain⟨v',hv⟩:=I.cell x c g;exact⟨v',cellK x c v' g hv⟩
 ·obtain⟨p1,p2,p3,p4,p5⟩:=I.pin p hp;exact⟨(sb.2 p.1 p3).trans p1,p2,p3,p4,p5⟩
 ·refine (I.hok b u g).stay (fun c w' hc q=>(sb.2 c fun z=>?_).trans q) (fun _ q=>q) fun _ _ q=>q;have:=I.free;rcases hc with e | e
  ·rw [← z,e,g] at this;cases this
  ·rw [← z,e] at this;cases this
end
theorem fU {h:Heap}{a b:Addr}{f:Obj->Obj}{o:Obj}(ne:b≠a)(g:h.get? b=some o):(h.update a f).get? b=some o:=zQ f (xZ ne) g
section
variable {prog:Program}{w:World}{A:Around}{E:Value->Shared->Prop}{h:Heap}{g:Array GenState}{d:Drawn}{t:Nat}{os:OsState}{nm q:Str}{C N:Addr}{bs bm bmB bmN:List Value}{hdct:Bool}{sn:List Str}{sub:List Value}{ab:Bool}{col:Option Bool}{dd:Option Addr}{k0 k1 k2 k3 k5:Option Value}{B Bn newId nid initId inN:String}{mN:Str->Option Value}{rest:List Value}{fI:Addr}{oI:Obj}
theorem ja {Q:PySem.Fin->Shared->Prop}(Fn:ExcBaseFacts Bn newId inN bmN)(hBn:bmB.contains (.type Bn)=true)(F:ExcBaseFacts B nid initId bmB)(T:OwnTail h bmB bm)
 (hC:h.get? C=some (excClassObj nm q C N bs bm hdct sn sub ab col dd k0 k1 k2 k3 k5 newId))(hn:h.Ns N mN)(hi:mN "__init__" = some (.ref fI))(hfI:h.get? fI=some oI)(hfc:oI.cls=.type "function")
 (hq:∀ (h':Heap) (e:Addr),h.MadeExcOf h' e (.ref C) rest->wpAny (model prog w) A (call (.ref fI) (.ref e::rest)) (fun r s'=>r=.none/\Q (.done (.ret (.ref e))) s') E { heap:=h',gens:=g,drawn:=d,toks:=t,os:=os })
 (hrest:rest.length<=sizeLine):wpAny (model prog w) A (Builtin.«type.__call__» { pos:=.ref C::rest }) Q E { heap:=h,gens:=g,drawn:=d,toks:=t,os:=os }:=by
 unfold Builtin.«type.__call__»;dsimp only;refine yD rfl ?_;refine xo ?_;unfold mroOf classData;refine xo (xo (wpAny_load' hC ?_));refine xC (xC ?_);refine yD rfl ?_;refine xo (wpAny_madeBy_exc hC ?_);refine xo (xC ?_);refine xo (yZ (aaD (codeAny_call_builtin_code (Code.quiet_builtin _ Fn.quiet) (wpAny_check_new_subU Fn hBn T hC (codeAny_exc_new_subU Fn hBn F T hC ?_ hrest)))));have hC₁:=xw { cls:=Value.ref C,data:=Data.fields #[Value.ref h.objs.size,Value.none,Value.none,Value.none,Value.bool false,Value.none] } (xw { cls:=Value.type "tuple",data:=Data.seq rest.toArray } hC);have hfI₁:=xw { cls:=Value.ref C,data:=Data.fields #[Value.ref h.objs.size,Value.none,Value.none,Value.none,Value.bool false,Value.none] } (xw { cls:=Value.type "tuple",data:=Data.seq rest.toArray } hfI);have keep:∀ b o,h.get? b=some o->((h.push { cls:=Value.type "tuple",data:=Data.seq rest.toArray }).push { cls:=Value.ref C,data:=Data.fields #[Value.ref h.objs.size,Value.none,Value.none,Value.none,Value.bool false,Value.none] }).get? b=some o:=fun b o e=>xw _ (xw _ e);have hn₁:Heap.Ns _ N mN:=let ⟨o,es,ep,e,r⟩:=hn;⟨o,es,ep,keep _ _ e,r⟩;have T₁:=T.keeps keep;have hget:=Heap.get?_push_at (h:=h.push { cls:=Value.type "tuple",data:=Data.seq rest.toArray }) (o:={ cls:=Value.ref C,data:=Data.fields #[Value.ref h.objs.size,Value.none,Value.none,Value.none,Value.bool false,Value.none] }) (a:=h.objs.size+1) (by rw [aaW]) rfl;have htup:((h.push { cls:=Value.type "tuple",data:=Data.seq rest.toArray }).push { cls:=Value.ref C,data:=Data.fields #[Value.ref h.objs.size,Value.none,Value.none,Value.none,Value.bool false,Value.none] }).get? h.objs.size=some { cls:=Value.type "tuple",data:=Data.seq rest.toArray }:=xw _ (ym h rfl);have hcC:(Value.ref C::bm).contains (.ref C)=true:=by simp
 generalize hh:(h.push { cls:=Value.type "tuple",data:=Data.seq rest.toArray }).push { cls:=Value.ref C,data:=Data.fields #[Value.ref h.objs.size,Value.none,Value.none,Value.none,Value.bool false,Value.none] }=h1 at *;show wpAny _ _ _ _ _ _;unfold isInstance typeOf;refine xo (xo ?_);refine xo (aal hget ?_);refine xC (wpAny_isSubtype_exc hC₁ ?_);rw [hcC];refine yD rfl ?_;refine xo (yZ ?_);unfold callSpecial? specialOf typeOf;refine xo ?_;refine xo ?_;refine xo (aal hget ?_);refine xC ?_;refine wpAny_typeLookup_tail hC₁ hn₁ T₁ F.mroIs F.init.lookup ?_;rw [hi];dsimp only;refine yZ ?_;unfold bindSpecial;refine xo (xo (wpAny_typeOf (T := "function") ⟨_,hfI₁,hfc⟩ ?_));refine aaZ rfl (xC ?_);show wpAny _ _ (call (Value.ref fI) (Value.ref (h.objs.size+1)::rest) >>= _) _ _ _;refine xo (za (hq h1 (h.objs.size+1) ⟨keep,zC (zT _),h.objs.size,hget,zC (xx _),htup⟩) (fun r s' hr=>?_) fun _ _ z=>z);obtain⟨rfl,hr⟩:=hr;refine xC ?_;refine yD rfl ?_;exact xC hr
theorem pE {Q:Value->Shared->Prop}(Fn:ExcBaseFacts Bn newId inN bmN)(hBn:bmB.contains (.type Bn)=true)(F:ExcBaseFacts B nid initId bmB)(T:OwnTail h bmB bm)
 (hC:h.get? C=some (excClassObj nm q C N bs bm hdct sn sub ab col dd k0 k1 k2 k3 k5 newId))(hn:h.Ns N mN)(hi:mN "__init__" = some (.ref fI))(hfI:h.get? fI=some oI)(hfc:oI.cls=.type "function")
 (hq:∀ (h':Heap) (e:Addr),h.MadeExcOf h' e (.ref C) rest->wpAny (model prog w) (A.under (.builtin "type.__call__" { pos:=.ref C::rest })) (call (.ref fI) (.ref e::rest)) (fun r s'=>r=.none/\Q (.ref e) s') E { heap:=h',gens:=g,drawn:=d,toks:=t,os:=os })
 (hrest:rest.length<=sizeLine):wpAny (model prog w) A (call (.ref C) rest) Q E { heap:=h,gens:=g,drawn:=d,toks:=t,os:=os }:=by
 have hT:Shared.TypeIs { heap:=h,gens:=g,drawn:=d,toks:=t,os:=os } (.ref C) "type" := ⟨_,hC,rfl⟩;refine aaD (codeAny_of_tree ?_);refine xo (wpAny_load' hC ?_);refine xo (wpAny_specialOf hT tc_lookup ?_);refine xo (wpAny_of_eq (tc_bind (.ref C)) ?_);refine xo (xC ?_);refine aaZ rfl ?_;refine xC ⟨rfl,codeAny_call_builtin_at (Code.quiet_builtin _ (by decide +kernel)) entry_typeCall (wpAny_check_type_call_sub hC ?_)⟩;exact ja Fn hBn F T hC hn hi hfI hfc (fun h' e hm=>hq h' e hm) hrest
end
theorem oP {M:Model}{A:Around}{E:Value->Shared->Prop}{s:Shared}{a:Value}{b c:Value}{Q:Unit->Shared->Prop}(lk:Looks M s.heap (isInstance a (.type "object")) true)(q:Q () s):wpAny M A (checkBuiltinCall "object.__setattr__" { pos:=[a,b,c] }) Q E s :=
 PySem.W.check_slot (i := "object.__setattr__") (owner := "object") (n := "__setattr__") (self:=a) (rest:=[b,c]) (kw:=[]) z6.kind z6.split lk (z6.args a b c) q
theorem pz {c:Value}{d:Option Addr}{vs:Array Value}{sl:Array (Option Value)}:Obj.isFreed ⟨c,d,.fields vs,sl⟩=false:=rfl
theorem oG {h:Heap}{e:Addr}{oe:Obj}(he:h.get? e=some oe)(hf:∃ vs,oe.data=.fields vs):∃ h2,h2=(h.push { cls:=Value.type "dict",data:=Data.dict #[] }).update e (fun o=>{ cls:=o.cls,dict:=some h.objs.size,data:=o.data,slots:=o.slots })/\(∀ b o,b≠e->h.get? b=some o->h2.get? b=some o)/\h2.get? e=some { cls:=oe.cls,dict:=some h.objs.size,data:=oe.data,slots:=oe.slots }/\h2.Ns1 h.objs.size (fun _=>none):=by
 have lt:=xF he;have he1:(h.push { cls:=Value.type "dict",data:=Data.dict #[] }).get? e=some oe:=xw _ he;have hd1:(h.push { cls:=Value.type "dict",data:=Data.dict #[] }).get? h.objs.size=some { cls:=Value.type "dict",data:=Data.dict #[] }:=ym h rfl;obtain⟨vs,hf⟩:=hf;refine⟨_,rfl,fun b o ne g=>zQ _ (xZ ne) (xw _ g),yQ _ he1 ?_,Heap.Ns1.of_empty ⟨_,#[],_,zQ _ (xY lt) hd1,rfl,(fun e he=>absurd he (by simp)),fun _=>rfl⟩⟩;obtain⟨c,d,da,sl⟩:=oe;cases hf;exact pz
section
variable {prog:Program}{w:World}{A:Around}{E:Value->Shared->Prop}{s:Shared}{K:PySem.W.Frag}{e C:Addr}{oe:Obj}{nm q:Str}{N:Addr}{bs bm:List Value}{sn:List Str}{sub:List Value}{ab:Bool}{col:Option Bool}{dd:Option Addr}{k0 k1 k2 k3 k5:Option Value}{newId:String}{name:Str}{v:Value}
theorem ly {Q:Unit->Shared->Prop}(X:K.In s.heap)(hC:s.heap.get? C=some (excClassObj nm q C N bs bm true sn sub ab col dd k0 k1 k2 k3 k5 newId))(he:s.heap.get? e=some oe)(hc:oe.cls=.ref C)(hd:oe.dict=none)(hf:∃ vs,oe.data=.fields vs)
 (hs:findIn K (.ref C) "__setattr__" = some (some (.builtin "object.__setattr__")))(hn:findIn K (.ref C) name=some none)(ho:bm.contains (.type "object")=true)
 (hov:∀ (A:Around) (E:Value->Shared->Prop) (s':Shared) (Q:Unit->Shared->Prop),s'.heap=s.heap->Q () s'->wpAny (model prog w) A (Builtin.ObjectAttr.refuseIfOverridden (.ref e) "__setattr__") Q E s')
 (hq:∀ h' dx,s.heap.objs.size<=dx->(∀ b o,b≠e->s.heap.get? b=some o->h'.get? b=some o)->h'.get? e=some { cls:=oe.cls,dict:=some dx,data:=oe.data,slots:=oe.slots }->h'.Ns1 dx (fun y=>if y=name then some v else none)->Q () { s with heap:=h',toks:=s.toks+2 }) :
 wpAny (model prog w) A (setAttr (.ref e) name v) Q E s:=by
 have SF:=z6;have I:InstAt s.heap e oe C none:=⟨he,hc,by obtain⟨vs,hf⟩:=hf;unfold PySem.W.notCls;rw [hf],by rw [hd];trivial⟩;refine PySem.W.set_plain X I hs ?_;refine codeAny_call_builtin SF.slot.plain SF.entry ?_;have lk:Looks (model prog w) s.heap (isInstance (.ref e) (.type "object")) true:=by
  intro A Q E s' k q;unfold isInstance;refine xo (yX (k _ _ he) ?_);rw [hc];refine iG (k _ _ hC) ?_;rw [aaU,ho,acp];exact q
 refine oP (s:={ s with toks:=s.toks+1 }) lk ?_;unfold Builtin.«object.__setattr__»;refine yD rfl ?_;dsimp only;refine xo (hov _ _ _ _ rfl ?_);unfold Builtin.ObjectAttr.attrName;refine xo (xC (xo (yX he ?_)));rw [hc];refine xo (PySem.W.Looks.here (PySem.W.looks_findIn (M:=model prog w) X hn) ?_);refine xo (xC ?_);unfold Builtin.ObjectAttr.storeInOwnDict ownStreamTells;refine xo (xC ?_);refine yD rfl ?_;unfold Builtin.ObjectAttr.ownDictForStores instanceDict;refine xo (xo (aaX he ?_));rw [hc];dsimp only;unfold classData;refine xo (xo (wpAny_load hC (xC ?_)));refine yD rfl ?_;rw [hd];dsimp only;refine yD rfl ?_;obtain⟨h2,e2,kp,g2,n2⟩:=oG he hf;obtain⟨vs,hf⟩:=hf;rw [hf];dsimp only;refine xo (wpAny_alloc ?_);have he1:(s.heap.push { cls:=Value.type "dict",data:=Data.dict #[] }).get? e=some oe:=xw _ he;refine xo (wpAny_update he1 ?_);dsimp only;rw [← e2];clear e2 he1;unfold dictMade;refine xC ?_;dsimp only;unfold Builtin.ObjectAttr.storeInDict Builtin.ObjectAttr.newKeyGuard;refine xo (xC (xo ?_));refine wpAny_nsSet1 (s:={ s with heap:=h2,toks:=s.toks+1 }) n2 fun h' hn2 hs2=>?_;obtain⟨oD,esD,epD,hoD,hdD,hcD⟩:=hn2.count (PySem.Within.cons name v (ns:=[]) (fun y hy=>absurd rfl hy));refine xo (wpAny_lookBehind hoD (by rw [hdD];exact pastItsLine_dict (xE hcD (by show 1<=sizeLine+1;decide))) ?_);refine xC (hq h' s.heap.objs.size (xx _) (fun b o ne g=>?_) ?_ hn2)
 ·rw [hs2.2 b (xY (xF g))];exact kp b o ne g
 ·rw [hs2.2 e (xY (xF he))];exact g2
end
theorem sZ:entryFor table "BaseException.__getattribute__" = some Builtin.«object.__getattribute__»:=entryFor_alias (id' := "object.__getattribute__") (by kernel_rfl) (by decide +kernel) (by decide +kernel) (by kernel_rfl)
theorem vd:typeOf (.builtin "BaseException.__getattribute__")=pure (.type "wrapper_descriptor"):=by first | rfl | kernel_rfl
theorem pW:plainId "BaseException.__getattribute__" = true:=by decide +kernel
structure lP (K:PySem.W.Frag)(C:Addr)(bm:List Value):Prop where
 ga:W.findIn K (.ref C) "__getattribute__" = some (some (.builtin "BaseException.__getattribute__"))
 gt:W.findIn K (.ref C) "__getattr__" = some none
 cl:W.findIn K (.ref C) "__class__" = some (some (.builtin "object.__class__"))
 sp:W.specialIn K (.builtin "object.__class__") "__get__" = some (some (.builtin "getset_descriptor.__get__"))
 tk:W.takesIn K (.builtin "object.__class__")=some true
 ob:bm.contains (.type "object")=true
 facts:∃ (nm q:Str) (N:Addr) (bs bmB:List Value) (hdct:Bool) (sn:List Str) (sub:List Value) (ab:Bool) (col:Option Bool) (dd:Option Addr) (k0 k1 k2 k3 k5:Option Value) (B newId:String),ExcAttrBase B bmB/\∀ h:Heap,K.In h->h.get? C=some (excClassObj nm q C N bs bm hdct sn sub ab col dd k0 k1 k2 k3 k5 newId)/\OwnTailQ h bmB bm
section
variable {X:Cx}
def uL (sp:Sp)(dvs:List V)(E:St->XK)(t:TA):TE:=fun σ H Q=>t σ H fun vs H1=>sp (vs++dvs) H1 Q (E σ)
theorem qV {x:Str}{p pos:Pos}{e:Expr}{es:List Expr}{t:TA}{CX:CXT}{k:Nat}{f:Addr}{fd:FuncData}{ps:List Str}{sp:Sp}{ds:List Value}{dvs:List V}{E:St->XK}(F:bf X.prog X.w X.K X.mg X.base CX k f fd ps sp)(hr:Room k X.A)(hg:Gl X x)(hm:X.mg x=some (.ref f))(hk:keepIn X.K (.ref f)=true)(hb:Binds X.K fd ps ds)(hd:Vals dvs ds)
 (hx:∀ pins σ H s ev s',Inv X pins σ H s->CX X.stack H s (E σ) ev s'->X.xe ev s')(ha:PA X (e::es) t)(hdb:(x == ("__debug__" : Str))=false:=by decide)(he:starEach (e::es) X.env=(false,eval e X.env)::starEach es X.env:=by rfl)(hpl:(backTo pos (starEach es X.env)).any (·.1)=false:=by rfl) :
 PE X (.Call (.Name x p) (e::es) [] pos) (uL sp dvs E t):=by
 intro pins s σ H Q I h;refine zR (gD I hg hm ?_ hdb);refine aaR (h₀:=X.base) I.ok.mod.kin hk (thn (ha pos pins s σ H _ I h) fun us s1 ⟨vs,H1,I1,r,q⟩=>⟨I1.kIn,?_⟩) he hpl;have r2:Vals (vs++dvs) (us++ds):=r.append hd;have hl:(us++ds).length=ps.length:=by rw [← r2.length];exact F.len _ _ _ _ q
 refine aaD (aaQ (F.run X.A X.stack s1 H1 ⟨us,[]⟩ (us++ds) (vs++dvs) Q (E σ) hr I1.env0 (hb s1 us I1.kIn hl) r2 q) fun r s' hq=>?_);cases r with
 | error e=>exact hx pins σ H1 s1 e s' I1 hq
 | ok fl =>
  cases fl with
  | ret u=>exact I1.after hq
  | next=>exact False.elim hq
  | brk=>exact False.elim hq
  | cont=>exact False.elim hq
end
section
variable {P:Program}{w:World}{K:PySem.W.Frag}{mg:Str->Option Value}{base:Heap}
end
section
variable {X:Cx}
end
abbrev gY (t:Addr):Array Value:=#[.ref t,.none,.none,.none,.bool false,.none]
def rQ (e C:Addr)(dct:Bool):HO:=.ext fun h=>∃ t dx sl,h.get? e=some ⟨.ref C,dx,.fields (gY t),sl⟩/\(dct=false->dx=none)
theorem oN {P:Program}{w:World}{H:Hp}{h:Heap}{e C t:Addr}{dct:Bool}{dx:Option Addr}{sl:Array (Option Value)}(g:h.get? e=some ⟨.ref C,dx,.fields (gY t),sl⟩)(n:dct=false->dx=none):ObjOk P w H h e (rQ e C dct) :=
 ⟨⟨t,dx,sl,g,n⟩,⟨_,g⟩,fun h1 h2 ⟨t,dx,sl,g,n⟩ k=>⟨t,dx,sl,k _ g,n⟩⟩
structure pS (K:PySem.W.Frag)(B:Addr):Prop where
 ga:specialIn K (.ref B) "__getattribute__" = some (some (.builtin "type.__getattribute__"))
 rd:readsIn K B (.type "type")=true
 fc:findCls K (.ref B) (.type "type") "__init__" = some (.val (.builtin "ValueError.__init__"))
structure eE (K:PySem.W.Frag)(C f:Addr)(bm:List Value):Prop where
 kp:keepIn K (.ref C)=true
 sa:findIn K (.ref C) "__setattr__" = some (some (.builtin "object.__setattr__"))
 ob:bm.contains (.type "object")=true
 be:bm.contains (.type "BaseException")=true
 ov:∀ (prog:Program) (w:World) (A:Around) (E:Value->Shared->Prop) (s:Shared) (Q:Unit->Shared->Prop) (e:Addr) (oe:Obj),K.In s.heap->s.heap.get? e=some oe->oe.cls=.ref C->Q () s->wpAny (model prog w) A (Builtin.ObjectAttr.refuseIfOverridden (.ref e) "__setattr__") Q E s
 facts:∃ (nm q:Str) (N:Addr) (bs bmB:List Value) (sn:List Str) (sub:List Value) (ab:Bool) (col:Option Bool) (dd:Option Addr) (k0 k1 k2 k3 k5:Option Value) (B Bn newId nid inN:String) (bmN:List Value) (mN:Str->Option Value) (oI:Obj),
  ExcBaseFacts Bn newId inN bmN/\bmB.contains (.type Bn)=true/\ExcBaseFacts B nid "ValueError.__init__" bmB/\mN "__init__" = some (.ref f)/\oI.cls=.type "function" ∧
  ∀ h:Heap,K.In h->h.get? C=some (excClassObj nm q C N bs bm true sn sub ab col dd k0 k1 k2 k3 k5 newId)/\h.Ns N mN/\OwnTail h bmB bm/\h.get? f=some oI
section
variable {X:Cx}{C f:Addr}{bm:List Value}
theorem kU (o:eE X.K C f bm):eW X (.builtin "ValueError.__init__") (fun xs H Q=>∃ (e:Addr) (x:V),xs=[.ref e,x]/\H e=some (rQ e C false)/\Q .non H):=by
 intro pins s σ H xs us Q I r h;obtain⟨e,x,rfl,he,q⟩:=h;obtain⟨u,v,rfl,ru,rv⟩:=rW r;cases ru;obtain⟨nm,qn,N,bs,bmB,sn,sub,ab,col,dd,k0,k1,k2,k3,k5,B,Bn,newId,nid,inN,bmN,mN,oI,f1,f2,F,f4,f5,g⟩:=o.facts;obtain⟨c1,c2,c3,c4⟩:=g s.heap I.kIn;obtain⟨⟨t,dx,sl,ge,nd⟩,_⟩:=I.hok e _ he;have:=nd rfl;subst this;obtain⟨hp,gs,dr,tk,os⟩:=s;refine aaD (codeAny_call_builtin F.init.plain F.initEntry (wpAny_check_init_subU F c3 c1 ge rfl ?_));unfold Builtin.«BaseException.__init__»;dsimp only;refine yD rfl ?_;have ge':hp.get? e=some ⟨.ref C,none,.fields (gY t),sl⟩:=ge;have lt:=xF ge';refine xo (wpAny_newTuple ?_ (by show 1<=sizeLine;decide));have ge1:(hp.push { cls:=.type "tuple",data:=.seq ([v]:List Value).toArray }).get? e=some ⟨.ref C,none,.fields (gY t),sl⟩:=xw _ ge';have kp1:∀ b o,hp.get? b=some o->(hp.push { cls:=.type "tuple",data:=.seq ([v]:List Value).toArray }).get? b=some o:=fun b o g=>xw _ g;dsimp only;generalize hp.push { cls:=.type "tuple",data:=.seq ([v]:List Value).toArray }=h1 at *;unfold Builtin.BaseException.bexcPut;refine xo (xo (aaL ge1 rfl (x:=.ref t) rfl ?_));refine xo (aa0 ge1 rfl (by show 0 < 6;decide) ?_);refine wpAny_letGo ?_;refine xC ?_;show EP X pins σ Q .none _;have eH:upd H e (rQ e C false)=H:=by
  funext b;by_cases hb:b=e
  ·rw [hb,ag,he]
  ·rw [ai hb]
 have J:Inv X pins σ (upd H e (rQ e C false)) { heap:=h1.update e (Obj.mapFields fun x=>x.setIfInBounds 0 (.ref hp.objs.size)),gens:=gs,drawn:=dr,toks:=tk,os:=os }:=I.write (t':=tk) (by rw [he];exact True.intro) (.inl rfl) (fun b o nb g=>zQ _ (xZ nb) (kp1 b o g)) ⟨_,yQ _ ge1 rfl⟩ (oN (t:=hp.objs.size) (dx:=none) (sl:=sl) (yQ _ ge1 rfl) fun _=>rfl);rw [eH] at J;exact⟨.non,H,J,rfl,q⟩
theorem ou {B:Addr}{x:Str}{np apos pos:Pos}{e:Expr}{es:List Expr}{t:TA}{pl:Sem Bool}(tp:pS X.K B)(o:eE X.K C f bm)(hg:Gl X x)(hm:X.mg x=some (.ref B))(ha:PA X (e::es) t)(hdb:(x == ("__debug__" : Str))=false:=by decide)
 (he:starEach (e::es) X.env=(false,eval e X.env)::starEach es X.env:=by rfl)(hpl:(backTo pos (starEach es X.env)).any (·.1)=false:=by rfl)
 (ht:eval (.Call (.Attribute (.Name x np) "__init__" apos) (e::es) [] pos) X.env=(do
  let ov ← eval (.Name x np) X.env
  standAt apos.atName
  let (f,first) ← holding [ov] (getMethod ov "__init__" pl)
  callWith pos f first (backTo pos (starEach (e::es) X.env)) (backToKw pos (keywordEach [] X.env))):=by rfl) :
 PE X (.Call (.Attribute (.Name x np) "__init__" apos) (e::es) [] pos) (tCB (fun xs H Q=>∃ (e:Addr) (x:V),xs=[.ref e,x]/\H e=some (rQ e C false)/\Q .non H) t):=by
 intro pins s σ H Q I h;refine PySem.W.methodCall_KW (pl:=pl) (gD I hg hm ?_ hdb) ht;refine PySem.W.method_cls I.kIn tp.ga (PySem.W.cls_value I.kIn tp.rd tp.fc rfl ?_);have I1:=I.tok (s.toks+1);exact aao (thn (ha pos pins _ σ H _ I1 h) fun us s1 ⟨vs,H1,I1,r1,q1⟩=>kU o pins s1 σ H1 vs us Q I1 r1 q1) he hpl
end
theorem nS {M:Model}{A:Around}{E:Value->Shared->Prop}{env:Env}{nm q:Str}{C N:Addr}{bs bm:List Value}{hdct:Bool}{sn:List Str}{sub:List Value}{ab:Bool}{col:Option Bool}{dd:Option Addr}{k0 k1 k2 k3 k5:Option Value}{newId:String}{s:Shared}{x:Sem Value}{Q:Flow->Shared->Prop}(hbase:bm.contains (.type "BaseException")=true)(hh:A.handled=none)
 (h:wpAny M A x (fun v s₁=>∃ e t dx sl,v=.ref e/\s₁.heap.get? C=some (excClassObj nm q C N bs bm hdct sn sub ab col dd k0 k1 k2 k3 k5 newId)/\s₁.heap.get? e=some ⟨.ref C,dx,.fields (gY t),sl⟩/\E (.ref e) s₁) E s):wpAny M A (raiseStmt env (some x) none) Q E s:=by
 have hcB:(Value.ref C::bm).contains (.type "BaseException")=true:=by rw [aaU,hbase,acp]
 unfold raiseStmt;refine xo (za h (fun v s₁ h₁=>?_) fun _ _ z=>z);obtain⟨e,t,dx,sl,rfl,hC,he,hE⟩:=h₁;obtain⟨hp,g,d,tk,os⟩:=s₁;have he':hp.get? e=some ⟨.ref C,dx,.fields (gY t),sl⟩:=he;have hC':hp.get? C=some (excClassObj nm q C N bs bm hdct sn sub ab col dd k0 k1 k2 k3 k5 newId):=hC;refine xo (xC ?_);refine xo (yZ ?_);unfold excFromValue isExcClass isType loadHead;refine xo (xo (xo (aal he' (xC ?_))));refine yD rfl (xC ?_);refine yD rfl ?_;unfold isInstance;refine xo (xo (yX he' ?_));refine wpAny_isSubtype_exc hC' ?_;rw [hcB];refine aaZ rfl (xC ?_);refine xo (xo (aal he' (xC ?_)));refine yD rfl ?_;unfold raisedInstance;refine xo (xo (yX he' ?_));refine xo (yX hC' ?_);refine aaZ rfl (xC ?_);unfold setFlight;refine xo (xo (aaL he' rfl (x:=.none) rfl ?_));refine yD rfl (xC ?_);exact wpAny_raiseNew_none hh hE
def rem (H:Hp)(e:Addr):Hp:=fun b=>if b=e then none else H b
theorem h8 {H:Hp}{e:Addr}:rem H e e=none:=by unfold rem;rw [if_pos rfl]
theorem kH {H:Hp}{e b:Addr}(h:b≠e):rem H e b=H b:=by unfold rem;rw [if_neg h]
section
variable {X:Cx}{pins:List (Addr×Obj)}{σ:St}{H:Hp}{s:Shared}
theorem Inv.trackN {e:Addr}{o:HO}(I:Inv X pins σ H s)(ne:H e=none)(new:ObjOk X.prog X.w (upd H e o) s.heap e o)(old:∀ b o,X.s₀.heap.get? b=some o->b ∉ X.ex->b≠e)(pn:∀ p∈X.pn++pins,p.1≠e)(nl:e≠X.env.locals)(nc:∀ x c,X.env.cells.lookup x=some c->c≠e):Inv X pins σ (upd H e o) s:=by
 have up:∀ b u,H b=some u->(upd H e o) b=some u:=fun b u g=>by rw [ai (af g ne)];exact g
 refine⟨I.ok,I.os,I.bare,⟨I.base.keep,I.base.slot,fun b o g n hx=>?_,I.base.there,fun b xs g=>up _ _ (I.base.tups b xs g),fun b o u g=>up _ _ (I.base.frzs b o u g),fun b ps g=>?_⟩,I.loc,I.cell,?_,fun x c g=>?_,fun p hp=>?_,fun b u g=>?_,I.len⟩
 ·rw [ai (old b o g hx)];exact I.base.free b o g n hx
 ·obtain⟨more,q⟩:=I.base.tbls b ps g;exact⟨more,up _ _ q⟩
 ·rw [ai (xZ nl)];exact I.free
 ·rw [ai (nc x c g)];exact I.freeC x c g
 ·obtain⟨p1,p2,p3,p4,p5⟩:=I.pin p hp;exact⟨p1,by rw [ai (pn p hp)];exact p2,p3,p4,p5⟩
 ·by_cases hb:b=e
  ·subst hb;rw [ag] at g;cases g;exact new
  ·rw [ai hb] at g;exact (I.hok b u g).stay (fun _ _ _ q=>q) (fun c q=>up _ _ q) fun c xs q=>up _ _ q
end
section
variable {P:Program}{w:World}{K:PySem.W.Frag}{mg:Str->Option Value}{base:Heap}{N:List Str}{qual:Str}{scope:Scope}{f:Addr}{cd:Value}{A:Around}{outer:List Env}{s:Shared}{H:Hp}{E1:XK}
end
section
variable {X:Cx}{d:Addr}{kvs:List (Key×V)}
end
section
variable {X:Cx}
end
def uH (K:PySem.W.Frag)(C:Addr)(bm:List Value):Prop:=∃ (nm q:Str) (N:Addr) (bs:List Value) (hdct:Bool) (sn:List Str) (sub:List Value) (ab:Bool) (col:Option Bool) (dd:Option Addr) (k0 k1 k2 k3 k5:Option Value) (newId:String),∀ h:Heap,K.In h->h.get? C=some (excClassObj nm q C N bs bm hdct sn sub ab col dd k0 k1 k2 k3 k5 newId)
def mK (K:PySem.W.Frag)(C:Addr)(cls:Value):Prop:=∃ C1 bm1,cls=.ref C1/\uH K C1 bm1/\(Value.ref C1::bm1).contains (.ref C)=true
def uh (h h':Heap)(fr:List Addr)(e T:Addr)(oe:Obj)(vs:Array Value)(fl:Value):Prop :=
 h.get? T=none/\T≠e/\(∃ oT ts,h'.get? T=some oT/\oT.data=.fields ts/\ts[3]? = some fl)/\h'.get? e=some { oe with data:=.fields (vs.setIfInBounds 1 (.ref T)) } ∧
  (∀ b o,b≠e->b ∉ fr->h.get? b=some o->h'.get? b=some o)/\∀ b o,b≠e->h.get? b=some o->∃ sl,h'.get? b=some { o with slots:=sl }
section
variable {M:Model}{A:Around}{E:Value->Shared->Prop}{s:Shared}{base:Heap}{env:Env}{outer:List Env}{L e:Addr}{oe:Obj}{vs:Array Value}
theorem p7 {head:Value}{hadNext:Bool}{Q:Unit->Shared->Prop}(hfr:A.frames=some (env::outer))(hl:s.heap.FunFrames base (env::outer))(hf:env.frame=some L)(he:s.heap.get? e=some oe)(hd:oe.data=.fields vs)(hsz:1 < vs.size)
 (h:∀ h' T,uh s.heap h' (frs (env::outer)) e T oe vs (rawInt L)->Q () { s with heap:=h' }) :
 wpAny M A (do let a ← frameOf env;let pl ← entryPlaceOf L hadNext;let b ← EntryCells.newEntry head a .none (rawInt L) .none pl;setField (.ref e) 1 b) Q E s:=by
 have ne:e ∉ frs (env::outer):=fun z=>by
  obtain⟨_,o,g,d⟩:=hl.mem z;rw [he] at g;cases g;exact d vs hd
 refine xo (wpAny_frameOf_fun hfr hl hf fun h1 k1=>xo (wpAny_entryPlaceOf fun pl hpl=>?_));unfold EntryCells.newEntry newFields;refine xo (aa5 ?_ (hpl.sizeOk5 _ _ _ _ _));have e1:h1.get? e=some oe:=(k1.2.1 e ne).trans he;dsimp only;have new:∀ {b o},h1.get? b=some o->b≠h1.objs.size:=fun g z=>yU _ (z▸xF g);have nT:h1.get? h1.objs.size=none:=zC (xx _);have Tf:h1.objs.size ∉ frs (env::outer):=fun z=>by
  obtain⟨_,o,g,d⟩:=hl.mem z;obtain⟨sl,g'⟩:=k1.2.2 _ o g;rw [nT] at g';cases g'
 have e2:=xw { cls:=.type "traceback",data:=.fields ([head,.ref L,.none,rawInt L,.none]++if pl.isEmpty=true then List.replicate 6 Value.none else pl).toArray } e1;have T2:(h1.push { cls:=.type "traceback",data:=.fields ([head,.ref L,.none,rawInt L,.none]++if pl.isEmpty=true then List.replicate 6 Value.none else pl).toArray }).get? h1.objs.size=some { cls:=.type "traceback",data:=.fields ([head,.ref L,.none,rawInt L,.none]++if pl.isEmpty=true then List.replicate 6 Value.none else pl).toArray }:=ym h1 rfl;have k2:∀ b o,h1.get? b=some o->(h1.push { cls:=.type "traceback",data:=.fields ([head,.ref L,.none,rawInt L,.none]++if pl.isEmpty=true then List.replicate 6 Value.none else pl).toArray }).get? b=some o:=fun b o g=>xw _ g;have t3:(([head,.ref L,.none,rawInt L,.none]++if pl.isEmpty=true then List.replicate 6 Value.none else pl).toArray)[3]? = some (rawInt L):=by simp
 generalize h1.push { cls:=.type "traceback",data:=.fields ([head,.ref L,.none,rawInt L,.none]++if pl.isEmpty=true then List.replicate 6 Value.none else pl).toArray }=h2 at *;refine aa0 e2 hd hsz (h _ h1.objs.size ⟨?_,(new e1).symm,⟨_,_,(yA _ _ (new e1)).trans T2,rfl,t3⟩,?_,fun b o nb nf g=>?_,fun b o nb g=>?_⟩)
 ·exact (k1.2.1 _ Tf).symm.trans nT
 ·have:=yQ (Obj.mapFields (·.setIfInBounds 1 (Value.ref h1.objs.size))) e2 (aap (aag hd _));rw [this];obtain⟨c,d,da,sl⟩:=oe;cases hd
  rfl
 ·rw [yA _ _ nb.symm];exact k2 b o ((k1.2.1 b nf).trans g)
 ·obtain⟨sl,g'⟩:=k1.2.2 b o g;refine⟨sl,?_⟩;rw [yA _ _ nb.symm];exact k2 b _ g'
def iM (h h':Heap)(fr:List Addr)(e T T':Addr)(oe:Obj)(vs:Array Value)(fl:Value):Prop :=
 h.get? T'=none/\T'≠e/\(∃ oT ts,h'.get? T'=some oT/\oT.data=.fields ts/\ts[3]? = some fl)/\h'.get? e=some { oe with data:=.fields (vs.setIfInBounds 1 (.ref T')) } ∧
  (∀ b o,b≠e->b≠T->b ∉ fr->h.get? b=some o->h'.get? b=some o)/\∀ b o,b≠e->b≠T->h.get? b=some o->∃ sl,h'.get? b=some { o with slots:=sl }
theorem oB {Q:Unit->Shared->Prop}(hfr:A.frames=some (env::outer))(hl:s.heap.FunFrames base (env::outer))(hf:env.frame=some L)(he:s.heap.get? e=some oe)(hd:oe.data=.fields vs)(h1:vs[1]? = some .none)
 (h:∀ h' T',iM s.heap h' (frs (env::outer)) e e T' oe vs (rawInt L)->Q () { s with heap:=h' }):wpAny M A (noteFrame (.ref e) env) Q E s:=by
 unfold noteFrame;simp only [hf];refine xo (aaL he hd h1 ?_);rw [if_neg (by decide)];refine p7 hfr hl hf he hd (yj.mp h1).1 fun h' T' ⟨a,b,c,d,k1,k2⟩=>h h' T' ⟨a,b,c,d,fun x o n _=>k1 x o n,fun x o n _=>k2 x o n⟩
theorem kD {Q:Unit->Shared->Prop}{T:Addr}{oT:Obj}{ts:Array Value}(hfr:A.frames=some (env::outer))(hl:s.heap.FunFrames base (env::outer))(hf:env.frame=some L)(he:s.heap.get? e=some oe)(hd:oe.data=.fields vs)(h1:vs[1]? = some (.ref T))(hTe:T≠e)(hT:s.heap.get? T=some oT)(hdT:oT.data=.fields ts)(h3:ts[3]? = some .none)
 (h:∀ h' T',iM s.heap h' (frs (env::outer)) e T T' oe vs (rawInt L)->Q () { s with heap:=h' }):wpAny M A (noteFrame (.ref e) env) Q E s:=by
 unfold noteFrame;simp only [hf];refine xo (aaL he hd h1 ?_);rw [if_pos (show (Value.ref T != Value.none)=true by simp)];refine xo (aaL hT hdT h3 ?_);rw [if_neg (show ¬ ((Value.none == rawInt L)=true) by simp [rawInt])];refine xo (aa0 hT hdT (yj.mp h3).1 ?_);have oth:∀ b,b≠T->(s.heap.update T (Obj.mapFields (·.setIfInBounds 3 Value.none))).get? b=s.heap.get? b:=fun b n=>yA _ _ n.symm;have self:=yQ (Obj.mapFields (·.setIfInBounds 3 Value.none)) hT (aap (aag hdT _));have nf:∀ b o,s.heap.get? b=some o->(∀ vs,o.data≠.fields vs)->b≠T:=fun b o g d z=>by
  rw [z,hT] at g;cases g;exact d ts hdT
 refine p7 (base:=base) (s:={ s with heap:=s.heap.update T (Obj.mapFields (·.setIfInBounds 3 Value.none)) }) hfr (hl.of_keeps fun b o g d=>⟨o,(oth b (nf b o g d)).trans g,rfl⟩) hf ((oth e hTe.symm).trans he) hd (yj.mp h1).1 fun h' T' ⟨a,b,c,d,k1,k2⟩=>h h' T' ⟨?_,b,c,d,fun x o n n2 nf g=>k1 x o n nf ((oth x n2).trans g),fun x o n n2 g=>k2 x o n ((oth x n2).trans g)⟩;have:T'≠T:=fun z=>by rw [z,self] at a;cases a
 exact (oth T' this).symm.trans a
theorem jj {Q:Unit->Shared->Prop}{h0:Heap}{fr:List Addr}{T T':Addr}{fl:Value}(hsz:1 < vs.size)(tf:T' ∉ fr)(n:iM h0 s.heap fr e T T' oe vs fl)(h:∀ h',iM h0 h' fr e T T' oe vs .none->Q () { s with heap:=h' }):wpAny M A (setFlight (.ref e) none) Q E s:=by
 obtain⟨a,b,⟨oT,ts,c1,c2,c3⟩,d,k1,k2⟩:=n;have sz:=(yj.mp c3).1;unfold setFlight;refine xo (aaL d rfl (x:=.ref T') (by simp [hsz]) ?_);rw [if_pos (show (Value.ref T' != Value.none)=true by simp)];refine aa0 c1 c2 sz (h _ ⟨a,b,⟨_,_,yQ _ c1 (aap (aag c2 _)),aag c2 _,by simp [sz]⟩,(yA _ _ b).trans d,fun x o n1 n2 nf g=>?_,fun x o n1 n2 g=>?_⟩)
 ·have:x≠T':=fun z=>by rw [z,a] at g;cases g
  rw [yA _ _ this.symm];exact k1 x o n1 n2 nf g
 ·have:x≠T':=fun z=>by rw [z,a] at g;cases g
  obtain⟨sl,g'⟩:=k2 x o n1 n2 g;exact⟨sl,by rw [yA _ _ this.symm];exact g'⟩
theorem kj {h h':Heap}{T T':Addr}{a0 fl:Value}{outer:List Env}(hl:h.FunFrames (cb h (e::T::frs (env::outer))) (env::outer))(he:∃ o,h.get? e=some o/\∃ ws,o.data=.fields ws)(hT:∀ o,h.get? T=some o->∃ ws,o.data=.fields ws)(hsz:1 < vs.size)(h0:vs[0]? = some a0)(n:iM h h' (frs (env::outer)) e T T' oe vs fl):Heap.NotedW (cb h (e::T::frs (env::outer))) (env::outer) e oe.cls a0 fl h h':=by
 obtain⟨a,b,⟨oT,ts,c1,c2,c3⟩,d,k1,k2⟩:=n;obtain⟨o0,g0,ws0,d0⟩:=he;have nf:∀ b o,h.get? b=some o->(∀ vs,o.data≠.fields vs)->b≠e/\b≠T:=fun b o g dd=>⟨(fun z=>by rw [z,g0] at g;cases g;exact dd _ d0),(fun z=>by obtain⟨ws,hw⟩:=hT o (z▸g);exact dd ws hw)⟩;have inb:∀ b o,(cb h (e::T::frs (env::outer))).get? b=some o->h.get? b=some o/\b ∉ e::T::frs (env::outer):=fun b o g=>⟨aaP _ g,fun z=>by
  have:=zZ (h:=h) _ z;rw [show (cb h (e::T::frs (env::outer))).get? b=_ from this] at g;cases g⟩
 refine⟨fun b o g=>?_,hl.of_keeps fun b o g dd=>?_,⟨_,_,T',oT,ts,d,⟨rfl,by rw [Array.getElem?_setIfInBounds_ne (by decide)];exact h0⟩,rfl,by simp [hsz],?_,b,c1,c2,c3⟩,fun b o g dd=>k2 b o (nf b o g dd).1 (nf b o g dd).2 g⟩
 ·obtain⟨g',n'⟩:=inb b o g;simp only [xA,not_or] at n';exact k1 b o n'.1 n'.2.1 n'.2.2 g'
 ·obtain⟨sl,g'⟩:=k2 b o (nf b o g dd).1 (nf b o g dd).2 g;exact⟨_,g',rfl⟩
 ·cases g:(cb h (e::T::frs (env::outer))).get? T' with
  | none=>rfl
  | some o=>have:=(inb T' o g).1;rw [a] at this;cases this
theorem qY {h h':Heap}{T T':Addr}{a0:Value}{outer:List Env}(hl:h.FunFrames (cb h (e::T::frs (env::outer))) (env::outer))(he:∃ o,h.get? e=some o/\∃ ws,o.data=.fields ws)(hT:∀ o,h.get? T=some o->∃ ws,o.data=.fields ws)(hsz:1 < vs.size)(h0:vs[0]? = some a0)(n:iM h h' (frs (env::outer)) e T T' oe vs .none):Heap.LeftW (cb h (e::T::frs (env::outer))) (env::outer) e oe.cls a0 h h':=kj hl he hT hsz h0 n
end
def CXd (P:Program)(w:World):CXT:=fun outer H s E ev s'=>∃ (e T:Addr) (cls a0:Value) (dx:Option Addr) (H':Hp),ev=.ref e/\s'.os=s.os/\AllBare s'.gens/\Un (frs outer) [] H H' s.heap s'.heap/\HOk P w H' s'.heap ∧
 uU s'.heap e T cls a0/\(∃ oe,s'.heap.get? e=some oe/\oe.dict=dx)/\s.heap.get? e=none/\s.heap.get? T=none/\H' e=none/\H' T=none/\E cls dx H'
section
variable {P:Program}{w:World}{K:PySem.W.Frag}{mg:Str->Option Value}{base:Heap}{N:List Str}{qual:Str}{scope:Scope}{f:Addr}{cd:Value}{A:Around}{outer:List Env}{s:Shared}{H:Hp}{E0:XK}
theorem nj {pins:List (Addr×Obj)}{σ:St}{H2:Hp}{s2:Shared}{h':Heap}{e T T':Addr}{oe:Obj}{vs:Array Value}{a0:Value}(J:Inv (gL (CXd P w) P w K mg base N qual scope f cd A outer s H E0) pins σ H2 s2)
 (ne:H2 e=none)(nT:H2 T=none)(ge:s.heap.get? e=none)(gT:s.heap.get? T=none)(he:s2.heap.get? e=some oe)(hd:oe.data=.fields vs)(hT:∀ o,s2.heap.get? T=some o->∃ ws,o.data=.fields ws)(hsz:1 < vs.size)(h0:vs[0]? = some a0)
 (n:iM s2.heap h' (frs (envOfC qual scope s.heap.objs.size f cd::outer)) e T T' oe vs .none)(q:E0 oe.cls oe.dict H2):CXd P w outer H s E0 (.ref e) { s2 with heap:=h' }:=by
 have J':Inv (gL (CXr P w) P w K mg base N qual scope f cd A outer s H fun c _ H'=>c=oe.cls/\H'=H2) pins σ H2 s2:=⟨⟨J.ok.mod,J.ok.kind,J.ok.glob,J.ok.blt,J.ok.above,J.ok.inj,J.ok.has,J.ok.cab,J.ok.hd,J.ok.frames,J.ok.stk,J.ok.exf,J.ok.bs,J.ok.bsz,J.ok.noex,J.ok.exfs,J.ok.funs,J.ok.frf⟩,J.os,J.bare,J.base,J.loc,J.cell,J.free,J.freeC,J.pin,J.hok,J.len⟩;have st:=J.stack;have L:=qY (a0:=a0) (eB st fun b hb=>xu _ (xu _ hb)) ⟨oe,he,vs,hd⟩ hT hsz h0 n;obtain⟨e',T'',cls',a0',H',e1,os,bare,un,hok,ex,ge',gT',ne',nT',hc,hH⟩:=tF J' ne nT ge gT L ⟨rfl,rfl⟩;cases e1;subst hc hH;exact⟨e,T'',_,a0',oe.dict,H',rfl,os,bare,un,hok,ex,⟨_,n.2.2.2.1,rfl⟩,ge',gT',ne',nT',q⟩
theorem vj {E:XK}(hE:∀ c d H',E c d H'->E0 c d H'):mh (CXd P w) (gL (CXd P w) P w K mg base N qual scope f cd A outer s H E0) E:=by
 intro pins σ H1 s1 ev s2 I h;obtain⟨e,T,cls,a0,dx,H2,rfl,os,bare,un,hok,ex,dt,ge,gT,ne,nT,q⟩:=h;have J:Inv (gL (CXd P w) P w K mg base N qual scope f cd A outer s H E0) pins σ H2 s2:=I.call' os un hok bare (fun b z=>absurd z (by simp));have old:∀ b,s1.heap.get? b=none->s.heap.get? b=none:=fun b z=>by
  cases g:s.heap.get? b with
  | none=>rfl
  | some o =>
   obtain⟨o',g'⟩:=I.base.there b o g (by show b ∉ ([]:List Addr);simp);rw [z] at g';cases g'
 have st:=J.stack;obtain⟨oe,vs,oT,ts,g1,⟨g2,g20⟩,g3,g4,g6,g7,g8,g9⟩:=ex;obtain⟨oe',d1,d2⟩:=dt;rw [g1] at d1;cases d1;subst g2 d2;have sz:=(yj.mp g4).1;have notin:∀ b,s2.heap.get? b=none->b ∉ frs (envOfC qual scope s.heap.objs.size f cd::outer):=fun b z y=>by
  obtain⟨_,o',e',d⟩:=st.mem y;rw [z] at e';cases e'
 show wpAny (model P w) (A.deeper (envOfC qual scope s.heap.objs.size f cd)) (leaving (envOfC qual scope s.heap.objs.size f cd) (.ref e)) _ _ s2;unfold leaving;refine xo (kD (base:=cb s2.heap (e::T::frs (envOfC qual scope s.heap.objs.size f cd::outer))) (L:=s.heap.objs.size) J.ok.frames (eB st fun b hb=>xu _ (xu _ hb)) rfl g1 g3 g4 g6 g7 g8 g9 fun h' T' n=>?_);refine jj (s:={ s2 with heap:=h' }) sz (notin T' n.1) n fun h'' n2=>?_;exact nj (s2:=s2) J ne nT (old _ ge) (old _ gT) g1 g3 (fun o g=>by rw [g7] at g;cases g;exact⟨_,g8⟩) sz g20 n2 (hE _ _ _ q)
theorem Fun.okD {x qual:Str}{st:Stmt}{f:Addr}{fd:FuncData}{N ps:List Str}{k:Nat}{sp:Sp}(F:Fun K x qual st f fd)(S:aL N ps (aq st))(len:∀ vs H Q E,sp vs H Q E->vs.length=ps.length)
 (hbody:∀ (cdv:Value) (A:Around) (outer:List Env) (s:Shared) (H:Hp) (vs:List V) (Q:VK) (E:XK),Room k (A.deeper (envOfC qual (aq st) s.heap.objs.size f cdv))->sp vs H Q E →
  ∃ t,PSs (gL (CXd P w) P w K mg base N qual (aq st) f cdv A outer s H E) (bJ st) t/\t { nx:=fun _ H'=>Q .non H',rt:=Q } (jS N vs) H):bf P w K mg base (CXd P w) (k+1) f fd ps sp:=by
 obtain⟨oc,od,kV,doc,pm,an,cdv,ct,osl,rfl,lk,hcd⟩:=F.ex;exact u0 lk hcd S len fun A outer s H vs Q E hr hsp=>hbody cdv A outer s H vs Q E hr hsp
end
def t7 (e C dx:Addr):HO:=.ext fun h=>∃ t sl,h.get? e=some ⟨.ref C,some dx,.fields (gY t),sl⟩
def atO (nm:Str)(dx:Addr)(v:V):HO:=.ext fun h=>∃ u,RelV v u/\h.Ns1 dx fun y=>if y=nm then some u else none
theorem uf {P:Program}{w:World}{H:Hp}{h:Heap}{e C dx t:Addr}{sl:Array (Option Value)}(g:h.get? e=some ⟨.ref C,some dx,.fields (gY t),sl⟩):ObjOk P w H h e (t7 e C dx) :=
 ⟨⟨t,sl,g⟩,⟨_,g⟩,fun h1 h2 ⟨t,sl,g⟩ k=>⟨t,sl,k _ g⟩⟩
theorem vf {P:Program}{w:World}{H:Hp}{h:Heap}{nm:Str}{dx:Addr}{v:V}{u:Value}(r:RelV v u)(g:h.Ns1 dx fun y=>if y=nm then some u else none):ObjOk P w H h dx (atO nm dx v) :=
 ⟨⟨u,r,g⟩,let ⟨o,_,_,e,_⟩:=g;⟨o,e⟩,fun h1 h2 ⟨u,r,o,es,ep,e,x⟩ k=>⟨u,r,o,es,ep,k _ e,x⟩⟩
section
variable {X:Cx}{C f:Addr}{bm:List Value}
def rS (C:Addr)(nm:Str)(ta tv:TE):TS:=fun D σ H=>tv σ H fun y H1=>ta σ H1 fun x H2=>∃ e,x=.ref e/\H2 e=some (rQ e C false)/\∀ dx,H2 dx=none->dx≠e->D.nx σ (upd (upd H2 e (t7 e C dx)) dx (atO nm dx y))
theorem oz {o value:Expr}{nm:Str}{pos pos':Pos}{ta tv:TE}(ow:eE X.K C f bm)(hn:findIn X.K (.ref C) nm=some none)(hex:X.ex=[])(ha:PE X o ta)(hv:PE X value tv)(hs:swapsWith value (some (.Attribute o nm pos')) pos.line X.env=pure false):PS X (.Assign [.Attribute o nm pos'] value pos) (rS C nm ta tv):=by
 intro pins s σ H D I h;refine plainObj_wpAny_Assign_Attribute (thn (hv pins s σ H _ I h) fun u s1 ⟨y,H1,I1,ry,q⟩=>thn (ha pins s1 σ H1 _ I1 q) fun ov s2 ⟨x,H2,I2,rx,e,ex,he,q2⟩=>?_) hs;subst ex;obtain rfl:ov=Value.ref e:=rx;obtain⟨nmC,qn,N,bs,bmB,sn,sub,ab,col,dd,k0,k1,k2,k3,k5,B,Bn,newId,nid,inN,bmN,mN,oI,f1,f2,F,f4,f5,g⟩:=ow.facts;obtain⟨c1,c2,c3,c4⟩:=g s2.heap I2.kIn;obtain⟨⟨t,dx,sl,ge,nd⟩,_⟩:=I2.hok e _ he;have:=nd rfl;subst this;refine ly I2.kIn c1 ge rfl rfl ⟨_,rfl⟩ ow.sa hn ow.ob (fun A E s' Q hh q=>ow.ov _ _ A E s' Q e _ (by rw [hh];exact I2.kIn) (by rw [hh];exact ge) rfl q) fun h' dx hdx kp ge' ns=>?_;have J:=I2.write (t':=s2.toks+2) (o:=t7 e C dx) (by rw [he];exact True.intro) (.inl rfl) kp ⟨_,ge'⟩ (uf ge');have nn:s2.heap.get? dx=none:=zC hdx;have de:dx≠e:=fun z=>by rw [z,ge] at nn;cases nn
 have un:H2 dx=none:=by
  cases g:H2 dx with
  | none=>rfl
  | some o =>
   obtain⟨ob,g'⟩:=(I2.hok dx o g).obj;rw [nn] at g';cases g'
 refine⟨σ,_,J.trackN (by rw [ai de];exact un) (vf ry ns) (fun b ob gb hx z=>?_) (fun p hpp z=>?_) (fun z=>?_) (fun y c hc z=>?_),q2 dx un de⟩
 ·obtain⟨o',g'⟩:=I2.base.there b ob gb hx;rw [z,nn] at g';cases g'
 ·have:=(I2.pin p hpp).1;rw [z,nn] at this;cases this
 ·obtain⟨m,⟨ol,es,ep,hl',_⟩,_⟩:=I2.loc;rw [← z,nn] at hl';cases hl'
 ·obtain⟨v,ol,hl',_⟩:=I2.cell y c hc;rw [z,nn] at hl';cases hl'
end
theorem Inv.dropA {X:Cx}{pins:List (Addr×Obj)}{σ:St}{H:Hp}{s:Shared}{e C dx:Addr}(I:Inv X pins σ H s)(he:H e=some (t7 e C dx)):Inv X pins σ (rem H e) s:=by
 have ke:∀ b u,H b=some u->b≠e->rem H e b=some u:=fun b u g n=>by rw [kH n];exact g
 have nn:∀ b,H b=none->rem H e b=none:=fun b g=>by
  by_cases hb:b=e
  ·rw [hb];exact h8
  ·rw [kH hb];exact g
 have no:∀ {b u},H b=some u->(∀ y,u≠.ext y)->b≠e:=fun g n z=>by rw [z,he] at g;cases g;exact n _ rfl
 refine⟨I.ok,I.os,I.bare,⟨I.base.keep,I.base.slot,fun b o g n hx=>nn _ (I.base.free b o g n hx),I.base.there,fun b xs g=>ke _ _ (I.base.tups b xs g) (no (I.base.tups b xs g) fun y z=>by cases z),fun b o u g=>ke _ _ (I.base.frzs b o u g) (no (I.base.frzs b o u g) fun y z=>by cases z),fun b ps g=>?_⟩,I.loc,I.cell,nn _ I.free,fun x c g=>nn _ (I.freeC x c g),fun p hp=>?_,fun b u g=>?_,I.len⟩
 ·obtain⟨more,q⟩:=I.base.tbls b ps g;exact⟨more,ke _ _ q (no q fun y z=>by cases z)⟩
 ·obtain⟨p1,p2,p3,p4,p5⟩:=I.pin p hp;exact⟨p1,nn _ p2,p3,p4,p5⟩
 ·have hb:b≠e:=fun z=>by rw [z,h8] at g;cases g
  rw [kH hb] at g;refine (I.hok b u g).stay (fun _ _ _ q=>q) (fun c q=>ke _ _ q (no q fun y z=>by cases z)) fun c xs q=>ke _ _ q (no q fun y z=>by cases z)
def sS (C:Addr)(sp:Sp)(E:XK)(t:TA):TS:=fun _ σ H=>t σ H fun vs H1=>vs.length<=1000/\∀ e,H1 e=none->sp (.ref e::vs) (upd H1 e (rQ e C false)) (fun v H2=>v=.non/\∃ dx,H2 e=some (t7 e C dx)/\E (.ref C) (some dx) (rem H2 e)) E0
section
variable {P:Program}{w:World}{K:PySem.W.Frag}{mg:Str->Option Value}{base:Heap}{N:List Str}{qual:Str}{scope:Scope}{f:Addr}{cd:Value}{A:Around}{outer:List Env}{s:Shared}{H:Hp}{E1:XK}
theorem kQ {x:Str}{C fI:Addr}{bm:List Value}{np cpos pos:Pos}{a:Expr}{t:TA}{k:Nat}{fd:FuncData}{ps:List Str}{sp:Sp}(o:eE K C fI bm)(F:bf P w K mg base CX0 k fI fd ps sp)(hr:Room (k+1) (A.deeper (envOfC qual scope s.heap.objs.size f cd)))(hb:Binds K fd ps [])(hg:Gl (gL (CXd P w) P w K mg base N qual scope f cd A outer s H E1) x)(hm:mg x=some (.ref C))
 (ha:PA (gL (CXd P w) P w K mg base N qual scope f cd A outer s H E1) [a] t)(hs:starEach [a] (envOfC qual scope s.heap.objs.size f cd)=[(false,eval a (envOfC qual scope s.heap.objs.size f cd))]:=by rfl)(hdb:(x == ("__debug__" : Str))=false:=by decide) :
 PS (gL (CXd P w) P w K mg base N qual scope f cd A outer s H E1) (.Raise (some (.Call (.Name x np) [a] [] cpos)) none pos) (sS C sp E1 t):=by
 intro pins s1 σ H1 D I h;obtain⟨nm,q,N',bs,bmB,sn,sub,ab,col,dd,k0,k1,k2,k3,k5,B,Bn,newId,nid,inN,bmN,mN,oI,f1,f2,f3,f4,f5,g⟩:=o.facts;have hd:(gL (CXd P w) P w K mg base N qual scope f cd A outer s H E1).A.handled=none:=I.ok.hd rfl;rw [arm_exec_Raise];refine xo (aax ?_);refine nS (bm:=bm) (N:=N') (nm:=nm) (q:=q) (bs:=bs) (hdct:=true) (sn:=sn) (sub:=sub) (ab:=ab) (col:=col) (dd:=dd) (k0:=k0) (k1:=k1) (k2:=k2) (k3:=k3) (k5:=k5) (newId:=newId) (C:=C) o.be hd ?_;refine xo ?_;refine zR (gD I hg hm ?_ hdb);refine aaR (h₀:=base) I.ok.mod.kin o.kp (thn (ha cpos pins s1 σ H1 _ I h) fun us s2 ⟨vs,H2,I2,r,hl,q2⟩=>⟨I2.kIn,?_⟩) hs rfl;obtain⟨c1,c2,c3,c4⟩:=g s2.heap I2.kIn;have none_of:∀ b,s2.heap.get? b=none->s.heap.get? b=none:=fun b z=>by
  cases g:s.heap.get? b with
  | none=>rfl
  | some o =>
   obtain⟨o',g'⟩:=I2.base.there b o g (by show b ∉ ([]:List Addr);simp);rw [z] at g';cases g'
 have untr:∀ b,s2.heap.get? b=none->H2 b=none:=fun b z=>by
  cases g:H2 b with
  | none=>rfl
  | some o =>
   obtain⟨ob,g'⟩:=(I2.hok b o g).obj;rw [z] at g';cases g'
 obtain⟨hp,gs,dr,tk,os⟩:=s2;refine pE f1 f2 f3 c3 c1 c2 f4 c4 f5 (fun h' e made=>?_) (by show us.length<=sizeLine;rw [← r.length];exact xE hl (by decide));obtain⟨tt,m1,m2,m3⟩:=made.there;have ne:H2 e=none:=untr e made.new;have J0:Inv (gL (CXd P w) P w K mg base N qual scope f cd A outer s H E1) pins σ H2 { heap:=h',gens:=gs,drawn:=dr,toks:=tk,os:=os }:=I2.kept (t':=tk) made.keeps;have J1:Inv (gL (CXd P w) P w K mg base N qual scope f cd A outer s H E1) pins σ (upd H2 e (rQ e C false)) { heap:=h',gens:=gs,drawn:=dr,toks:=tk,os:=os }:=by
  refine J0.trackN ne (oN m1 fun _=>rfl) (fun b ob gb hx z=>?_) (fun p hpp z=>?_) (fun z=>?_) fun y c hc z=>?_
  ·have:=none_of e made.new;rw [← z] at this;have gb':s.heap.get? b=some ob:=gb;rw [this] at gb';cases gb'
  ·have:=(I2.pin p hpp).1;rw [z] at this;have n:=made.new;rw [show hp.get? e=_ from this] at n;cases n
  ·obtain⟨m,⟨ol,es,ep,hl',_⟩,_⟩:=I2.loc;have n:=made.new;rw [z] at n;rw [show hp.get? _=_ from hl'] at n;cases n
  ·obtain⟨v,ol,hl',_⟩:=I2.cell y c hc;have n:=made.new;rw [← z] at n;rw [show hp.get? _=_ from hl'] at n;cases n
 have hq:=q2 e ne;have r2:Vals (V.ref e::vs) (Value.ref e::us):=.cons rfl r;have hl2:(Value.ref e::us++[]).length=ps.length:=by
  rw [yg,← r2.length];exact F.len _ _ _ _ hq
 have hbb:=hb { heap:=h',gens:=gs,drawn:=dr,toks:=tk,os:=os } (Value.ref e::us) J1.kIn hl2;rw [yg] at hbb;refine aaD (aaQ (F.run _ (gL (CXd P w) P w K mg base N qual scope f cd A outer s H E1).stack _ _ ⟨Value.ref e::us,[]⟩ (Value.ref e::us) _ _ E0 (hr.make C us []) (J1.env0.make C us []) hbb r2 hq) fun rr s3 hq'=>?_);cases rr with
 | error e'=>exact False.elim hq'
 | ok fl =>
  cases fl with
  | next=>exact False.elim hq'
  | brk=>exact False.elim hq'
  | cont=>exact False.elim hq'
  | ret u =>
   obtain⟨v,H3,J3,rv,ev,dx,he3,q3⟩:=J1.after hq';subst ev;refine⟨rv,?_⟩;refine xo (aax (xC ?_));obtain⟨⟨t3,sl3,g3⟩,_⟩:=J3.hok e _ he3;obtain⟨d1,_⟩:=g s3.heap J3.kIn;refine⟨e,t3,some dx,sl3,rfl,d1,g3,?_⟩;have J4:=J3.dropA he3;have st:=J4.stack;have notin:∀ b,s3.heap.get? b=none->b ∉ frs (envOfC qual scope s.heap.objs.size f cd::outer):=fun b z y=>by
    obtain⟨_,o',e',d⟩:=st.mem y;rw [z] at e';cases e'
   show wpAny (model P w) (A.deeper (envOfC qual scope s.heap.objs.size f cd)) (leaving (envOfC qual scope s.heap.objs.size f cd) (.ref e)) _ _ _;unfold leaving;refine xo (oB (base:=cb s3.heap (e::e::frs (envOfC qual scope s.heap.objs.size f cd::outer))) (L:=s.heap.objs.size) J4.ok.frames (eB st fun b hb=>xu _ (xu _ hb)) rfl g3 rfl rfl fun h' T' n=>?_);refine jj (s:={ s3 with heap:=h' }) (by show 1 < 6;decide) (notin T' n.1) n fun h'' n2=>?_;exact nj (s2:=s3) (a0:=.ref t3) J4 h8 h8 (none_of _ made.new) (none_of _ made.new) g3 rfl (fun o g=>by rw [g3] at g;cases g;exact⟨_,rfl⟩) (by show 1 < 6;decide) rfl n2 q3
end
def vi (a:Addr)(cls:Value)(dx:Option Addr):HO:=.ext fun h=>∃ o,h.get? a=some o/\o.cls=cls/\o.dict=dx/\∃ vs,o.data=.fields vs
theorem t5 {P:Program}{w:World}{H:Hp}{h:Heap}{a:Addr}{o:Obj}{cls:Value}{dx:Option Addr}(g:h.get? a=some o)(c:o.cls=cls)(d:o.dict=dx)(f:∃ vs,o.data=.fields vs):ObjOk P w H h a (vi a cls dx) :=
 ⟨⟨o,g,c,d,f⟩,⟨_,g⟩,fun h1 h2 ⟨o,g,c,d,f⟩ k=>⟨o,k _ g,c,d,f⟩⟩
def wg (i:Nat)(M:Value->Prop)(tb:(St->XK)->TS)(th:TS):TS:=fun D σ H=>tb (fun σ' cls dx H'=>M cls/\∀ a,H' a=none->th { nx:=fun σ2 H2=>D.nx (σ2.set i none) H2,rt:=fun _ _=>False } (σ'.set i (some (.ref a))) (upd H' a (vi a cls dx))) D σ H
theorem uk {X:Cx}{body suite:List Stmt}{b₀:Stmt}{C fo:Addr}{bm:List Value}{n cx:Str}{i:Nat}{np hpos pos:Pos}{tb:(St->XK)->TS}{th:TS}(hst:X.stack=X.env::X.outer)(hfr:X.env.frame=some X.env.locals)(hg:Gl X cx)(hm:X.mg cx=some (.ref C))(c:eE X.K C fo bm)(hN:X.N.Nodup)(hi:X.N[i]? = some n)(hk:X.env.kindOf n=some .local)
 (hb:∀ pins xe Eh,(∀ σ H s ev s',Inv X pins σ H s->CXd X.prog X.w X.stack H s (Eh σ) ev s'->xe ev s')->PSs (X.tried pins xe) body (tb Eh))(hsu:∀ a,PSs (X.marked a) (b₀::suite) th)(hdb:(cx == ("__debug__" : Str))=false:=by decide)(hloc:Loc X.env.scope n:=by first | exact .inl rfl | exact .inr rfl)(hfn:X.fn n=true\/X.env.scope.names.lookup n=some .local:=by first | exact .inl rfl | exact .inr rfl | assumption) :
 PS X (.Try body [.ExceptHandler (some (.Name cx np)) (some n) (b₀::suite) hpos] [] [] pos) (wg i (mK X.K C) tb th):=by
 intro pins s σ H D I h;obtain⟨nm,q,N',bs,bmB,sn,sub,ab,col,dd,k0,k1,k2,k3,k5,B,Bn,newId,nid,inN,bmN,mN,oI,f1,f2,F2,f5,f6,g⟩:=c.facts;have f4:=c.be;refine wpAny_Try_except ?_;have hand:∀ (σ':St) (H1:Hp) (s1:Shared) (ev:Value) (s2:Shared),Inv X pins σ' H1 s1->CXd X.prog X.w X.stack H1 s1 (fun cls dx H'=>mK X.K C cls/\∀ a,H' a=none->th { nx:=fun σ2 H2=>D.nx (σ2.set i none) H2,rt:=fun _ _=>False } (σ'.set i (some (.ref a))) (upd H' a (vi a cls dx))) ev s2 →
  wpAny (model X.prog X.w) X.A (noteFrame ev X.env) (fun _ s₂=>wpAny (model X.prog X.w) X.A (setFlight ev none) (fun _ s₃=>wpAny (model X.prog X.w) X.A (handleBy ev X.env [.ExceptHandler (some (.Name cx np)) (some n) (b₀::suite) hpos]) (SP X pins D) X.xe s₃) X.xe s₂) X.xe s2:=by
  intro σ' H1 s1 ev s2 I1 hcx;obtain⟨e,T,cls,a0,dx,H2,rfl,os,bare,un,hok,ex,⟨oe0,dt1,dt2⟩,ge,gT,ne,nT,mm,qq⟩:=hcx;obtain⟨C1,bm1,rfl,c1,hm1⟩:=mm;obtain⟨nm1,q1,N1,bs1,hdct1,sn1,sub1,ab1,col1,dd1,j0,j1,j2,j3,j5,newId1,gc1⟩:=c1;have J:Inv X pins σ' H2 s2:=I1.call' os un hok bare (fun b z=>absurd z (by simp));have old:∀ b o,X.s₀.heap.get? b=some o->b ∉ X.ex->b≠e/\b≠T:=fun b o gb hx=>by
   obtain⟨o',g'⟩:=I1.base.there b o gb hx;exact⟨(fun z=>by rw [z,ge] at g';cases g'),(fun z=>by rw [z,gT] at g';cases g')⟩
  have pn:∀ p∈X.pn++pins,p.1≠e/\p.1≠T:=fun p hp=>by
   have g':=(I1.pin p hp).1;exact⟨(fun z=>by rw [z,ge] at g';cases g'),(fun z=>by rw [z,gT] at g';cases g')⟩
  have st:=J.stack;obtain⟨oe,vs,oT,ts,g1,g2,g3,g4,g6,g7,g8,g9⟩:=ex;rw [g1] at dt1;cases dt1;have sz1:=(yj.mp g4).1;have frm:X.A.frames=some (X.env::X.outer):=by rw [← hst];exact J.ok.frames
  have sth:s2.heap.FunFrames (cb s2.heap (e::T::frs X.stack)) (X.env::X.outer):=by
   have:=eB (L:=e::T::frs X.stack) st fun b hb=>xu _ (xu _ hb);rw [hst] at this ⊢;exact this
  have hst':frs X.stack=frs (X.env::X.outer):=by rw [hst]
  refine kD (base:=cb s2.heap (e::T::frs X.stack)) (L:=X.env.locals) (outer:=X.outer) frm sth hfr g1 g3 g4 g6 g7 g8 g9 fun h' T1 nt=>?_;have L:=kj (a0:=a0) (by rw [← hst'];exact sth) ⟨_,g1,_,g3⟩ (fun o g=>by rw [g7] at g;cases g;exact⟨_,g8⟩) sz1 g2.2 nt;rw [← hst'] at L;obtain⟨st',fn',⟨oe',vs',T',oT',ts',k1',k2',k3',k4',k5',k6',k7',k8',k9'⟩,kp'⟩:=L;have dq:oe'.dict=dx:=by
   have:=nt.2.2.2.1.symm.trans k1';injection this with this
   rw [← this];exact dt2
  have J2:Inv X pins σ' H2 { s2 with heap:=h' }:=J.bend (t':=s2.toks) ne nT old pn st' kp';have notF:T' ∉ frs X.stack:=fun z=>by
   rw [hst] at z;obtain⟨_,o',e',d⟩:=fn'.mem z;rw [k7'] at e';cases e';exact d _ k8'
  have notIn:∀ b o,s2.heap.get? b=some o->b≠e->b≠T->b≠T':=fun b o gb h1 h2 z=>by
   subst z;have:(cb s2.heap (e::T::frs X.stack)).get? b=some o:=zI _ gb fun z=>by
    rcases xA.mp z with z | z
    ·exact h1 z
    ·rcases xA.mp z with z | z
     ·exact h2 z
     ·exact notF z
   rw [k5'] at this;cases this
  have nT':H2 T'=none:=by
   cases gt:H2 T' with
   | none=>rfl
   | some o =>
    obtain⟨ob,g'⟩:=(J.hok T' o gt).obj;exact absurd rfl (notIn T' ob g' k6' fun z=>by rw [z,nT] at gt;cases gt)
  have old':∀ b o,X.s₀.heap.get? b=some o->b ∉ X.ex->b≠T'/\b≠T':=fun b o gb hx=>by
   obtain⟨o',g'⟩:=J.base.there b o gb hx;have:=notIn b o' g' (old b o gb hx).1 (old b o gb hx).2;exact⟨this,this⟩
  have pn':∀ p∈X.pn++pins,p.1≠T'/\p.1≠T':=fun p hp=>by
   have:=notIn p.1 p.2 (J.pin p hp).1 (pn p hp).1 (pn p hp).2;exact⟨this,this⟩
  have sz:3 < ts'.size:=(yj.mp k9').1;refine wpAny_setFlight_none k1' k3' k4' k7' k8' sz ?_;have flight:∀ (hh:Heap) (t:Nat) (ot:Obj) (tv:Array Value),Inv X pins σ' H2 { s2 with heap:=hh,toks:=t }->hh.get? T'=some ot->ot.data=.fields tv->Inv X pins σ' H2 { s2 with heap:=hh.update T' (Obj.mapFields fun x=>x.setIfInBounds 3 .none),toks:=t }:=fun hh t ot tv IJ gt dt=>by
   refine IJ.bend (t':=t) nT' nT' old' pn' (fun b o gb=>fU (fun z=>?_) (aaP _ gb)) fun b o gb hd=>⟨o.slots,fU (fun z=>?_) gb⟩
   ·have:(cb hh (T'::T'::frs X.stack)).get? T'=none:=zZ _ xD;rw [z] at gb;rw [this] at gb;cases gb
   ·have gb':hh.get? b=some o:=gb;rw [z,gt] at gb';cases gb';exact hd _ dt
  have J3:Inv X pins σ' H2 { s2 with heap:=h'.update T' (Obj.mapFields fun x=>x.setIfInBounds 3 .none) }:=flight h' s2.toks oT' ts' J2 k7' k8';obtain⟨oe3,vs3,oT3,ts3,m1,m2,m3,m4,m5,m6⟩:=marked_update .none k1' k3' k4' k7' k8' k9';have e3:(h'.update T' (Obj.mapFields fun x=>x.setIfInBounds 3 .none)).get? e=some oe':=fU (xZ k6') k1';rw [e3] at m1;cases m1;generalize h'.update T' (Obj.mapFields fun x=>x.setIfInBounds 3 .none)=h3 at *;refine wpAny_handleBy_cons ?_ (fun z=>by cases z);refine codeAny_handlers_test (gD (X:=X.marked e) (J3.marked e) hg hm ?_ hdb);refine tD (g _ J3.kIn).1 (gc1 _ J3.kIn) e3 (k2'.1.trans g2.1) f4 hm1 ?_;refine codeAny_handlers_suite_as (wpAny_setFlight_none e3 m2 m3 m4 m5 (yj.mp m6).1 ?_);have J4:Inv X pins σ' H2 { s2 with heap:=h3.update T' (Obj.mapFields fun x=>x.setIfInBounds 3 .none) }:=flight h3 s2.toks oT3 ts3 J3 m4 m5;have e4:(h3.update T' (Obj.mapFields fun x=>x.setIfInBounds 3 .none)).get? e=some oe':=fU (xZ k6') e3;generalize h3.update T' (Obj.mapFields fun x=>x.setIfInBounds 3 .none)=h4 at *;have eL:e≠X.env.locals:=fun z=>by
   obtain⟨m,⟨o,es,ep,ho,r⟩,_⟩:=J4.loc;have ho':h4.get? X.env.locals=some o:=ho;rw [← z,e4] at ho';cases ho';have:=r.1;rw [k3'] at this;cases this
  have eC:∀ x c,X.env.cells.lookup x=some c->c≠e:=fun x c hc z=>by
   obtain⟨v,o,ho,hd⟩:=J4.cell x c hc;have ho':h4.get? c=some o:=ho;rw [z,e4] at ho';cases ho';rw [k3'] at hd;cases hd
  have J5:Inv X pins σ' (upd H2 e (vi e (.ref C1) dx)) { s2 with heap:=h4 }:=J4.trackN ne (t5 e4 (k2'.1.trans g2.1) dq ⟨_,k3'⟩) (fun b o gb hx=>(old b o gb hx).1) (fun p hp=>(pn p hp).1) eL eC;refine iI (X:=X.marked e) (J5.marked e) hN hi hloc (show RelV (.ref e) (.ref e) from rfl) (fun s5 I5 _=>?_) hfn;refine za (hsu e pins s5 _ _ _ I5 (qq e ne)) (fun fl s6 x=>?_) fun _ _ z=>z.elim;cases fl with
  | next =>
   obtain⟨σ2,H6,I6,qn⟩:=x;have I6':=I6.unmarked J.ok.hd;obtain⟨m,nsm,hml⟩:=I6'.loc;refine wpAny_nameGoes_keeps hk nsm (by rw [I6'.ok.kind];rfl) fun h7 v ns sb=>?_;exact⟨σ2.set i none,H6,I6'.goes hN hi hk hml ns sb nsm,qn⟩
  | brk=>obtain⟨_,_,_,z⟩:=x;exact z.elim
  | cont=>obtain⟨_,_,_,z⟩:=x;exact z.elim
  | ret u=>obtain⟨_,_,_,_,_,z⟩:=x;exact z.elim
 refine za (hb pins _ _ hand [] s σ H D (I.tried _) h) (fun f s1 x=>?_) (fun _ _ x=>x);have x':=SP.untried x;cases f with
 | next=>obtain⟨σ',H',I',q⟩:=x';exact aaa ⟨σ',H',I',q⟩
 | brk=>exact x'
 | cont=>exact x'
 | ret u=>exact x'
theorem t4 {K:PySem.W.Frag}{prog:Program}{w:World}{A:Around}{E:Value->Shared->Prop}{s:Shared}{e C1 dx:Addr}{bm1:List Value}{oe:Obj}{nm:Str}{m:Str->Option Value}{u:Value}{ex:Bool}{Q:Value->Shared->Prop}(kin:K.In s.heap)(x:lP K C1 bm1)(he:s.heap.get? e=some oe)(hc:oe.cls=.ref C1)(hd:oe.dict=some dx)(hf:∃ vs,oe.data=.fields vs)(hn:findIn K (.ref C1) nm=some none)(ns:s.heap.Ns1 dx m)(hm:m nm=some u)
 {fI:Addr}{bmO:List Value}(ow:eE K C1 fI bmO)(h:∀ (A:Around) (E:Value->Shared->Prop),wpAny (model prog w) A (handedOut u) Q E { s with toks:=s.toks+1 }):wpAny (model prog w) A (getAttr (.ref e) nm ex) Q E s:=by
 obtain⟨nmC,q,N,bs,bmB,hdct,sn,sub,ab,col,dd,k0,k1,k2,k3,k5,B,newId,ba,g⟩:=x.facts;obtain⟨c1,c2⟩:=g s.heap kin;unfold getAttr;refine xo (wpAny_mkText ?_);unfold getAttrBy;refine yZ (xo (yX he ?_));rw [hc];refine xo ((W.looks_findIn kin x.ga).at ?_);show wpAny _ _ (getAttrByItsOwn (.ref e) _ (.ref C1) (.builtin "BaseException.__getattribute__") true ex) _ _ _;unfold getAttrByItsOwn hookBefore;refine xo ?_;show wpAny _ _ (typeLookup (.ref C1) "__getattr__") _ _ _;refine (W.looks_findIn kin x.gt).at ?_;refine xo (wpAny_attempt (yZ ?_));have ec:callGetattribute (.ref e) (Value.str nm s.toks) (.builtin "BaseException.__getattribute__") ex=boundAndCalled (.builtin "BaseException.__getattribute__") (.ref e) (Value.str nm s.toks):=by
  unfold callGetattribute;rw [show (ex && onTheHeap (.builtin "BaseException.__getattribute__"))=false by cases ex<;>rfl]
  rfl
 rw [ec];unfold boundAndCalled bindSpecial;refine xo ?_;rw [vd];refine xo (xC (xC ?_));obtain⟨hp,gs,d,t,os⟩:=s;refine aaD (codeAny_call_builtin_code (plainId_quiet pW _) (wpAny_check_ga_own ba c1 c2 he hc (codeAny_builtin sZ ?_)));unfold Builtin.«object.__getattribute__» slotArgs;refine xo ?_;show wpAny _ _ (pure (Value.ref e,[Value.str nm t])) _ _ _;refine xC ?_;show wpAny _ _ (Builtin.ObjectAttr.attrName (Value.str nm t) >>= _) _ _ _;unfold Builtin.ObjectAttr.attrName;refine xo (xC (xo (yX he ?_)));rw [hc];unfold Builtin.ObjectAttr.find;refine xo (xo ((W.looks_findIn kin hn).at ?_));refine xo (xC ?_);refine xo (xC ?_);unfold Builtin.ObjectAttr.ownThenClass Builtin.ObjectAttr.inOwnDict Builtin.ObjectAttr.ownDict loadHead;obtain⟨vs,hf⟩:=hf;refine xo (xo (xo (aaX he ?_)));rw [hf];dsimp only;unfold instanceDict;refine xo (aaX he ?_);rw [hc];dsimp only;unfold classData;obtain⟨nm2,q2,N2,bs2,bmB2,sn2,sub2,ab2,col2,dd2,j0,j1,j2,j3,j5,B2,Bn2,newId2,nid2,inN2,bmN2,mN2,oI2,f1,f2,F2,f4,f5,g2⟩:=ow.facts;have c3:=(g2 hp kin).1;refine xo (xo (wpAny_load c3 (xC ?_)));refine yD rfl ?_;rw [hd];refine xC ?_;unfold Builtin.ObjectAttr.inDict;refine wpAny_nsGet ns.ns ?_;rw [hm];refine xo (aaE (xC ?_));dsimp only;refine xC ?_;exact h _ _
structure pL (K:PySem.W.Frag)(C:Addr)(nm:Str):Prop where
 att:∃ bm,lP K C bm
 own:∃ f bm,eE K C f bm
 no:findIn K (.ref C) nm=some none
def uz (K:PySem.W.Frag)(ta:TE)(nm:Str):TE:=fun σ H Q=>ta σ H fun x H1=>∃ (a C dx:Addr) (v:V),x=.ref a/\H1 a=some (vi a (.ref C) (some dx))/\pL K C nm/\H1 dx=some (atO nm dx v)/\(v=.non\/∃ i,v=.int i)/\Q v H1
theorem rM {X:Cx}{K:PySem.W.Frag}{e:Expr}{nm:Str}{pos:Pos}{ta:TE}(he:PE X e ta)(hb:attributeBase e nm X.env (eval e X.env)=eval e X.env)(hK:X.K=K:=by rfl):PE X (.Attribute e nm pos) (uz K ta nm):=by
 subst hK;intro pins s σ H Q I h;refine t8 hb (thn (he pins s σ H _ I h) fun u s1 ⟨x,H1,I1,rx,a,C,dx,v,ex,ea,c,ed,hv,q⟩=>?_);subst ex;obtain rfl:u=Value.ref a:=rx;obtain⟨⟨o,g1,g2,g3,g4⟩,_⟩:=I1.hok a _ ea;obtain⟨⟨u,ru,ns⟩,_⟩:=I1.hok dx _ ed;obtain⟨bm,at1⟩:=c.att;obtain⟨f,bm2,ow⟩:=c.own;refine t4 I1.kIn at1 g1 g2 g3 g4 c.no ns (if_pos rfl) ow fun A E=>?_;rcases hv with rfl | ⟨i,rfl⟩
 ·cases ru;exact xC ⟨.non,H1,I1.tok _,rfl,q⟩
 ·obtain⟨t,rfl⟩:=ru;exact xC ⟨.int i,H1,I1.tok _,⟨t,rfl⟩,q⟩
theorem om {X:Cx}:eW X (.type "str") (fun xs H Q=>(xs=[.non]\/∃ n:Nat,xs=[.int (n:Int)]/\n < 1000000)/\∀ z,Q (.str z) H):=by
 intro pins s σ H xs us Q I r h;obtain⟨rfl | ⟨n,rfl,hn⟩,q⟩:=h
 ·obtain⟨u,rfl,ru⟩:=gZ r;cases ru;exact PySem.P.str_of_none ⟨.str _,H,I.tok _,⟨_,rfl⟩,q _⟩
 ·obtain⟨u,rfl,t,rfl⟩:=gZ r;refine PySem.P.str_of_int ?_ ⟨.str _,H,I.tok _,⟨_,rfl⟩,q _⟩;rw [Int.natAbs_natCast];rcases Nat.eq_zero_or_pos n with z | z
  ·rw [z];decide
  ·exact xP ((Nat.log2_lt (by lia)).mpr (Nat.lt_trans hn (by decide:1000000 < 2 ^ 20))) (by decide)
end L2
namespace K7
open PySem L2 PyProof.Rows
def tP (s:Stmt):List Stmt:=match s with
 | .ClassDef _ _ _ b _ _ _ _ _ _ _=>b
 | _=>[]
abbrev bD:Stmt:=(tP (top 3)).getD 0 (.Pass ⟨0,0,0,0⟩)
def oj (h:Hs)(g:List Nat)(z:Int):Bool:=decide (0<=z) && (decide (z.toNat < h.2.length) && (!decide (z.toNat∈g) && i9 (ay h.1 h.2 g) ((h.2[z.toNat]?).getD ([],[])).1))
def pT (C:Addr):Sp:=fun vs H Q _=>∃ (e:Addr) (x:V),vs=[.ref e,x]/\H e=some (rQ e C false)/\(x=.non\/∃ n:Nat,x=.int (n:Int)/\n < 1000000)/\∀ dx,H dx=none->dx≠e->Q .non (upd (upd H e (t7 e C dx)) dx (atO "at" dx x))
def nh:Sp:=fun vs H Q _=>∃ (r a g:Addr) (z:Int) (us:List V) (rs:List Rm) (hand:List Str) (gone:List Nat),vs=[.ref r,.ref a,.ref g,.int z]/\H r=some (.lst us)/\RoomsAt H us rs/\(∀ q∈rs,q.1.length<=1000)/\H a=some (.lst (hand.map V.str))/\H g=some (.lst (ax gone)) ∧
 ∀ H',Same H H'->Q (.bl (decide (0<=z) && (decide (z.toNat < rs.length) && (!decide (z.toNat∈gone) && i9 hand ((rs[z.toNat]?).getD ([],[])).1)))) H'
def hJ (cS:Addr):Sp:=fun vs H Q E=>∃ (v:V) (o:Addr) (h:Hs) (g:List Nat) (z:Int),vs=[v,.ref o]/\HouseAt H v h/\aS h/\H o=some (.lst (ax g++[.int z]))/\Gone h.1 h.2 g/\g.length < 200/\oj h g z=false/\∀ dx H',Same H H'->H' dx=some (atO "at" dx (.int (g.length:Nat)))->E (.ref cS) (some dx) H'
theorem vo {H:Hp}{e dx:Addr}{o u x:HO}(n:H e=none)(nd:(upd H e o) dx=none)(de:dx≠e):Same H (rem (upd (upd (upd H e o) e u) dx x) e)/\(rem (upd (upd (upd H e o) e u) dx x) e) dx=some x:=by
 refine⟨fun b y g=>?_,by rw [kH de,ag]⟩;have nb:b≠e:=af g n;have nb2:b≠dx:=fun z=>by rw [ai de] at nd;rw [z,nd] at g;cases g
 rw [kH nb,ai nb2,ai nb,ai nb];exact g
section
variable {P:Program}{w:World}{K:PySem.W.Frag}{mg:Str->Option Value}{base:Heap}
theorem je:aL ["self","at"] ["self","at"] (aq bD):=scM rfl rfl rfl rfl (by decide +kernel)
theorem rP {f cS cK:Addr}{fd:FuncData}{bm:List Value}(F:Fun K "__init__" "NoStep.__init__" bD f fd)(o:eE K cS f bm)(tp:pS K cK)(jg:mg "KeyroomError" = some (.ref cK))(rR:mg "str" = none)(na:findIn K (.ref cS) "at" = some none):bf P w K mg base CX0 1 f fd ["self","at"] (pT cS):=by
 refine F.ok je (fun vs H Q E h=>?_) (fun cdv A outer s H vs Q E hr h=>?_)
 ·obtain⟨e,x,rfl,_⟩:=h
  rfl
 ·obtain⟨e,x,rfl,he,hx,q⟩:=h;refine⟨_,(aj (bO (ou tp o rfl jg (ae (pv 0) (ae (bV om rfl rR (by decide +kernel) (ae (pv 1) ah)) ah)))) (au (oz o na rfl (pv 0) (pv 1) rfl))),?_⟩;refine⟨_,rfl,_,rfl,?_,fun z=>⟨e,.str z,rfl,he,_,rfl,_,rfl,e,rfl,he,q⟩⟩;rcases hx with rfl | ⟨n,rfl,hn⟩
  ·exact .inl rfl
  ·exact .inr ⟨n,rfl,hn⟩
theorem qI {f fW fS:Addr}{fd fdW fdS:FuncData}(F:Fun K "is_step" "is_step" eU f fd)(gJ:bf P w K mg base CX0 1 fW fdW ["thing"] lq)(cW:Cal K mg "is_whole" ["thing"] fW fdW)
 (jJ:bf P w K mg base CX0 1 fS fdS ["hand","locks"] jY)(eN:Cal K mg "serves" ["hand","locks"] fS fdS)(bp:mg "len" = none):bf P w K mg base CX0 2 f fd ["rooms","hand","gone","number"] nh:=by
 refine F.ok jA (fun vs H Q E h=>?_) (fun cdv A outer s H vs Q E hr h=>?_)
 ·obtain⟨r,a,g,n,us,rs,hand,gone,rfl,_⟩:=h
  rfl
 ·obtain⟨r,a,g,z,us,rs,hand,gone,rfl,hr',hR,hl,ha,hg,k⟩:=h;refine⟨_,(aj (cm (PW.pt (n8 (cG (dj (pcl gJ cW hr rfl (ae (pv 3) ah)))) (jy (cG (jW oC rj ao (pv 3) (av aA rfl bp xU (ae (pv 0) ah)))))))
   (au (aK gy)) aV)
   (au (aK (dW (bI d9 (pv 3) (pv 2) rfl) (gS (pcl jJ eN hr rfl (ae (pv 1) (ae (aT cw (aT aM (pv 0) (pv 3) (fun _ _=>rfl)) ao (fun _ _=>rfl)) ah)))))))),?_⟩
  refine⟨_,rfl,z,rfl,fun H1 s1=>⟨true,rfl,dw ?_⟩⟩;by_cases z0:0<=z;rotate_left
  ·refine⟨_,rfl,0,_,rfl,rfl,false,xQ V.bl (xM z0),dw ⟨false,rfl,gz ?_⟩⟩;have:=k H1 s1;rw [xM z0,Bool.false_and] at this;exact this
  obtain⟨n,rfl⟩:∃ n:Nat,z=(n:Int):=⟨z.toNat,by lia⟩;rw [xK z0,aaB,yf] at k;refine⟨_,rfl,0,_,rfl,rfl,true,xQ V.bl (xK (by lia)),gz ?_⟩;by_cases hn:n < rs.length
  ·refine⟨_,rfl,r,us,rfl,.inl (aAA (s1 _ _ hr')),_,_,rfl,rfl,true,xQ V.bl (xK (by have:=hR.1;lia)),dw ?_⟩;refine⟨_,rfl,_,rfl,g,_,rfl,.inl (aAA (s1 _ _ hg)),rfl,eu gone,?_⟩;rw [xK hn] at k;by_cases hin:n∈gone
   ·refine⟨false,xQ V.bl (by rw [if_pos rfl,dI,xK hin];rfl),dw ?_⟩;have:=k H1 s1;rw [xK hin] at this;exact this
   ·refine⟨true,xQ V.bl (by rw [if_pos rfl,dI,xM hin];rfl),gz ?_⟩;obtain⟨q,hq⟩:∃ q,rs[n]? = some q:=⟨_,xm hn⟩;obtain⟨v,hv⟩:∃ v,us[n]? = some v:=⟨_,xm (by rw [hR.1];exact hn)⟩;obtain⟨tt,aa,bb,rfl,q1,q2,q3⟩:=(hR.2 n v q hv hq).same s1;refine⟨_,rfl,_,rfl,_,rfl,r,us,(n:Int),_,rfl,rfl,aAA (s1 _ _ hr'),cf hv,tt,_,0,.ref aa,rfl,rfl,aAB q1,rfl,a,aa,hand,q.1,rfl,s1 _ _ ha,q2,hl q (xV hq),fun H2 s2=>?_⟩;have:=k H2 (s1.trans s2);rw [xM hin,hq] at this;exact this
  ·refine⟨_,rfl,r,us,rfl,.inl (aAA (s1 _ _ hr')),_,_,rfl,rfl,false,xQ V.bl (xM (by have:=hR.1;lia)),gz ?_⟩;have:=k H1 s1;rw [xM hn] at this;exact this
def wm:Sp:=fun vs H Q _=>∃ (v:V) (o:Addr) (h:Hs) (g:List Nat) (z:Int),vs=[v,.ref o]/\HouseAt H v h/\aS h/\H o=some (.lst (ax g++[.int z]))/\Gone h.1 h.2 g/\g.length < 200/\oj h g z=false/\∀ H',Same H H'->Q (.int (g.length:Nat)) H'
theorem vU {g:List Nat}{z:Int}{i:Nat}(h:i<=g.length):(ax g++[V.int z]).take i=ax (g.take i):=by
 rw [yq (by rw [xn];exact h)];exact ab5.symm
theorem rV {f fS fB fI cS:Addr}{fd fdS fdB fdI:FuncData}{bmS:List Value}(F:Fun K "hand_after" "hand_after" cM f fd)(d8:bf P w K mg base CX0 2 fS fdS ["rooms","hand","gone","number"] nh)(bZ:Cal K mg "is_step" ["rooms","hand","gone","number"] fS fdS)
 (dH:bf P w K mg base CX0 1 fB fdB ["hand","room"] jI)(bG:Cal K mg "hand_behind" ["hand","room"] fB fdB)(cg:mg "enumerate" = none)(aR:mg "isinstance" = none)(bU:mg "list" = none)
 (o_NoStep:eE K cS fI bmS)(gx:bf P w K mg base CX0 1 fI fdI ["self","at"] (pT cS))(gv:Binds K fdI ["self","at"] [])(hV:mg "NoStep" = some (.ref cS)):bf P w K mg base (CXd P w) 3 f fd ["house","order"] (hJ cS):=by
 refine F.okD aI (fun vs H Q E h=>?_) (fun cdv A outer s H vs Q E hr h=>?_)
 ·obtain⟨v,o,h,g,z,rfl,_⟩:=h
  rfl
 ·obtain⟨v,o,h,g,z0,rfl,⟨t,a,r,us,rfl,ht,ha,hr',hR⟩,ok,ho,hg,hol,sz,k2⟩:=h;refine⟨_,(aj (cm (cG (dj (av bB rfl aR (by decide +kernel) (ae (pv 1) (ae (dM (v:=.ty "list") (u:=.type "list") rfl bU (by decide +kernel) rfl) ah)))))
   (au (kQ o_NoStep gx hr gv rfl hV (ae sj ah))) aV)
   (aj (jn (pv 0) (iW rfl (bo (aF (i:=2) aI.nd rfl (.inl rfl)) (bo (aF (i:=3) aI.nd rfl (.inl rfl)) dF))))
   (aj (aD (i:=4) aI.nd rfl (.inl rfl) (bV cy rfl bU (by decide +kernel) (ae (pv 2) ah)))
   (aj (bu (dZ PassesOwn.leaving rfl (oJ rfl cg (ae (pv 1) ah)) (iW rfl (bo (aF (i:=5) aI.nd rfl (.inl rfl)) (bo (aF (i:=6) aI.nd rfl (.inl rfl)) dF)))
    (aj (cm (cG (dj (pcl d8 bZ hr rfl (ae (pv 3) (ae (pv 4) (ae (bY fO (pv 1) cZ (dg (pv 5))) (ae (pv 6) ah)))))))
     (au (kQ o_NoStep gx hr gv rfl hV (ae (pv 5) ah))) aV)
    (au (aD (i:=4) aI.nd rfl (.inl rfl) (pcl dH bG (hr.mono (by decide:1<=2)) rfl (ae (pv 4) (ae (aT aM (pv 3) (pv 6) (fun _ _=>rfl)) ah))))))))
   (au (aK (pv 4))))))),?_⟩
  try dsimp only [gL]
  refine⟨_,rfl,_,_,_,true,rfl,.lst ho,dm K _,true,rfl,dw ?_⟩;refine⟨_,rfl,t,_,rfl,aAB ht,rfl,_,_,rfl,_,_,rfl,rfl,?_⟩;refine⟨_,rfl,a,_,rfl,.inl (aAA ha),fun l nl=>?_⟩;have s1:Same H (upd H l (.lst (h.1.map V.str))):=fun b u e=>by rw [ai (af e nl)];exact e
  refine⟨fun _ _=>False,fun _ _ z=>z.elim,?_⟩;have gl:(ax g++[V.int z0]).length=g.length+1:=by rw [xq,xn];rfl
  refine⟨_,rfl,o,rfl,⟨_,aAA (s1 _ _ ho)⟩,?_⟩;refine mX (xs:=ax g++[.int z0]) (fun i σ' H'=>i<=g.length/\∃ (l:Addr) (x5 x6:Option V),σ'=[some (.ref t),some (.ref o),some (.ref a),some (.ref r),some (.ref l),x5,x6]/\H' l=some (.lst ((ay h.1 h.2 (g.take i)).map V.str))/\H l=none/\Same H H') ⟨xS _,l,_,_,rfl,ag,nl,s1⟩ (fun i σ H' _ ⟨_,_,_,_,_,_,_,s⟩=>aAA (s _ _ ho)) ?_ ?_
  ·rintro i x σ H2 T hx ⟨il,l2,x5,x6,rfl,hl2,nl2,s2⟩ nT;obtain⟨z,rfl,hz⟩:∃ z:Int,x=.int z/\((∃ n:Nat,g[i]? = some n/\z=n)\/(i=g.length/\z=z0)):=by
    by_cases lt:i < g.length
    ·rw [yr (by rw [xn];exact lt),xO,xm lt] at hx;cases hx;exact⟨_,rfl,.inl ⟨_,xm lt,rfl⟩⟩
    ·have ei:i=g.length:=by lia
     subst ei;rw [xX (by rw [xn];exact xx _),xn,zU] at hx;cases hx;exact⟨_,rfl,.inr ⟨rfl,rfl⟩⟩
   have sT:Same H2 (upd H2 T (.tup [.int (i:Int),.int z])):=fun b u e=>by rw [ai (af e nT)];exact e
   refine⟨T,_,rfl,aAB ag,rfl,_,_,rfl,_,_,rfl,rfl,?_⟩;have hl3:=sT _ _ hl2;have s3:=s2.trans sT;generalize upd H2 T (.tup [.int (i:Int),.int z])=H3 at hl3 s3 ⊢;refine⟨_,rfl,_,rfl,_,rfl,_,rfl,_,rfl,o,_,rfl,aAA (s3 _ _ ho),fun c nc=>?_⟩;rw [mW (by rw [gl];lia),vU il];have s4:Same H3 (upd H3 c (.lst (ax (g.take i)))):=fun b u e=>by rw [ai (af e nc)];exact e
   have hc4:(upd H3 c (.lst (ax (g.take i)))) c=some (.lst (ax (g.take i))):=ag;generalize upd H3 c (.lst (ax (g.take i)))=H4 at s4 hc4 ⊢;have s04:=s3.trans s4;refine⟨_,rfl,r,l2,c,z,us,h.2,ay h.1 h.2 (g.take i),g.take i,rfl,s04 _ _ hr',hR.same s04,fun q hq=>by have:=(ok.rs q hq).l4;lia,s4 _ _ hl3,hc4,fun H5 s5=>?_⟩;have s05:=s04.trans s5;rcases hz with ⟨n,hn,rfl⟩ | ⟨ei,ez⟩
   ·obtain⟨g1,g2,g3⟩:=hg i n hn;refine⟨true,xQ V.bl (by rw [xK (by lia),yf,xK g1,xM g2,g3];rfl),dw ?_⟩;obtain⟨q,hq⟩:∃ q,h.2[n]? = some q:=⟨_,xm g1⟩;obtain⟨v,hv⟩:∃ v,us[n]? = some v:=⟨_,xm (by rw [hR.1];exact g1)⟩;have hrm:=(hR.2 n v q hv hq).same s05;have hf:=gn ok (order:=g.take i) (by rw [xN];lia);have hkl:=(ok.rs q (xV hq)).kl;rw [hq] at g3;have lt:=(xp.mp hn).1;refine⟨_,rfl,_,rfl,_,rfl,r,us,(n:Int),_,rfl,rfl,aAA (s05 _ _ hr'),cf hv,l2,v,ay h.1 h.2 (g.take i),q,rfl,s5 _ _ (s4 _ _ hl3),hrm,g3,xE (by lia:_<=202000) (by decide),fun l6 H6 s6 nl6 hl6=>?_⟩;refine⟨lt,l6,_,_,rfl,?_,s05.free nl6,s05.trans s6⟩;rw [hl6,yn,hn];show _=some (HO.lst ((ay h.1 h.2 (g.take i++[n])).map V.str));rw [fz,hq]
    rfl
   ·subst ei ez;unfold oj at sz;rw [yv,sz];refine⟨false,rfl,gz ?_⟩;refine⟨_,rfl,by show 1<=1000;decide,fun e ne=>⟨e,.int (g.length:Nat),rfl,ag,.inr ⟨g.length,rfl,by lia⟩,fun dx nd de=>⟨rfl,dx,by rw [ai de.symm,ag],?_⟩⟩⟩;obtain⟨y1,y2⟩:=vo (u:=t7 e cS dx) (x:=atO "at" dx (.int (g.length:Nat))) ne nd de;exact k2 dx _ (s05.trans y1) y2
  ·rintro σ H2 ⟨il,_⟩;lia
theorem tL {f fR fA cS:Addr}{fd fdR fdA:FuncData}(F:Fun K "keys_behind" "keys_behind" cu f fd)(bh:bf P w K mg base CX0 6 fR fdR ["thing"] p8)(aG:Cal K mg "require_house" ["thing"] fR fdR)
 (cB:bf P w K mg base (CXd P w) 3 fA fdA ["house","order"] (hJ cS))(aX:Cal K mg "hand_after" ["house","order"] fA fdA)(a9:mg "sorted" = none):bf P w K mg base (CXd P w) 7 f fd ["house","order"] (hJ cS):=by
 refine F.okD fe (fun vs H Q E h=>?_) (fun cdv A outer s H vs Q E hr h=>?_)
 ·obtain⟨v,o,h,g,z,rfl,_⟩:=h
  rfl
 ·obtain⟨v,o,h,g,z,rfl,hh,ok,ho,hg,hol,sz,k2⟩:=h;refine⟨_,(aj (bO (pcl bh aG hr rfl (ae (pv 0) ah)))
   (au (aK (av di rfl a9 aak (ae (bK cB (hr.mono (by decide:3<=6)) rfl aX.mg aX.kp aX.b .nil (vj (E:=E) fun _ _ _ h=>h) (ae (pv 0) (ae (pv 1) ah))) ah))))),?_⟩
  refine⟨_,rfl,v,h,rfl,hh,ok,fun H1 s1=>?_⟩;exact⟨_,rfl,_,rfl,v,o,h,g,z,rfl,hh.same s1,ok,s1 _ _ ho,hg,hol,sz,fun dx H2 s2 e2=>k2 dx H2 (s1.trans s2) e2⟩
theorem eS:aL ["house","order","at","e"] ["house","order"] (aq gE):=scM rfl rfl rfl rfl (by decide +kernel)
theorem vV {f fK cS fI:Addr}{fd fdK:FuncData}{bmS:List Value}(F:Fun K "_law_at" "_law_at" gE f fd)(aW:bf P w K mg base (CXd P w) 7 fK fdK ["house","order"] (hJ cS))(aB:Cal K mg "keys_behind" ["house","order"] fK fdK)(hV:mg "NoStep" = some (.ref cS))(x_NoStep:eE K cS fI bmS)(hs:pL K cS "at")(un:mK K cS (.ref cS)):bf P w K mg base CX0 8 f fd ["house","order"] wm:=by
 refine F.ok eS (fun vs H Q E h=>?_) (fun cdv A outer s H vs Q E hr h=>?_)
 ·obtain⟨v,o,h,g,z,rfl,_⟩:=h
  rfl
 ·obtain⟨v,o,h,g,z,rfl,hh,ok,ho,hg,hol,sz,q⟩:=h;refine⟨_,(aj (aD (i:=2) eS.nd rfl (.inl rfl) sj)
   (aj (uk (i:=3) rfl rfl rfl hV x_NoStep eS.nd rfl rfl
    (fun pins xe Eh hx=>au (bO (qV (E:=Eh) aW hr rfl aB.mg aB.kp aB.b .nil (fun _ σ H s ev s' I h=>hx σ H s ev s' I.untried h) (ae (pv 0) (ae (pv 1) ah)))))
    (fun a=>au (aD (i:=2) eS.nd rfl (.inl rfl) (rM (K:=K) (pv 3) (by rfl)))))
   (au (aK (pv 2))))),?_⟩
  try dsimp only [gL,Cx.nox]
  refine⟨_,rfl,_,rfl,v,o,h,g,z,rfl,hh,ok,ho,hg,hol,sz,fun dx H1 s1 e1=>⟨un,fun a na=>?_⟩⟩;refine⟨_,rfl,a,cS,dx,.int (g.length:Nat),rfl,ag,hs,by rw [ai (af e1 na)];exact e1,.inr ⟨_,rfl⟩,?_⟩;exact⟨_,rfl,q _ (s1.trans (az na))⟩
def vP:Sp:=fun vs H Q _=>∃ (v:V) (o:Addr) (h:Hs) (order:List Nat) (z:Int),vs=[v,.ref o,.int z]/\HouseAt H v h/\aS h/\H o=some (.lst (ax order))/\Gone h.1 h.2 order/\order.length < 200/\∀ H':Hp,Same H H'->Q (.bl true) H'
theorem ur {z:Int}(hz:z < 0)(ns:List Nat):inV (.int z) (ax ns)=false:=by
 unfold inV ax
 induction ns with
 | nil=>rfl
 | cons n ns ih =>
  rw [yh,aaA,ih,Bool.or_false];refine xM fun e=>?_;lia
theorem qO {A:Around}{H:Hp}{x y:Addr}{ss:List Str}{Q:VK}(hx:H x=some (.lst (ss.map V.str)))(hy:H y=some (.lst (ss.map V.str)))(kk:∀ k∈ss,aU k)(hu:A.units+1 < cLine)(q:Q (.bl true) H):m8 A false (.ref x) (.ref y) H Q:=by
 have lay:=cI kk;have d1:(PyData.list (ss.map PyData.str)).depth<=1:=by simp only [PyData.depth,dz];decide
 refine⟨.list (ss.map PyData.str),.list (ss.map PyData.str),.lst hx (SeesAll.strs _),.lst hy (SeesAll.strs _),by simp only [PyData.canLay0,lay],by simp only [PyData.canLay0,lay],yG (yI (xE (aae _ _) d1) _) hu,?_⟩;rw [show (if false=true then !PyData.eqv (.list (ss.map PyData.str)) (.list (ss.map PyData.str)) else PyData.eqv (.list (ss.map PyData.str)) (.list (ss.map PyData.str)))=true by simp only [PyData.eqv,h9];rfl];exact q
theorem qS {h:Hs}{g:List Nat}{z:Int}(hn:¬∃ n:Nat,z=n/\n∈aP h.2 (ay h.1 h.2 g) g):oj h g z=false:=by
 cases e:oj h g z with
 | false=>rfl
 | true =>
  unfold oj at e;rw [yu,yu,yu] at e;obtain⟨e0,e1,e2,e3⟩:=e;have z0:=zf e0;exact absurd ⟨z.toNat,by lia,next_iffD.mpr ⟨zf e1,by simpa using e2,e3⟩⟩ hn
theorem jR {h:Hs}(ok:aS h)(order:List Nat):∀ y∈ay h.1 h.2 order,aU y:=jt (fun r hr=>(ok.rs r hr).kk) order h.1 ok.kk
theorem gc:aL ["house","order","room"] ["house","order","room"] (aq bX):=scM rfl rfl rfl rfl (by decide +kernel)
theorem vK {f fN fK fH fA:Addr}{fd fdN fdK fdH fdA:FuncData}(F:Fun K "_law_step_right" "_law_step_right" bX f fd)(aQ:bf P w K mg base CX0 7 fN fdN ["house","order"] eK)(aC:Cal K mg "next_rooms" ["house","order"] fN fdN)(aW:bf P w K mg base CX0 7 fK fdK ["house","order"] ft)(aB:Cal K mg "keys_behind" ["house","order"] fK fdK)
 (fJ:bf P w K mg base CX0 1 fH fdH ["house","order"] mZ)(ck:Cal K mg "_law_held" ["house","order"] fH fdH)(pX:bf P w K mg base CX0 8 fA fdA ["house","order"] wm)(ij:Cal K mg "_law_at" ["house","order"] fA fdA)(bp:mg "len" = none):bf P w K mg base CX0 9 f fd ["house","order","room"] vP:=by
 refine F.ok gc (fun vs H Q E h=>?_) (fun cdv A outer s H vs Q E hr h=>?_)
 ·obtain⟨v,o,h,order,z,rfl,_⟩:=h
  rfl
 ·obtain⟨v,o,h,order,z,rfl,hh,ok,ho,hg,hol,k⟩:=h;have hu:=l7 hr;refine⟨_,(aj (cm (aZ i6 (pv 2) (pcl aQ aC (hr.mono (by decide:7<=8)) rfl (ae (pv 0) (ae (pv 1) ah))) rfl)
   (au (aK (bI ny (pcl aW aB (hr.mono (by decide:7<=8)) rfl (ae (pv 0) (ae (aN gu (pv 1) (a7 (ae (pv 2) ah))) ah))) (pcl fJ ck (hr.mono (by decide:1<=8)) rfl (ae (pv 0) (ae (aN gu (pv 1) (a7 (ae (pv 2) ah))) ah))) (aY _)))) aV)
   (au (aK (bI iC (pcl pX ij hr rfl (ae (pv 0) (ae (aN gu (pv 1) (a7 (ae (pv 2) ah))) ah))) (av aA rfl bp xU (ae (pv 1) ah)) (aY _))))),?_⟩
  refine⟨_,rfl,_,rfl,_,rfl,v,o,h,order,rfl,hh,ok,ho,hg,by lia,fun l H1 s1 nl hl=>⟨l,_,rfl,.inl (aAA hl),rfl,eu _,?_⟩⟩;have hh1:=hh.same s1;have ho1:=s1 _ _ ho;have lz:(ax order).length+1<=sizeLine:=by rw [xn];exact xE (by lia:_<=1000) (by decide)
  by_cases hz:∃ n:Nat,z=n/\n∈aP h.2 (ay h.1 h.2 order) order
  ·obtain⟨n,rfl,hn⟩:=hz;refine⟨true,xQ V.bl (by rw [if_neg (by decide),dI,xK hn]),gz ?_⟩;have eo:ax order++[V.int ((n:Nat):Int)]=ax (order++[n]):=by unfold ax;rw [xR];rfl
   have hg':=hg.snoc hn;have ll:(order++[n]).length<=200:=by rw [xq,y8];lia
   refine⟨_,rfl,_,rfl,_,rfl,by show 1<=sizeLine;decide,fun p1 np1=>⟨o,p1,_,_,rfl,rfl,az np1 _ _ ho1,ag,lz,fun p2 np2=>?_⟩⟩;rw [eo];have s2:Same H1 (upd (upd H1 p1 (.lst [.int ((n:Nat):Int)])) p2 (.lst (ax (order++[n])))):=(az np1).trans (az np2);have h2:(upd (upd H1 p1 (.lst [.int ((n:Nat):Int)])) p2 (.lst (ax (order++[n])))) p2=some (.lst (ax (order++[n]))):=ag;generalize upd (upd H1 p1 (.lst [.int ((n:Nat):Int)])) p2 (.lst (ax (order++[n])))=H2 at s2 h2 ⊢;refine⟨v,p2,h,order++[n],rfl,hh1.same s2,ok,h2,hg',ll,fun l3 ss H3 s3 nl3 hp3 hs3 hl3=>?_⟩;have s13:=s2.trans s3;refine⟨_,rfl,_,rfl,_,rfl,by show 1<=sizeLine;decide,fun p4 np4=>⟨o,p4,_,_,rfl,rfl,az np4 _ _ (s13 _ _ ho1),ag,lz,fun p5 np5=>?_⟩⟩;rw [eo];have s4:Same H3 (upd (upd H3 p4 (.lst [.int ((n:Nat):Int)])) p5 (.lst (ax (order++[n])))):=(az np4).trans (az np5);have h4:(upd (upd H3 p4 (.lst [.int ((n:Nat):Int)])) p5 (.lst (ax (order++[n])))) p5=some (.lst (ax (order++[n]))):=ag;generalize upd (upd H3 p4 (.lst [.int ((n:Nat):Int)])) p5 (.lst (ax (order++[n])))=H4 at s4 h4 ⊢;have s14:=s13.trans s4;refine⟨v,p5,h,order++[n],rfl,hh1.same s14,ok,h4,hg',ll,fun l5 st H5 s5 nl5 hp5 hs5 hl5=>?_⟩;have es:st=ss:=cV hs5 hs3 (hp5.trans hp3.symm);subst es;refine qO (s5 _ _ (s4 _ _ hl3)) hl5 (fun y hy=>jR ok _ y (hp5.mem_iff.mp hy)) hu ?_;exact k H5 (s1.trans (s14.trans s5))
  ·have e0:inV (.int z) (ax (aP h.2 (ay h.1 h.2 order) order))=false:=by
    by_cases z0:0<=z
    ·obtain⟨n,rfl⟩:∃ n:Nat,z=(n:Int):=⟨z.toNat,by lia⟩;rw [dI];exact xM fun q=>hz ⟨n,rfl,q⟩
    ·exact ur (by lia) _
   refine⟨false,xQ V.bl (by rw [if_neg (by decide),e0]),dw ?_⟩;refine⟨_,rfl,_,rfl,_,rfl,by show 1<=sizeLine;decide,fun p1 np1=>⟨o,p1,_,_,rfl,rfl,az np1 _ _ ho1,ag,lz,fun p2 np2=>?_⟩⟩;have s2:Same H1 (upd (upd H1 p1 (.lst [.int z])) p2 (.lst (ax order++[.int z]))):=(az np1).trans (az np2);refine⟨v,p2,h,order,z,rfl,hh1.same s2,ok,ag,hg,hol,qS hz,fun H3 s3=>?_⟩;refine⟨_,rfl,o,_,rfl,.inl (aAA (s3 _ _ (s2 _ _ ho1))),rfl,?_⟩;rw [xn,xK rfl];exact k H3 (s1.trans (s2.trans s3))
def sD:Sp:=fun vs H Q _=>∃ (p:Addr) (v:V) (c:Int) (h:Hs),vs=[.ref p,v]/\aJ H p c/\HouseAt H v h/\aS h/\h.2.length<=60/\0<=c/\c+100 < 1000000 ∧
 ∀ (oA:Addr) (order:List Nat) (c':Int) (H':Hp),H' oA=some (.lst (ax order))->H oA=none->Gone h.1 h.2 order->aP h.2 (ay h.1 h.2 order) order=[]->order.length<=60->aJ H' p c'->c<=c'->c'<=c+60->But p H H'->Q (.ref oA) H'
theorem iH {order:List Nat}{n:Nat}(nd:order.Nodup)(h:∀ i∈order,i < n):order.length<=n:=by
 have:=d4 (U:=List.range n) nd fun x hx=>aam.mpr (h x hx)
 rwa [zX] at this
theorem dn:aL ["pool","house","order","further"] ["pool","house"] (aq eh):=scM rfl rfl rfl rfl (by decide +kernel)
theorem sJ {f fT fN:Addr}{fd fdT fdN:FuncData}(F:Fun K "_law_walk" "_law_walk" eh f fd)(aw:bf P w K mg base CX0 1 fT fdT ["pool","many"] gf)(ar:Cal K mg "_law_take" ["pool","many"] fT fdT)
 (aQ:bf P w K mg base CX0 7 fN fdN ["house","order"] eK)(aC:Cal K mg "next_rooms" ["house","order"] fN fdN)(bp:mg "len" = none):bf P w K mg base CX0 8 f fd ["pool","house"] sD:=by
 refine F.ok dn (fun vs H Q E h=>?_) (fun cdv A outer s H vs Q E hr h=>?_)
 ·obtain⟨p,v,c,h,rfl,_⟩:=h
  rfl
 ·obtain⟨p,v,c,h,rfl,pl,hh,ok,hlen,c0,c1,k⟩:=h;have hu:=l7 hr;have pl0:=pl;obtain⟨o,hp,hpo⟩:=pl;refine⟨_,(aj (aD (i:=2) dn.nd rfl (.inl rfl) (a7 ah))
   (aj (aD (i:=3) dn.nd rfl (.inl rfl) (pcl aQ aC hr rfl (ae (pv 1) (ae (a7 ah) ah))))
   (aj (bu (mJ yF (aZ eX (pv 3) (a7 ah) (aY _))
    (aj (bO (iP yi yS yT cE (pv 2) (ae (aT aM (pv 3) (pcl aw ar (hr.mono (by decide:1<=7)) rfl (ae (pv 0) (ae (av aA rfl bp xU (ae (pv 3) ah)) ah))) (fun _ _=>rfl)) ah)))
    (au (aD (i:=3) dn.nd rfl (.inl rfl) (pcl aQ aC hr rfl (ae (pv 1) (ae (pv 2) ah))))))))
   (au (aK (pv 2)))))),?_⟩
  refine⟨xS _,fun oA nO=>?_⟩;have sO:Same H (upd H oA (.lst [])):=fun b u e=>by rw [ai (af e nO)];exact e
  have hO1:(upd H oA (.lst [])) oA=some (.lst []):=ag;generalize upd H oA (.lst [])=H1 at sO hO1 ⊢;have npO:p≠oA:=af hp nO;refine⟨_,rfl,xS _,fun e0 ne0=>?_⟩;have sE:Same H1 (upd H1 e0 (.lst [])):=fun b u e=>by rw [ai (af e ne0)];exact e
  have hE:(upd H1 e0 (.lst [])) e0=some (.lst (ax [])):=ag;generalize upd H1 e0 (.lst [])=H2 at sE hE ⊢;have s02:=sO.trans sE;refine⟨v,e0,h,[],rfl,hh.same s02,ok,hE,Gone.nil _ _,by decide,fun fA H3 s3 nF hF=>?_⟩;have s03:=s02.trans s3;refine⟨fun σ' H'=>∃ (order:List Nat) (x3:Option V) (c':Int),σ'=[some (.ref p),some v,some (.ref oA),x3]/\H' oA=some (.lst (ax order))/\Gone h.1 h.2 order/\aP h.2 (ay h.1 h.2 order) order=[]/\order.length<=60/\aJ H' p c'/\c<=c'/\c'<=c+60/\But p H H',?_,?_⟩
  ·rintro σ H4 ⟨order,x3,c',rfl,hO4,hg,hst,hol,pl4,g1,g2,b4⟩;exact⟨_,rfl,k oA order c' H4 hO4 nO hg hst hol pl4 g1 g2 b4⟩
  refine⟨fun m σ' H'=>∃ (order:List Nat) (fA:Addr) (c':Int),m=60 - order.length/\σ'=[some (.ref p),some v,some (.ref oA),some (.ref fA)]/\H' oA=some (.lst (ax order))/\H' fA=some (.lst (ax (aP h.2 (ay h.1 h.2 order) order)))/\fA≠p/\Gone h.1 h.2 order/\aJ H' p c'/\c<=c'/\c'<=c+order.length/\But p H H',⟨60,[],fA,c,rfl,rfl,s3 _ _ (sE _ _ hO1),hF,?_,Gone.nil _ _,⟨o,s03 _ _ hp,hpo⟩,zB _,by simp,fun b u _ e=>s03 b u e⟩,?_⟩
  ·intro z;rw [z,s02 _ _ hp] at nF;cases nF
  rintro m σ H4 ⟨order,gA,c4,rfl,rfl,hO4,hG4,ngp,hg,⟨o4,hp4,hpo4⟩,g1,g2,b4⟩;have od:=hg.ord;have hol:order.length<=60:=xE (iH od.nd od.lt) hlen;refine⟨_,rfl,xS _,fun l nl=>?_⟩;have s5:Same H4 (upd H4 l (.lst [])):=fun b u e=>by rw [ai (af e nl)];exact e
  have hl5:(upd H4 l (.lst [])) l=some (.lst []):=ag;generalize upd H4 l (.lst [])=H5 at s5 hl5 ⊢;have hG5:=s5 _ _ hG4;have b5:But p H H5:=fun b u n e=>s5 b u (b4 b u n e);cases hnx:aP h.2 (ay h.1 h.2 order) order with
  | nil =>
   rw [hnx] at hG5;exact qM (ns:=[]) hG5 hl5 hu ⟨false,rfl,dw ⟨order,_,c4,rfl,s5 _ _ hO4,hg,hnx,hol,⟨o4,s5 _ _ hp4,hpo4⟩,g1,by lia,b5⟩⟩
  | cons n0 ns0 =>
   have hG5':H5 gA=some (.lst (ax (n0::ns0))):=by rw [← hnx];exact hG5
   refine kZ hG5' hl5 hu ⟨true,rfl,gz ?_⟩;have llz:(ax (n0::ns0)).length=ns0.length+1:=by rw [xn];rfl
   have lln:ns0.length+1<=1000:=by
    have e1:(aP h.2 (ay h.1 h.2 order) order).length=ns0.length+1:=by rw [hnx];rfl
    have e2:(aP h.2 (ay h.1 h.2 order) order).length<=h.2.length:=by
     unfold aP;exact xE (y9 _ _) (by rw [zX];exact xx _)
    lia
   refine⟨fun σ' H'=>∃ (order':List Nat) (fA:Addr) (c':Int),order'.length=order.length+1/\σ'=[some (.ref p),some v,some (.ref oA),some (.ref fA)]/\H' oA=some (.lst (ax order'))/\H' fA=some (.lst (ax (aP h.2 (ay h.1 h.2 order') order')))/\fA≠p/\Gone h.1 h.2 order'/\aJ H' p c'/\c<=c'/\c'<=c+order'.length/\But p H H',?_,?_⟩
   ·rintro σ' H' ⟨order',fA',c',hl',rfl,q1,q2,q3,q4,q5,q6,q7,q8⟩;have od':=q4.ord;have hol':order'.length<=60:=xE (iH od'.nd od'.lt) hlen;exact⟨60 - order'.length,by lia,order',fA',c',rfl,rfl,q1,q2,q3,q4,q5,q6,q7,q8⟩
   have hO5:=s5 _ _ hO4;refine⟨_,rfl,.inl ⟨rfl,_,aAA hO5⟩,?_⟩;refine⟨_,rfl,_,rfl,_,rfl,gA,_,rfl,.inl (aAA hG5'),p,_,c4,o4,rfl,s5 _ _ hp4,hpo4,by rw [llz];lia,by rw [llz];lia,by lia,by lia,fun q0 c6 o6 z0 z1 g3 g4 hpo6=>?_⟩;obtain⟨qn,rfl⟩:∃ n:Nat,q0=(n:Int):=⟨q0.toNat,by lia⟩;rw [llz] at z1;have hqn:qn < (n0::ns0).length:=by show qn < ns0.length+1;lia
   obtain⟨rm,hrm⟩:∃ x,(n0::ns0)[qn]=x:=⟨_,rfl⟩;have hrmm:rm∈aP h.2 (ay h.1 h.2 order) order:=by rw [hnx];exact hrm▸yy hqn
   have b6:But p H (upd H5 p o6):=b5.trans But.upd;have hp6:(upd H5 p o6) p=some o6:=ag;have hG6:(upd H5 p o6) gA=some (.lst (ax (n0::ns0))):=by rw [ai ngp];exact hG5'
   have hO6:(upd H5 p o6) oA=some (.lst (ax order)):=by rw [ai (xZ npO)];exact hO5
   generalize upd H5 p o6=H6 at b6 hp6 hG6 hO6 ⊢;refine⟨gA,_,(qn:Int),.int (rm:Nat),rfl,rfl,aAA hG6,cf (by rw [xO,xm hqn,hrm];rfl),?_⟩;refine⟨oA,_,_,rfl,rfl,hO6,by rw [xn];exact aH (by lia),?_⟩;have eo:ax order++[V.int ((rm:Nat):Int)]=ax (order++[rm]):=by unfold ax;rw [xR];rfl
   rw [eo];have hg':=hg.snoc hrmm;have od':=hg'.ord;have hol':(order++[rm]).length<=60:=xE (iH od'.nd od'.lt) hlen;have b7:But p H (upd H6 oA (.lst (ax (order++[rm])))):=fun b u n e=>by rw [ai (af e nO)];exact b6 b u n e
   have hp7:(upd H6 oA (.lst (ax (order++[rm])))) p=some o6:=by rw [ai npO];exact hp6
   have hO7:(upd H6 oA (.lst (ax (order++[rm])))) oA=some (.lst (ax (order++[rm]))):=ag;generalize upd H6 oA (.lst (ax (order++[rm])))=H7 at b7 hp7 hO7 ⊢;refine⟨_,rfl,_,rfl,v,oA,h,order++[rm],rfl,hh.but pl0 b7,ok,hO7,hg',by lia,fun f2 H8 s8 nf2 hf8=>?_⟩;refine⟨order++[rm],f2,c6,by simp,rfl,s8 _ _ hO7,hf8,fun z=>?_,hg',⟨o6,s8 _ _ hp7,hpo6⟩,by lia,by rw [xq,y8];lia,fun b u n e=>s8 b u (b7 b u n e)⟩;rw [z,hp7] at nf2;cases nf2
def wM:Sp:=fun vs H Q _=>∃ (p:Addr) (v:V) (o:Addr) (h:Hs) (order:List Nat) (c:Int),vs=[.ref p,v,.ref o]/\aJ H p c/\HouseAt H v h/\aS h/\H o=some (.lst (ax order))/\o≠p/\Gone h.1 h.2 order/\order.length<=60/\0<=c/\c+100 < 1000000 ∧
 ∀ (c':Int) (H':Hp),aJ H' p c'->c<=c'->c'<=c+60->But p H H'->Q (.bl true) H'
theorem nu {A:Around}{H:Hp}{x y:Addr}{ns:List Nat}{Q:VK}(hx:H x=some (.lst (ax ns)))(hy:H y=some (.lst (ax ns)))(hu:A.units+1 < cLine)(q:Q (.bl true) H):m8 A false (.ref x) (.ref y) H Q:=by
 have d1:(PyData.list (ns.map fun i=>PyData.int ((i:Nat):Int))).depth<=1:=by simp only [PyData.depth,gC];decide
 refine⟨.list (ns.map fun i=>PyData.int ((i:Nat):Int)),.list (ns.map fun i=>PyData.int ((i:Nat):Int)),.lst hx (SeesAll.ints _),.lst hy (SeesAll.ints _),by simp only [PyData.canLay0,dG],by simp only [PyData.canLay0,dG],yG (yI (xE (aae _ _) d1) _) hu,?_⟩;rw [show (if false=true then !PyData.eqv (.list (ns.map fun i=>PyData.int ((i:Nat):Int))) (.list (ns.map fun i=>PyData.int ((i:Nat):Int))) else PyData.eqv (.list (ns.map fun i=>PyData.int ((i:Nat):Int))) (.list (ns.map fun i=>PyData.int ((i:Nat):Int))))=true by simp only [PyData.eqv,jT];rfl];exact q
theorem rE {h:Hs}{hd:List Str}{o:List Nat}:(aP h.2 hd o).length<=h.2.length:=by
 unfold aP;exact xE (y9 _ _) (by rw [zX];exact xx _)
theorem pA {l L:List Nat}(nd:l.Nodup)(sb:∀ x∈l,x∈L)(le:L.length<=l.length):l.Perm L:=by
 obtain⟨r,hr⟩:=mM nd sb;have e:=hr.length_eq;rw [xq] at e;have er:r=[]:=aat (by lia);rw [er,yg] at hr;exact hr
inductive MrI (p:Addr)(v:V)(o:Addr)(h:Hs)(order:List Nat)(c:Int)(H:Hp)(i:Nat)(σ':L2.St)(H':Hp):Prop
 | mk (l:Addr) (other:List Nat) (c':Int) (x4 x5:Option V):σ'=[some (.ref p),some v,some (.ref o),some (.ref l),x4,x5]->H l=none->H' l=some (.lst (ax other))->Gone h.1 h.2 other->(∀ x∈other,x∈order)->other.length<=i->aJ H' p c'->c<=c'->c'<=c+i->But p H H'->MrI p v o h order c H i σ' H'
theorem bx:aL ["pool","house","order","other","turn","further"] ["pool","house","order"] (aq bC):=scM rfl rfl rfl rfl (by decide +kernel)
theorem d7:(["room","order"]:List Str).Nodup:=by decide +kernel
theorem vJ {f fN fK fT:Addr}{fd fdN fdK fdT:FuncData}(F:Fun K "_law_mixed_right" "_law_mixed_right" bC f fd)(aw:bf P w K mg base CX0 1 fT fdT ["pool","many"] gf)(ar:Cal K mg "_law_take" ["pool","many"] fT fdT)(aQ:bf P w K mg base CX0 7 fN fdN ["house","order"] eK)(aC:Cal K mg "next_rooms" ["house","order"] fN fdN)(aW:bf P w K mg base CX0 7 fK fdK ["house","order"] ft)(aB:Cal K mg "keys_behind" ["house","order"] fK fdK)
 (bp:mg "len" = none)(bw:mg "range" = none):bf P w K mg base CX0 9 f fd ["pool","house","order"] wM:=by
 refine F.ok bx (fun vs H Q E h=>?_) (fun cdv A outer s H vs Q E hr h=>?_)
 ·obtain⟨p,v,o,h,order,c,rfl,_⟩:=h
  rfl
 ·obtain⟨p,v,o,h,order,c,rfl,pl,hh,ok,ho,nop,hg,hol,c0,c1,k⟩:=h;have hu:=l7 hr;refine⟨_,(aj (aD (i:=3) bx.nd rfl (.inl rfl) (a7 ah))
   (aj (bu (dZ yF rfl (bL rfl bw (ae (av aA rfl bp xU (ae (pv 2) ah)) ah)) (aF (i:=4) bx.nd rfl (.inl rfl))
    (aj (lB (i:=5) (tg:=.Name "room" _) (outer:=aq (bC)) (N:=["pool","house","order","other","turn","further"]) (N':=["room","order"]) (nl:=1) (ix:=[2]) bx.nd rfl (.inl rfl) rfl rfl rfl (cF (pcl aQ aC (hr.mono (by decide:7<=8)) rfl (ae (pv 1) (ae (pv 3) ah))))
    (fun _ _ _ _=>(aF (i:=0) d7 rfl (.inl rfl) (.inr rfl))) (fun _ _ _ _=>(iE (aZ (oE (K:=K) rfl) (pv 0) (pv 1) rfl)))
    (fun _ _ _ _=>(pv 0)))
    (au (bu (cm (aZ eX (pv 5) (a7 ah) (aY _))
     (au (bO (iP yi yS yT cE (pv 3) (ae (aT aM (pv 5) (pcl aw ar (hr.mono (by decide:1<=8)) rfl (ae (pv 0) (ae (av aA rfl bp xU (ae (pv 5) ah)) ah))) (fun _ _=>rfl)) ah)))) aV))))))
   (aj (cm (aZ rj (av aA rfl bp xU (ae (pv 3) ah)) (av aA rfl bp xU (ae (pv 2) ah)) (aY _))
    (au (aK gy)) aV)
   (aj (cm (aZ eX (pcl aW aB (hr.mono (by decide:7<=8)) rfl (ae (pv 1) (ae (pv 3) ah))) (pcl aW aB (hr.mono (by decide:7<=8)) rfl (ae (pv 1) (ae (pv 2) ah))) (aY _))
    (au (aK gy)) aV)
   (au (aK (bI ny (pcl aQ aC (hr.mono (by decide:7<=8)) rfl (ae (pv 1) (ae (pv 3) ah))) (pcl aQ aC (hr.mono (by decide:7<=8)) rfl (ae (pv 1) (ae (pv 2) ah))) (aY _)))))))),?_⟩
  refine⟨xS _,fun l0 n0=>?_⟩;have s1:Same H (upd H l0 (.lst [])):=az n0;have e1:(upd H l0 (.lst [])) l0=some (.lst (ax [])):=ag;generalize upd H l0 (.lst [])=H1 at s1 e1 ⊢;have np:∀ {b:Addr},H b=none->b≠p:=fun {b} n z=>by
   obtain⟨o,e,_⟩:=pl;rw [z,e] at n;cases n
  refine⟨fun σ' H'=>MrI p v o h order c H order.length σ' H',?_,?_⟩;rotate_left
  ·refine⟨_,rfl,o,_,rfl,.inl (aAA (s1 _ _ ho)),_,rfl,by rw [xn];lia,by rw [xn];lia,?_⟩;rw [xn,yf];refine dC (fun i σ' H'=>MrI p v o h order c H i σ' H') ⟨l0,[],c,_,_,rfl,n0,e1,Gone.nil _ _,fun x hx=>absurd hx yP,xx _,bQ pl s1,zB _,by lia,cv s1⟩ ?_ (fun σ H z=>z);rintro i σ H3 hi ⟨l,other,c',x4,x5,rfl,no,hl3,hgo,sb,hol3,pl3,w1,w2,B⟩;have hh3:=hh.but pl B;have ho3:=B _ _ nop ho;dsimp only [dh,oF,qy];refine bE _ _ _ _ _ _ _ _ _ ?_;refine⟨_,rfl,_,rfl,v,l,h,other,rfl,hh3,ok,hl3,hgo,by lia,fun n H4 s4 nn hn4=>⟨n,rfl,⟨_,aAA hn4⟩,?_⟩⟩;intro D hD;have hmem:∀ j∈aP h.2 (ay h.1 h.2 other) other,Gone h.1 h.2 (other++[j]):=fun j hj=>hgo.snoc hj;have nl:(aP h.2 (ay h.1 h.2 other) other).length<=1000:=xE rE ok.rl;generalize aP h.2 (ay h.1 h.2 other) other=ns at hn4 hmem nl ⊢;refine cD (xs:=ax ns) (fun j ys H'=>ys=ax ((ns.take j).filter fun m=>decide (m∈order))/\H' D=some (.lst ys)/\Same H4 H') ⟨rfl,ag,az hD⟩ (fun j ys H' ⟨_,h,_⟩=>h) (fun j ys H' ⟨_,_,s⟩=>aAA (s _ _ hn4)) ?_ ?_
   ·rintro j ys H5 x hx ⟨rfl,hD5,s5⟩;have hj:=(xp.mp hx).1;have hj':=hj;rw [xn] at hj';rw [xO,xm hj'] at hx;cases hx;have ej:ns[j]? = some ns[j]:=xm hj';generalize ns[j]=m at ej ⊢;refine gd rfl ?_;refine⟨_,rfl,_,rfl,o,_,rfl,.inl (aAA (s5 _ _ (s4 _ _ ho3))),rfl,eu _,?_⟩;by_cases hm:m∈order
    ·refine⟨true,xQ V.bl (by rw [if_neg (by decide),dI,xK hm]),gz ?_⟩;refine⟨_,rfl,hD5,?_,nx hj ⟨?_,ag,fun b u e=>?_⟩⟩
     ·rw [xn];exact aH (xE (y9 _ _) (xE (by rw [xN];lia) nl))
     ·rw [yn,ej];show _=ax (List.filter _ (ns.take j++[m]));rw [zz,zv,if_pos (xK hm),zW];unfold ax;rw [xR]
      rfl
     ·rw [ai (af e hD)];exact s5 b u e
    ·refine⟨false,xQ V.bl (by rw [if_neg (by decide),dI,xM hm]),dw ?_⟩;refine nx hj ⟨?_,hD5,s5⟩;rw [yn,ej];show _=ax (List.filter _ (ns.take j++[m]));rw [zz,zv,if_neg (by simpa using hm),zW,yg]
   ·rintro ys H5 ⟨rfl,hD5,s5⟩;rw [xn,yv] at hD5;have s35:=s4.trans s5;refine⟨fun σ' H'=>MrI p v o h order c H (i+1) σ' H',fun σ' H' z=>z,?_⟩;refine⟨_,rfl,xS _,fun e ne=>?_⟩;have s6:Same H5 (upd H5 e (.lst [])):=az ne;have e6:(upd H5 e (.lst [])) e=some (.lst []):=ag;generalize upd H5 e (.lst [])=H6 at s6 e6 ⊢;have s36:=s35.trans s6;have hD6:=s6 _ _ hD5;refine lY hD6 e6 (fun x hx=>.inr (by obtain⟨j,_,rfl⟩:=List.mem_map.mp hx;exact⟨_,rfl⟩)) hu ?_;refine⟨_,rfl,?_⟩;have fm:∀ j∈ns.filter (fun m=>decide (m∈order)),j∈order/\Gone h.1 h.2 (other++[j]):=fun j hj=>by
     obtain⟨a,b⟩:=z9.mp hj;exact⟨zf b,hmem j a⟩
    have fl:(ns.filter fun m=>decide (m∈order)).length<=1000:=xE (y9 _ _) nl;have nDp:D≠p:=fun z=>by
     obtain⟨o3,e3,_⟩:=pl3;have:=s4 _ _ e3;rw [z,this] at hD;cases hD
    generalize ns.filter (fun m=>decide (m∈order))=fs at hD6 fm fl ⊢;cases fs with
    | nil=>exact⟨l,other,c',_,_,rfl,no,s36 _ _ hl3,hgo,sb,by lia,bQ pl3 s36,w1,by lia,B.trans (cv s36)⟩
    | cons n0 ns0 =>
    obtain⟨o6,hp6,io6⟩:=bQ pl3 s36;have hl6:=s36 _ _ hl3;have nll:((ax (n0::ns0)).length:Int)<=1000:=by rw [xn];lia
    refine⟨_,rfl,.inl ⟨rfl,_,aAA hl6⟩,_,rfl,_,rfl,_,rfl,D,_,rfl,.inl (aAA hD6),p,_,c',o6,rfl,hp6,io6,by rw [xn];simp,by lia,by lia,by lia,fun q c7 o7 q0 q1 g3 g4 io7=>?_⟩;obtain⟨j,rfl⟩:∃ j:Nat,q=(j:Int):=⟨q.toNat,by lia⟩;rw [xn] at q1;have hj:j < (n0::ns0).length:=by lia
    have hD7:(upd H6 p o7) D=some (.lst (ax (n0::ns0))):=by rw [ai nDp];exact hD6
    have hl7:(upd H6 p o7) l=some (.lst (ax other)):=by rw [ai (np no)];exact hl6
    have hp7:(upd H6 p o7) p=some o7:=ag;have B7:But p H (upd H6 p o7):=(B.trans (cv s36)).trans But.upd;generalize upd H6 p o7=H7 at hD7 hl7 hp7 B7 ⊢;refine⟨D,_,(j:Int),.int ((n0::ns0)[j]:Nat),rfl,rfl,aAA hD7,cf (by rw [xO,xm hj];rfl),?_⟩;obtain⟨f1,f2⟩:=fm _ (yy hj);refine⟨l,_,_,rfl,rfl,hl7,by rw [xn];exact aH (by lia),?_⟩;refine⟨l,other++[(n0::ns0)[j]],c7,_,_,rfl,no,?_,f2,fun x hx=>?_,by rw [xq,y8];lia,⟨o7,?_,io7⟩,by lia,by lia,fun b u n e=>?_⟩
    ·rw [ag];unfold ax;rw [xR];rfl
    ·rcases xG.mp hx with z | z
     ·exact sb x z
     ·rw [xr.mp z];exact f1
    ·rw [ai (xZ (np no))];exact hp7
    ·rw [ai (af e no)];exact B7 b u n e
  rintro σ H3 ⟨l,other,c',x4,x5,rfl,no,hl3,hgo,sb,hol3,pl3,w1,w2,B⟩;have hh3:=hh.but pl B;have ho3:=B _ _ nop ho;have od:=hgo.ord;have kk:=fun H4 (s:Same H3 H4)=>k c' H4 (bQ pl3 s) w1 (by lia) (B.trans (cv s));by_cases lt:other.length < order.length
  ·refine⟨_,rfl,l,_,rfl,.inl (aAA hl3),_,rfl,o,_,rfl,.inl (aAA ho3),_,_,rfl,rfl,true,xQ V.bl (xK (by rw [xn,xn];lia)),gz ?_⟩;exact kk _ (Same.refl _)
  refine⟨_,rfl,l,_,rfl,.inl (aAA hl3),_,rfl,o,_,rfl,.inl (aAA ho3),_,_,rfl,rfl,false,xQ V.bl (xM (by rw [xn,xn];lia)),dw ?_⟩;have pm:other.Perm order:=pA od.nd sb (by lia);have ph:=nI hgo hg pm;refine⟨_,rfl,_,rfl,v,l,h,other,rfl,hh3,ok,hl3,hgo,by lia,fun a1 ss H4 s4 n4 p4 q4 e4=>?_⟩;refine⟨_,rfl,_,rfl,v,o,h,order,rfl,hh3.same s4,ok,s4 _ _ ho3,hg,by lia,fun a2 st H5 s5 n5 p5 q5 e5=>?_⟩;have es:st=ss:=cV q5 q4 (p5.trans (ph.symm.trans p4.symm));subst es;refine jM (s5 _ _ e4) e5 (fun y hy=>jR ok _ y (p5.mem_iff.mp hy)) hu ⟨false,rfl,dw ?_⟩;have s35:=s4.trans s5;refine⟨_,rfl,_,rfl,v,l,h,other,rfl,hh3.same s35,ok,s35 _ _ hl3,hgo,by lia,fun b1 H6 s6 n6 e6=>?_⟩;have s36:=s35.trans s6;refine⟨_,rfl,_,rfl,v,o,h,order,rfl,hh3.same s36,ok,s36 _ _ ho3,hg,by lia,fun b2 H7 s7 n7 e7=>?_⟩;rw [oi ph pm] at e6;exact nu (s7 _ _ e6) e7 hu (kk H7 (s36.trans s7))
def Off (Z:List Addr)(H H':Hp):Prop:=∀ b u,b ∉ Z->H b=some u->H' b=some u
theorem Off.refl (Z:List Addr)(H:Hp):Off Z H H:=fun _ _ _ e=>e
theorem Off.trans {Z:List Addr}{H H1 H2:Hp}(a:Off Z H H1)(b:Off Z H1 H2):Off Z H H2:=fun c u n e=>b c u n (a c u n e)
theorem Off.upd {Z:List Addr}{H:Hp}{a:Addr}{o:HO}(h:a∈Z):Off Z H (L2.upd H a o):=fun b u n e=>by
 have hn:b≠a:=fun z=>n (by rw [z];exact h);rw [ai hn];exact e
theorem Off.new {Z:List Addr}{H:Hp}{a:Addr}{o:HO}(h:H a=none):Off Z H (L2.upd H a o):=fun b u n e=>by rw [ai (af e h)];exact e
theorem Off.wide {Z:List Addr}{H H':Hp}{a:Addr}(h:Off Z H H'):Off (a::Z) H H':=fun b u n e=>h b u (fun z=>n (xu _ z)) e
structure mO (nm:List Str)(r:Rm):Prop where
 lk:∀ x∈r.1,x∈nm
 l1:1<=r.1.length
 l2:r.1.length<=2
 so:r.1.Pairwise leS
 kk:∀ x∈r.2,x∈nm
 kl:r.2.length<=2
def GoodV (Z:List Addr)(nm:List Str)(H:Hp)(v:V):Prop:=∃ (r:Rm) (t a b:Addr),v=.ref t/\t ∉ Z/\a ∉ Z/\b ∉ Z/\H t=some (.tup [.ref a,.ref b])/\H a=some (.lst (r.1.map V.str))/\H b=some (.lst (r.2.map V.str))/\mO nm r
theorem GoodV.on {Z:List Addr}{nm:List Str}{H H':Hp}{v:V}(h:GoodV Z nm H v)(o:Off Z H H'):GoodV Z nm H' v:=by
 obtain⟨r,t,a,b,e,n1,n2,n3,h1,h2,h3,g⟩:=h;exact⟨r,t,a,b,e,n1,n2,n3,o _ _ n1 h1,o _ _ n2 h2,o _ _ n3 h3,g⟩
theorem GoodV.wide {Z:List Addr}{nm:List Str}{H:Hp}{v:V}{l:Addr}(h:GoodV Z nm H v)(o:H l=none):GoodV (l::Z) nm H v:=by
 obtain⟨r,t,a,b,e,n1,n2,n3,h1,h2,h3,g⟩:=h;have w:∀ {x u},x ∉ Z->H x=some u->x ∉ l::Z:=fun n q z=>(xA.mp z).elim (fun z=>af q o z) n;exact⟨r,t,a,b,e,w n1 h1,w n2 h2,w n3 h3,h1,h2,h3,g⟩
theorem nD {Z:List Addr}{nm:List Str}{H:Hp}:∀ {ys:List V},(∀ v∈ys,GoodV Z nm H v)->∃ rs:List Rm,RoomsAt H ys rs/\∀ r∈rs,mO nm r
 | [],_=>⟨[],⟨rfl,fun i v r e=>by simp at e⟩,fun r h=>nomatch h⟩
 | y::ys,h=>by
  obtain⟨rs,hr,hg⟩:=nD (ys:=ys) fun v hv=>h v (xu _ hv);obtain⟨r,t,a,b,e,_,_,_,h1,h2,h3,g⟩:=h y xD;refine⟨r::rs,⟨by simp [hr.1],fun i v r' e1 e2=>?_⟩,fun r' hr'=>?_⟩
  ·cases i with
   | zero =>
    simp only [List.getElem?_cons_zero,Option.some.injEq] at e1 e2;subst e1 e2;exact⟨t,a,b,e,h1,h2,h3⟩
   | succ i =>
    simp only [List.getElem?_cons_succ] at e1 e2;exact hr.2 i v r' e1 e2
  ·rcases xA.mp hr' with z | z
   ·rw [z];exact g
   ·exact hg r' z
theorem kh {nm:List Str}{i:Int}(h1:-(nm.length:Int)<=i)(h2:i < nm.length):∃ y∈nm,atI (nm.map V.str) i=some (.str y):=by
 unfold atI ixN;rw [xn];by_cases h:0<=i
 ·rw [if_pos h,if_pos h2];have hj:i.toNat < nm.length:=by lia
  refine⟨nm[i.toNat],yy hj,?_⟩;show (nm.map V.str)[i.toNat]? = _;rw [xO,xm hj]
  rfl
 ·rw [if_neg h,if_pos h1];have hj:(i+nm.length).toNat < nm.length:=by lia
  refine⟨nm[(i+nm.length).toNat],yy hj,?_⟩;show (nm.map V.str)[(i+nm.length).toNat]? = _;rw [xO,xm hj]
  rfl
def tM (z:Str):Bool:=decide (1<=z.length) && decide (z.length<=4) && z.cps.toList.all fun c=>decide (97<=c) && decide (c<=122)
theorem qT {z:Str}(h:tM z=true):aU z:=by
 unfold tM at h;rw [yu,yu,aah,aah,yW] at h;refine⟨h.1.1,h.1.2,fun c hc=>?_⟩;have:=h.2 c hc;rw [yu,aah,aah] at this;exact this
theorem tU (i:Nat)(h:i<=60):aU (Txt.mul ⟨#[97+i % 26]⟩ ((1+i / 26:Nat):Int)):=by
 have all:∀ k:_root_.Fin 61,tM (Txt.mul ⟨#[97+k.val % 26]⟩ ((1+k.val / 26:Nat):Int))=true:=by decide +kernel
 exact qT (all ⟨i,by lia⟩)
theorem jZ (y:Str)(n:Nat):(List.replicate n [V.str y]).flatten=(List.replicate n y).map V.str:=by
 induction n with
 | zero=>rfl
 | succ n ih=>rw [yY,yR,ih,yY];rfl
def p6:Sp:=fun vs H Q _=>∃ (p:Addr) (most:Nat) (c:Int),vs=[.ref p,.int most]/\aJ H p c/\1<=most/\most<=60/\0<=c/\c+1000 < 1000000 ∧
 ∀ (v:V) (h:Hs) (c':Int) (H':Hp),HouseAt H' v h->aS h->nq h->h.2.length<=most->h.1.length<=276->aJ H' p c'->c<=c'->c'<=c+1000->But p H H'->Q v H'
theorem aO:aL ["pool","most","many","names","k","rooms","broken","locks","keys","begin","left"] ["pool","most"] (aq cJ):=scM rfl rfl rfl rfl (by decide +kernel)
theorem iJ:(["k","left","pool"]:List Str).Nodup:=by decide +kernel
theorem rZ {f fT:Addr}{fd fdT:FuncData}(F:Fun K "_law_chain" "_law_chain" cJ f fd)(aw:bf P w K mg base CX0 1 fT fdT ["pool","many"] gf)(ar:Cal K mg "_law_take" ["pool","many"] fT fdT)
 (jb:mg "int" = none)(bp:mg "len" = none)(bU:mg "list" = none)(bw:mg "range" = none)(a9:mg "sorted" = none) :
 bf P w K mg base CX0 2 f fd ["pool","most"] p6:=by
 refine F.ok aO (fun vs H Q E h=>?_) (fun cdv A outer s H vs Q E hr h=>?_)
 ·obtain⟨p,n,c,rfl,_⟩:=h
  rfl
 ·obtain⟨p,most,c,rfl,⟨o,hp,hpo⟩,hm1,hm2,hc,hcn,k⟩:=h;refine⟨_,(aj (aD (i:=2) aO.nd rfl (.inl rfl) (aN bH ao (pcl aw ar hr rfl (ae (pv 0) (ae (pv 1) ah)))))
   (aj (aD (i:=3) aO.nd rfl (.inl rfl) (a7 ah))
   (aj (bu (dZ yF rfl (bL rfl bw (ae (aN bH (pv 2) ao) ah)) (aF (i:=4) aO.nd rfl (.inl rfl))
    (au (bO (iP yi yS yT cE (pv 3) (ae (aN nH (aT jw iL (aN ip (pv 4) ao) (fun _ _=>rfl)) (aN bH ao (aN jG (pv 4) ao))) ah))))))
   (aj (bu (aD (i:=5) aO.nd rfl (.inl rfl) (a7 ah)))
   (aj (aD (i:=6) aO.nd rfl (.inl rfl) (pcl aw ar hr rfl (ae (pv 0) (ae (aN gX ao (pv 2)) ah))))
   (aj (bu (dZ yF rfl (bL rfl bw (ae (pv 2) ah)) (aF (i:=4) aO.nd rfl (.inl rfl))
    (aj (bu (aD (i:=7) aO.nd rfl (.inl rfl) (av fG rfl a9 aak (ae (aN gu (a7 (ae (aT aM (pv 3) (pv 4) (fun _ _=>rfl)) ah)) (aN mH (a7 (ae (aT aM (pv 3) (aN kP (pv 4) ao) (fun _ _=>rfl)) ah)) (bV iy rfl jb (by decide +kernel) (ae (dW (bI ve (pv 4) ao (aY _)) (gS (bI iC (pcl aw ar hr rfl (ae (pv 0) (ae ao ah))) ao (aY _)))) ah)))) ah))))
    (aj (bu (aD (i:=8) aO.nd rfl (.inl rfl) (aN gu (aN mH (a7 (ae (aT aM (pv 3) (aN bH (pv 4) ao) (fun _ _=>rfl)) ah)) (bV iy rfl jb (by decide +kernel) (ae (bI rf (pv 4) (pv 6) (aY _)) ah))) (aN mH (a7 (ae (aT aM (pv 3) (pcl aw ar hr rfl (ae (pv 0) (ae (aN bH (pv 4) ao) ah))) (fun _ _=>rfl)) ah)) (pcl aw ar hr rfl (ae (pv 0) (ae ao ah)))))))
    (au (bO (iP yi yS yT cE (pv 5) (ae (kO (ae (pv 7) (ae (pv 8) ah))) ah))))))))
   (aj (aD (i:=9) aO.nd rfl (.inl rfl) (aN mH (a7 (ae (aT aM (pv 3) ao (fun _ _=>rfl)) ah)) (pcl aw ar hr rfl (ae (pv 0) (ae ao ah)))))
   (aj (aD (i:=10) aO.nd rfl (.inr rfl) (bV cy rfl bU (by decide +kernel) (ae (pv 5) ah)))
   (aj (bu (lB (i:=5) (tg:=.Name "k" _) (outer:=aq (cJ)) (N:=["pool","most","many","names","k","rooms","broken","locks","keys","begin","left"]) (N':=["k","left","pool"]) (nl:=1) (ix:=[10,0]) aO.nd rfl (.inl rfl) rfl rfl rfl (bL rfl bw (ae (pv 2) ah))
    (fun _ _ _ _=>(aF (i:=0) iJ rfl (.inl rfl) (.inr rfl))) (fun _ _ _ _=>dJ)
    (fun _ _ _ _=>(px (K:=K) rfl yi PySem.F.slot_list_pop PySem.F.type_list_pop rh (pv 1) (ae (pcl aw ar hr rfl (ae (pv 2) (ae (av (eI (K:=K) rfl) rfl bp xU (ae (pv 1) ah)) ah))) ah)))))
   (au (aK (kO (ae (pv 9) (ae (pv 5) ah)))))))))))))),?_⟩
  refine⟨_,rfl,_,rfl,p,_,c,o,rfl,hp,hpo,by lia,by lia,hc,by lia,fun q0 c1 o1 z0 z1 g1 g2 hpo1=>?_⟩;obtain⟨mn,emn⟩:∃ n:Nat,1+q0=(n:Int):=⟨(1+q0).toNat,by lia⟩;refine⟨1,q0,rfl,rfl,?_⟩;dsimp only;rw [emn];have hmn1:1<=mn:=by lia
  have hmn2:mn<=most:=by lia
  have b1:But p H (upd H p o1):=But.upd;have hp1:(upd H p o1) p=some o1:=ag;generalize upd H p o1=H1 at b1 hp1 ⊢;refine⟨xS _,fun nA nN=>?_⟩;have npn:p≠nA:=af hp1 nN;have sN:∀ o,Same H1 (upd H1 nA o):=fun o b u e=>by rw [ai (af e nN)];exact e
  refine⟨fun σ' H'=>∃ (x4:Option V) (nm:List Str),σ'=[some (.ref p),some (.int most),some (.int mn),some (.ref nA),x4,none,none,none,none,none,none]/\nm.length=mn+1/\(∀ x∈nm,aU x)/\H' nA=some (.lst (nm.map V.str))/\Same H1 H',?_,?_⟩;rotate_left
  ·refine⟨_,rfl,(mn:Int),1,rfl,rfl,((mn+1:Nat):Int),rfl,by lia,by lia,?_⟩;rw [yf];refine dC (n:=mn+1) (fun i σ' H'=>∃ (x4:Option V) (nm:List Str),σ'=[some (.ref p),some (.int most),some (.int mn),some (.ref nA),x4,none,none,none,none,none,none]/\nm.length=i/\(∀ x∈nm,aU x)/\H' nA=some (.lst (nm.map V.str))/\Same H1 H') ⟨_,[],rfl,rfl,(fun x h=>nomatch h),ag,sN _⟩ ?_ ?_;rotate_left
   ·intro σ' H' h;exact h
   rintro i σ H2 hi ⟨x4,nm,rfl,hl,hk,hn2,s2⟩;refine⟨_,rfl,.inl ⟨rfl,_,aAA hn2⟩,_,rfl,_,26,rfl,rfl,(show (0:Int) < 26 by decide),lettersS,_,97+i % 26,rfl,rfl,cn,?_,_,rfl,_,26,rfl,rfl,⟨by decide,by decide⟩,1,_,rfl,rfl,⟨#[97+i % 26]⟩,((1+i / 26:Nat):Int),rfl,?_,by lia,by lia,(show 1<=1000 by decide),nA,_,_,rfl,rfl,hn2,?_,?_⟩
   ·rw [show ((0+(i:Int)) % 26)=((i % 26:Nat):Int) by lia];exact cO _ (by lia)
   ·exact xQ V.int (by lia)
   ·rw [xn];exact aH (by lia)
   refine⟨_,nm++[Txt.mul ⟨#[97+i % 26]⟩ ((1+i / 26:Nat):Int)],rfl,by rw [xq,hl];rfl,fun x hx=>?_,?_,fun b u e=>?_⟩
   ·rcases xG.mp hx with hx | hx
    ·exact hk x hx
    ·rw [xr.mp hx];exact tU i (by lia)
   ·rw [ag,xR];rfl
   ·rw [ai (af e nN)];exact s2 b u e
  rintro σ H2 ⟨x4,nm,rfl,hnl,hnk,hn2,s2⟩;have b2:But p H H2:=b1.trans fun b u _ e=>s2 b u e;have hp2:=s2 _ _ hp1;refine⟨fun σ' H'=>∃ rA:Addr,σ'=[some (.ref p),some (.int most),some (.int mn),some (.ref nA),x4,some (.ref rA),none,none,none,none,none]/\H2 rA=none/\H' rA=some (.lst [])/\Same H2 H',?_,?_⟩;rotate_left
  ·exact⟨xS _,fun rA nR=>⟨rA,rfl,nR,ag,fun b u e=>by rw [ai (af e nR)];exact e⟩⟩
  rintro σ H3 ⟨rA,rfl,nR,hr3,s3⟩;have npr:p≠rA:=af hp2 nR;have nnr:nA≠rA:=af hn2 nR;have hp3:=s3 _ _ hp2;refine⟨_,rfl,_,rfl,2,(mn:Int),rfl,rfl,.inl ⟨by decide,by decide⟩,p,_,c1,o1,rfl,hp3,hpo1,by lia,by lia,by lia,by lia,fun br c2 o2 y0 y1 g3 g4 hpo2=>?_⟩;have b3:But p H2 (upd H3 p o2):=fun b u n e=>by rw [ai n];exact s3 b u e
  have hp4:(upd H3 p o2) p=some o2:=ag;have hr4:(upd H3 p o2) rA=some (.lst []):=by rw [ai (xZ npr)];exact hr3
  generalize upd H3 p o2=H4 at b3 hp4 hr4 ⊢;have hn4:=b3 _ _ (xZ npn) hn2;refine⟨fun σ' H'=>∃ (x4 x7 x8:Option V) (vs:List V) (c':Int),σ'=[some (.ref p),some (.int most),some (.int mn),some (.ref nA),x4,some (.ref rA),some (.int br),x7,x8,none,none]/\H' rA=some (.lst vs)/\vs.length=mn/\(∀ v∈vs,GoodV [rA,p] nm H' v)/\aJ H' p c'/\c2<=c'/\c'<=c2+3 * mn/\Off [rA,p] H4 H',?_,?_⟩
  ·rintro σ H5 ⟨x4',x7,x8,vs,c5,rfl,hr5,hvl,hgv,⟨o5,hp5,hpo5⟩,g5,g6,b5⟩;have zr:rA∈[rA,p]:=xD;have zp:p∈[rA,p]:=xu _ xD;have nz:nA ∉ [rA,p]:=fun z=>by
    rcases xA.mp z with z | z
    ·exact nnr z
    ·exact npn (xr.mp z).symm
   have hn5:=b5 _ _ nz hn4;obtain⟨ya,hya,ea⟩:=kh (nm:=nm) (i:=0) (by lia) (by lia);refine⟨_,rfl,nA,_,0,_,rfl,rfl,aAA hn5,ea,by show 1<=sizeLine;decide,fun l1 n1=>?_⟩;have np1:p≠l1:=af hp5 n1;have b6:Off [rA,p] H5 (upd H5 l1 (.lst [.str ya])):=Off.new n1;have hp6:(upd H5 l1 (.lst [.str ya])) p=some o5:=by rw [ai np1];exact hp5
   have h16:(upd H5 l1 (.lst [.str ya])) l1=some (.lst [.str ya]):=ag;have hr6:(upd H5 l1 (.lst [.str ya])) rA=some (.lst vs):=by rw [ai (af hr5 n1)];exact hr5
   generalize upd H5 l1 (.lst [.str ya])=H6 at b6 hp6 h16 hr6 ⊢;refine⟨_,rfl,p,3,c5,o5,rfl,hp6,hpo5,by decide,by decide,by lia,by lia,fun q c7 o7 q0 q1 g7 g8 hpo7=>?_⟩;obtain⟨qn,rfl⟩:∃ n:Nat,q=(n:Int):=⟨q.toNat,by lia⟩;have b7:Off [rA,p] H6 (upd H6 p o7):=Off.upd zp;have hp7:(upd H6 p o7) p=some o7:=ag;have h17:(upd H6 p o7) l1=some (.lst [.str ya]):=by rw [ai (xZ np1)];exact h16
   have hr7:(upd H6 p o7) rA=some (.lst vs):=by rw [ai (xZ npr)];exact hr6
   generalize upd H6 p o7=H7 at b7 hp7 h17 hr7 ⊢;refine⟨l1,_,_,rfl,rfl,h17,by lia,by lia,?_,fun bA nB=>?_⟩
   ·rw [yf];exact xE (by simp;lia:_<=2) (by decide:2<=sizeLine)
   rw [yf,jZ];have npB:p≠bA:=af hp7 nB;have b8:Off [rA,p] H7 (upd H7 bA (.lst ((List.replicate qn ya).map V.str))):=Off.new nB;have hp8:(upd H7 bA (.lst ((List.replicate qn ya).map V.str))) p=some o7:=by rw [ai npB];exact hp7
   have hB8:(upd H7 bA (.lst ((List.replicate qn ya).map V.str))) bA=some (.lst ((List.replicate qn ya).map V.str)):=ag;have hr8:(upd H7 bA (.lst ((List.replicate qn ya).map V.str))) rA=some (.lst vs):=by rw [ai (af hr7 nB)];exact hr7
   generalize upd H7 bA (.lst ((List.replicate qn ya).map V.str))=H8 at b8 hp8 hB8 hr8 ⊢;have b58:=b6.trans (b7.trans b8);have nBr:bA≠rA:=fun z=>by rw [z,hr7] at nB;cases nB
   refine⟨_,rfl,rA,_,rfl,.inl (aAA hr8),fun lA nL=>?_⟩;have npL:p≠lA:=af hp8 nL;have nBL:bA≠lA:=af hB8 nL;have gv8:∀ v∈vs,GoodV [lA,rA,p] nm H8 v:=fun v hv=>((hgv v hv).on b58).wide nL;have b48:Off [rA,p] H4 H8:=b5.trans b58;have nL4:H4 lA=none:=by
    cases e:H4 lA with
    | none=>rfl
    | some u =>
     have nlr:lA≠rA:=fun z=>by rw [z,hr8] at nL;cases nL
     have:=b48 lA u (fun z=>(xA.mp z).elim nlr fun z=>npL (xr.mp z).symm) e;rw [nL] at this;cases this
   have b9:Off [lA,rA,p] H8 (upd H8 lA (.lst vs)):=Off.new nL;have hp9:(upd H8 lA (.lst vs)) p=some o7:=by rw [ai npL];exact hp8
   have hB9:(upd H8 lA (.lst vs)) bA=some (.lst ((List.replicate qn ya).map V.str)):=by rw [ai nBL];exact hB8
   have hl9:(upd H8 lA (.lst vs)) lA=some (.lst vs):=ag;have gv9:∀ v∈vs,GoodV [lA,rA,p] nm (upd H8 lA (.lst vs)) v:=fun v hv=>(gv8 v hv).on b9;have b49:Off [lA,rA,p] H4 (upd H8 lA (.lst vs)):=b48.wide.trans b9;generalize upd H8 lA (.lst vs)=H9 at b9 hp9 hB9 hl9 gv9 b49 ⊢;refine⟨fun σ' H'=>∃ (D:Addr) (ys:List V) (c':Int),σ'=[some (.ref p),some (.int most),some (.int mn),some (.ref nA),x4',some (.ref D),some (.int br),x7,x8,some (.ref bA),some (.ref lA)]/\H' D=some (.lst ys)/\ys.length=mn/\(∀ v∈ys,GoodV [D,lA,rA,p] nm H' v)/\H' bA=some (.lst ((List.replicate qn ya).map V.str))/\aJ H' p c'/\c7<=c'/\c'<=c7+mn/\H9 D=none/\Off [D,lA,rA,p] H9 H',?_,?_⟩
   ·rintro σ H10 ⟨D,ys,c10,rfl,hD,hyl,hgy,hB10,⟨o10,hp10,hpo10⟩,g9,g10,nD9,b10⟩;refine⟨_,rfl,_,rfl,by show 2<=sizeLine;decide,fun tA nT=>?_⟩;have bT:Off [D,lA,rA,p] H10 (upd H10 tA (.tup [.ref bA,.ref D])):=Off.new nT;obtain⟨rs,hRA,hRG⟩:=nD fun v hv=>(hgy v hv).on bT;have hrl:rs.length=mn:=by rw [← hRA.1,hyl]
    have qn2:qn<=2:=by lia
    have few:∀ (g:Rm->List Str),(∀ r∈rs,(g r).length<=2)->(rs.flatMap g).length<=120:=fun g hg=>by
     have:∀ l:List Rm,(∀ r∈l,(g r).length<=2)->(l.flatMap g).length<=2 * l.length:=fun l=>by
      induction l with
      | nil=>intro _;exact xS _
      | cons a t ih =>
       intro h;have h1:=h a xD;have h2:=ih fun r hr=>h r (xu _ hr);rw [zg,xq,yx];lia
     have:=this rs hg;lia
    have f1:=few (·.1) fun r hr=>(hRG r hr).l2;have f2:=few (·.2) fun r hr=>(hRG r hr).kl;have hin:∀ x,(x∈dU (List.replicate qn ya,rs)\/x∈hU (List.replicate qn ya,rs))->x∈nm:=fun x h=>by
     rcases h with h | h
     ·rcases xG.mp h with h | h
      ·rw [zH h];exact hya
      ·obtain⟨r,hr,hx⟩:=aau.mp h;exact (hRG r hr).kk x hx
     ·obtain⟨r,hr,hx⟩:=aau.mp h;exact (hRG r hr).lk x hx
    refine k (.ref tA) (List.replicate qn ya,rs) c10 _ ⟨tA,bA,D,ys,rfl,ag,?_,?_,hRA⟩ ⟨fun x hx=>hnk x (hin x (.inl (z4 _ hx))),?_,fun r hr=>?_,?_⟩ ⟨⟨nm,by lia,hin⟩,?_,?_⟩ ?_ (show (List.replicate qn ya).length<=276 by rw [xW];lia) ⟨o10,by rw [ai (af hp10 nT)];exact hp10,hpo10⟩ (by lia) (by lia) fun b u hb e=>?_
    ·rw [ai (af hB10 nT)];exact hB10
    ·rw [ai (af hD nT)];exact hD
    ·show (List.replicate qn ya).length<=1000;rw [xW];lia
    ·have g:=hRG r hr;have:=g.l2;have:=g.kl;exact⟨fun x hx=>hnk x (g.lk x hx),g.l1,by lia,g.so,fun x hx=>hnk x (g.kk x hx),by lia⟩
    ·show rs.length<=1000;lia
    ·unfold dU;rw [xq];show (List.replicate qn ya).length+(rs.flatMap (·.2)).length<=1000;rw [xW];lia
    ·show (rs.flatMap (·.1)).length<=1000;lia
    ·show rs.length<=most;lia
    ·have e2:=b2 b u hb e;have e4:=b3 b u hb e2;have hbr:b≠rA:=af e2 nR;have hbl:b≠lA:=af e4 nL4;have n3:b ∉ [lA,rA,p]:=fun z=>by
      rcases xA.mp z with z | z
      ·exact hbl z
      ·rcases xA.mp z with z | z
       ·exact hbr z
       ·exact hb (xr.mp z)
     have e9:=b49 b u n3 e4;have hbD:b≠D:=af e9 nD9;have e10:=b10 b u (fun z=>(xA.mp z).elim hbD n3) e9;rw [ai (af e10 nT)];exact e10
   ·refine bE _ _ _ _ _ _ _ _ _ ?_;refine⟨_,rfl,(mn:Int),rfl,by lia,by lia,?_⟩;rw [yf];intro D hD;have zD:D∈[D,lA,rA,p]:=xD;have zl:lA∈[D,lA,rA,p]:=xu _ xD;have zp':p∈[D,lA,rA,p]:=xu _ (xu _ zp);have npD:p≠D:=af hp9 hD;have nlD:lA≠D:=af hl9 hD;have nBD:bA≠D:=af hB9 hD;have nBp:bA ∉ [D,lA,rA,p]:=fun z=>by
     rcases xA.mp z with z | z
     ·exact nBD z
     ·rcases xA.mp z with z | z
      ·exact nBL z
      ·rcases xA.mp z with z | z
       ·exact nBr z
       ·exact npB (xr.mp z).symm
    refine dB (n:=mn) (fun j ys H'=>∃ (lv:List V) (c':Int),lv.length+j=mn/\ys.length=j/\H' lA=some (.lst lv)/\(∀ v∈lv,GoodV [D,lA,rA,p] nm H' v)/\(∀ v∈ys,GoodV [D,lA,rA,p] nm H' v)/\H' D=some (.lst ys)/\aJ H' p c'/\c7<=c'/\c'<=c7+j/\Off [D,lA,rA,p] H9 H') ?_ (fun j ys H' ⟨_,_,_,_,_,_,_,h,_⟩=>h) ?_ ?_
    ·exact⟨vs,c7,by lia,rfl,by rw [ai nlD];exact hl9,fun v hv=>((gv9 v hv).wide hD).on (Off.new hD),(fun v h=>nomatch h),ag,⟨o7,by rw [ai npD];exact hp9,hpo7⟩,zB _,by lia,Off.new hD⟩
    ·rintro j ys H10 hj ⟨lv,c10,hll,hyl,hl10,hgl,hgy,hD10,⟨o10,hp10,hpo10⟩,g9,g10,b10⟩;refine dc rfl ?_;refine⟨_,rfl,.inl ⟨rfl,_,aAA hl10⟩,_,rfl,_,rfl,lA,_,rfl,.inl (aAA hl10),p,_,c10,o10,rfl,hp10,hpo10,by lia,by lia,by lia,by lia,fun r c11 o11 r0 r1 g11 g12 hpo11=>?_⟩;obtain⟨rn,rfl⟩:∃ n:Nat,r=(n:Int):=⟨r.toNat,by lia⟩;have hrn:rn < lv.length:=by lia
     have hix:ixN lv.length (rn:Int)=some rn:=by
      unfold ixN;rw [if_pos (by lia),if_pos (by lia)];rfl
     refine⟨lA,lv,(rn:Int),rn,lv[rn],rfl,rfl,by rw [ai (xZ npL)];exact hl10,by lia,by lia,(lL hix).1,xm hrn,?_,by rw [hyl];exact aH (by lia),nx hj ⟨lv.eraseIdx rn,c11,?_,?_,?_,fun v hv=>?_,fun v hv=>?_,ag,⟨o11,?_,hpo11⟩,by lia,by lia,?_⟩⟩
     ·rw [ai (xZ nlD),ai (xZ npD)];exact hD10
     ·rw [List.length_eraseIdx_of_lt hrn];lia
     ·rw [xq,hyl];rfl
     ·rw [ai nlD,ag]
     ·exact (hgl v (List.mem_of_mem_eraseIdx hv)).on ((Off.upd zp').trans ((Off.upd zl).trans (Off.upd zD)))
     ·rcases xG.mp hv with hv | hv
      ·exact (hgy v hv).on ((Off.upd zp').trans ((Off.upd zl).trans (Off.upd zD)))
      ·rw [xr.mp hv];exact (hgl _ (yy hrn)).on ((Off.upd zp').trans ((Off.upd zl).trans (Off.upd zD)))
     ·rw [ai npD,ai npL,ag]
     ·exact b10.trans ((Off.upd zp').trans ((Off.upd zl).trans (Off.upd zD)))
    ·rintro ys H10 ⟨lv,c10,hll,hyl,hl10,hgl,hgy,hD10,hpl,g9,g10,b10⟩;exact⟨D,ys,c10,rfl,hD10,hyl,hgy,b10 _ _ nBp hB9,hpl,g9,g10,hD,b10⟩
  ·refine⟨_,rfl,(mn:Int),rfl,by lia,by lia,?_⟩;rw [yf];refine dC (n:=mn) (fun i σ' H'=>∃ (x4 x7 x8:Option V) (vs:List V) (c':Int),σ'=[some (.ref p),some (.int most),some (.int mn),some (.ref nA),x4,some (.ref rA),some (.int br),x7,x8,none,none]/\H' rA=some (.lst vs)/\vs.length=i/\(∀ v∈vs,GoodV [rA,p] nm H' v)/\aJ H' p c'/\c2<=c'/\c'<=c2+3 * i/\Off [rA,p] H4 H') ⟨_,_,_,[],c2,rfl,hr4,rfl,(fun v h=>nomatch h),⟨o2,hp4,hpo2⟩,zB _,by lia,Off.refl _ _⟩ ?_ ?_;rotate_left
   ·intro σ' H' h;exact h
   rintro i σ H5 hi ⟨x4',x7,x8,vs,c5,rfl,hr5,hvl,hgv,⟨o5,hp5,hpo5⟩,g5,g6,b5⟩;have zr:rA∈[rA,p]:=xD;have zp:p∈[rA,p]:=xu _ xD;have nz:nA ∉ [rA,p]:=fun z=>by
    rcases xA.mp z with z | z
    ·exact nnr z
    ·exact npn (xr.mp z).symm
   have hn5:=b5 _ _ nz hn4;have hin:(i:Int) < nm.length:=by lia
   obtain⟨ya,hya,ea⟩:=kh (nm:=nm) (i:=0+(i:Int)) (by lia) (by lia);obtain⟨yb,hyb,eb⟩:=kh (nm:=nm) (i:=0+(i:Int) - 1) (by lia) (by lia);obtain⟨yc,hyc,ec⟩:=kh (nm:=nm) (i:=0+(i:Int)+1) (by lia) (by lia);refine⟨fun σ' H'=>∃ (lA:Addr) (ls:List Str) (c':Int),σ'=[some (.ref p),some (.int most),some (.int mn),some (.ref nA),some (.int (0+i)),some (.ref rA),some (.int br),some (.ref lA),x8,none,none]/\H' lA=some (.lst (ls.map V.str))/\H5 lA=none/\(∀ x∈ls,x∈nm)/\1<=ls.length/\ls.length<=2/\ls.Pairwise leS/\aJ H' p c'/\c5<=c'/\c'<=c5+1/\But p H5 H',?_,?_⟩;rotate_left
   ·refine⟨_,rfl,_,rfl,nA,_,_,_,rfl,rfl,aAA hn5,ea,by show 1<=sizeLine;decide,fun l1 n1=>?_⟩;have np1:p≠l1:=af hp5 n1;have b6:But p H5 (upd H5 l1 (.lst [.str ya])):=fun b u _ e=>by rw [ai (af e n1)];exact e
    have hp6:(upd H5 l1 (.lst [.str ya])) p=some o5:=by rw [ai np1];exact hp5
    have h16:(upd H5 l1 (.lst [.str ya])) l1=some (.lst [.str ya]):=ag;generalize upd H5 l1 (.lst [.str ya])=H6 at b6 hp6 h16 ⊢;refine⟨_,rfl,_,rfl,_,1,rfl,rfl,nA,_,_,_,rfl,rfl,aAA (b6 _ _ (xZ npn) hn5),eb,by show 1<=sizeLine;decide,fun l2 n2=>?_⟩;have np2:p≠l2:=af hp6 n2;have n12:l1≠l2:=af h16 n2;have b7:But p H6 (upd H6 l2 (.lst [.str yb])):=fun b u _ e=>by rw [ai (af e n2)];exact e
    have hp7:(upd H6 l2 (.lst [.str yb])) p=some o5:=by rw [ai np2];exact hp6
    have h27:(upd H6 l2 (.lst [.str yb])) l2=some (.lst [.str yb]):=ag;have h17:(upd H6 l2 (.lst [.str yb])) l1=some (.lst [.str ya]):=by rw [ai n12];exact h16
    generalize upd H6 l2 (.lst [.str yb])=H7 at b7 hp7 h27 h17 ⊢;have fin:∀ (b:Bool) (H8:Hp) (c8:Int),But p H7 H8->aJ H8 p c8->c5<=c8->c8<=c5+1->∃ kk:Bool,[V.bl b]=[V.bl kk]/\wU (.ref l2) (.int (if kk=true then 1 else 0)) H8 fun y H9=>vv (.ref l1) y H9 fun z H10=>∃ (p':Addr) (ss:List Str),[z]=[.ref p']/\SqL K H10 p' (ss.map V.str)/\ss.length < 64/\∀ (l:Addr) (ss':List Str),H10 l=none->ss'.Perm ss->sortedS ss'=true →
     ∃ (lA:Addr) (ls:List Str) (c':Int),([some (.ref p),some (.int most),some (.int mn),some (.ref nA),some (.int (0+i)),some (.ref rA),some (.int br),some (.ref l),x8,none,none]:List (Option V))=[some (.ref p),some (.int most),some (.int mn),some (.ref nA),some (.int (0+i)),some (.ref rA),some (.int br),some (.ref lA),x8,none,none]/\(upd H10 l (.lst (ss'.map V.str))) lA=some (.lst (ls.map V.str))/\H5 lA=none/\(∀ x∈ls,x∈nm)/\1<=ls.length/\ls.length<=2/\ls.Pairwise leS/\aJ (upd H10 l (.lst (ss'.map V.str))) p c'/\c5<=c'/\c'<=c5+1/\But p H5 (upd H10 l (.lst (ss'.map V.str))):=by
     intro b H8 c8 b8 ⟨o8,hp8,hpo8⟩ g7 g8;obtain⟨n,en,hn⟩:∃ n:Nat,(if b=true then (1:Int) else 0)=(n:Int)/\n<=1:=by
      cases b
      ·exact⟨0,rfl,by decide⟩
      ·exact⟨1,rfl,by decide⟩
     refine⟨b,rfl,l2,_,_,rfl,xQ V.int en,b8 _ _ (xZ np2) h27,by lia,by lia,?_,fun l3 n3=>?_⟩
     ·rw [yf];exact xE (by simpa using hn) (by decide:1<=sizeLine)
     rw [yf,jZ];have np3:p≠l3:=af hp8 n3;have h18:=b8 _ _ (xZ np1) h17;have n13:l1≠l3:=af h18 n3;have b9:But p H8 (upd H8 l3 (.lst ((List.replicate n yb).map V.str))):=fun b u _ e=>by rw [ai (af e n3)];exact e
     refine⟨l1,l3,_,_,rfl,rfl,b9 _ _ (xZ np1) h18,ag,?_,fun l4 n4=>?_⟩
     ·rw [xn,xW];exact xE (by simp;lia:_<=2) (by decide:2<=sizeLine)
     have hp9:(upd H8 l3 (.lst ((List.replicate n yb).map V.str))) p=some o8:=by rw [ai np3];exact hp8
     have b10:But p (upd H8 l3 (.lst ((List.replicate n yb).map V.str))) (upd (upd H8 l3 (.lst ((List.replicate n yb).map V.str))) l4 (.lst ([.str ya]++(List.replicate n yb).map V.str))):=fun b u _ e=>by rw [ai (af e n4)];exact e
     have hp10:(upd (upd H8 l3 (.lst ((List.replicate n yb).map V.str))) l4 (.lst ([.str ya]++(List.replicate n yb).map V.str))) p=some o8:=by rw [ai (af hp9 n4)];exact hp9
     have h410:(upd (upd H8 l3 (.lst ((List.replicate n yb).map V.str))) l4 (.lst ([.str ya]++(List.replicate n yb).map V.str))) l4=some (.lst ((ya::List.replicate n yb).map V.str)):=ag;have b510:=b6.trans (b7.trans (b8.trans (b9.trans b10)));generalize upd (upd H8 l3 (.lst ((List.replicate n yb).map V.str))) l4 (.lst ([.str ya]++(List.replicate n yb).map V.str))=H10 at hp10 h410 b510 ⊢;refine⟨l4,ya::List.replicate n yb,rfl,aAA h410,by simp;lia,fun l ss' nl hpm hso=>?_⟩;have npl:p≠l:=af hp10 nl;refine⟨l,ss',c8,rfl,ag,b510.free (xZ npl) nl,fun x hx=>?_,?_,?_,bt hso,⟨o8,by rw [ai npl];exact hp10,hpo8⟩,g7,g8,fun b u hb e=>?_⟩
     ·rcases xA.mp (hpm.mem_iff.mp hx) with z | z
      ·rw [z];exact hya
      ·rw [zH z];exact hyb
     ·rw [hpm.length_eq];simp
     ·rw [hpm.length_eq];simp;lia
     ·have:=b510 b u hb e;rw [ai (af this nl)];exact this
    refine⟨_,rfl,_,0,rfl,rfl,?_⟩;by_cases hi0:0 < i
    ·refine⟨true,xQ V.bl (xK (by lia)),gz ?_⟩;refine⟨_,rfl,p,5,c5,o5,rfl,hp7,hpo5,by decide,by decide,by lia,by lia,fun r c8 o8 r0 r1 g7 g8 hpo8=>⟨rfl,.inr ?_⟩⟩;exact fin _ _ c8 But.upd ⟨o8,ag,hpo8⟩ g7 g8
    ·refine⟨false,xQ V.bl (xM (by lia)),dw (.inr ?_)⟩;exact fin false H7 c5 (But.refl _ _) ⟨o5,hp7,hpo5⟩ (zB _) (by lia)
   rintro σ H6 ⟨lA,ls,c6,rfl,hl6,nlA,hlm,hl1,hl2,hls,⟨o6,hp6,hpo6⟩,g7,g8,b6⟩;refine⟨fun σ' H'=>∃ (kA:Addr) (ks:List Str) (c':Int),σ'=[some (.ref p),some (.int most),some (.int mn),some (.ref nA),some (.int (0+i)),some (.ref rA),some (.int br),some (.ref lA),some (.ref kA),none,none]/\H' kA=some (.lst (ks.map V.str))/\H6 kA=none/\(∀ x∈ks,x∈nm)/\ks.length<=2/\aJ H' p c'/\c6<=c'/\c'<=c6+2/\But p H6 H',?_,?_⟩;rotate_left
   ·have hn6:=b6 _ _ (xZ npn) hn5;refine⟨_,rfl,_,rfl,_,1,rfl,rfl,nA,_,_,_,rfl,rfl,aAA hn6,ec,by show 1<=sizeLine;decide,fun l1 n1=>?_⟩;have np1:p≠l1:=af hp6 n1;have b7:But p H6 (upd H6 l1 (.lst [.str yc])):=fun b u _ e=>by rw [ai (af e n1)];exact e
    have hp7:(upd H6 l1 (.lst [.str yc])) p=some o6:=by rw [ai np1];exact hp6
    have h17:(upd H6 l1 (.lst [.str yc])) l1=some (.lst [.str yc]):=ag;generalize upd H6 l1 (.lst [.str yc])=H7 at b7 hp7 h17 ⊢;refine⟨_,rfl,_,rfl,rfl,.inr ⟨_,rfl,?_⟩⟩;generalize (!decide (V.int (0+(i:Int))=V.int br))=bb;obtain⟨n,en,hn⟩:∃ n:Nat,(if bb=true then (1:Int) else 0)=(n:Int)/\n<=1:=by
     cases bb
     ·exact⟨0,rfl,by decide⟩
     ·exact⟨1,rfl,by decide⟩
    refine⟨l1,_,_,rfl,xQ V.int en,h17,by lia,by lia,?_,fun l3 n3=>?_⟩
    ·rw [yf];exact xE (by simpa using hn) (by decide:1<=sizeLine)
    rw [yf,jZ];have np3:p≠l3:=af hp7 n3;have b8:But p H7 (upd H7 l3 (.lst ((List.replicate n yc).map V.str))):=fun b u _ e=>by rw [ai (af e n3)];exact e
    have hp8:(upd H7 l3 (.lst ((List.replicate n yc).map V.str))) p=some o6:=by rw [ai np3];exact hp7
    have h38:(upd H7 l3 (.lst ((List.replicate n yc).map V.str))) l3=some (.lst ((List.replicate n yc).map V.str)):=ag;generalize upd H7 l3 (.lst ((List.replicate n yc).map V.str))=H8 at b8 hp8 h38 ⊢;refine⟨_,rfl,_,rfl,_,rfl,_,1,rfl,rfl,p,_,c6,o6,rfl,hp8,hpo6,by lia,by lia,by lia,by lia,fun r c8 o8 r0 r1 g9 g10 hpo8=>?_⟩;obtain⟨yd,hyd,ed⟩:=kh (nm:=nm) (i:=r) (by lia) (by lia);have b9:But p H8 (upd H8 p o8):=But.upd;have hp9:(upd H8 p o8) p=some o8:=ag;generalize upd H8 p o8=H9 at b9 hp9 ⊢;have b69:=b7.trans (b8.trans b9);refine⟨nA,_,_,_,rfl,rfl,aAA (b69 _ _ (xZ npn) hn6),ed,by show 1<=sizeLine;decide,fun l4 n4=>?_⟩;have np4:p≠l4:=af hp9 n4;have b10:But p H9 (upd H9 l4 (.lst [.str yd])):=fun b u _ e=>by rw [ai (af e n4)];exact e
    have hp10:(upd H9 l4 (.lst [.str yd])) p=some o8:=by rw [ai np4];exact hp9
    have h410:(upd H9 l4 (.lst [.str yd])) l4=some (.lst [.str yd]):=ag;generalize upd H9 l4 (.lst [.str yd])=H10 at b10 hp10 h410 ⊢;refine⟨_,rfl,p,2,c8,o8,rfl,hp10,hpo8,by decide,by decide,by lia,by lia,fun q c9 o9 q0 q1 g11 g12 hpo9=>?_⟩;obtain⟨qn,rfl⟩:∃ n:Nat,q=(n:Int):=⟨q.toNat,by lia⟩;have b11:But p H10 (upd H10 p o9):=But.upd;have hp11:(upd H10 p o9) p=some o9:=ag;generalize upd H10 p o9=H11 at b11 hp11 ⊢;refine⟨l4,_,_,rfl,rfl,b11 _ _ (xZ np4) h410,by lia,by lia,?_,fun l5 n5=>?_⟩
    ·rw [yf];exact xE (by simp;lia:_<=1) (by decide:1<=sizeLine)
    rw [yf,jZ];have np5:p≠l5:=af hp11 n5;have b12:But p H11 (upd H11 l5 (.lst ((List.replicate qn yd).map V.str))):=fun b u _ e=>by rw [ai (af e n5)];exact e
    have hp12:(upd H11 l5 (.lst ((List.replicate qn yd).map V.str))) p=some o9:=by rw [ai np5];exact hp11
    have h512:(upd H11 l5 (.lst ((List.replicate qn yd).map V.str))) l5=some (.lst ((List.replicate qn yd).map V.str)):=ag;generalize upd H11 l5 (.lst ((List.replicate qn yd).map V.str))=H12 at b12 hp12 h512 ⊢;have b812:=b9.trans (b10.trans (b11.trans b12));refine⟨l3,l5,_,_,rfl,rfl,b812 _ _ (xZ np3) h38,h512,?_,fun l6 n6=>?_⟩
    ·rw [xn,xn,xW,xW];exact xE (by lia:n+qn<=2) (by decide:2<=sizeLine)
    have np6:p≠l6:=af hp12 n6;have b612:=b7.trans (b8.trans b812);refine⟨l6,List.replicate n yc++List.replicate qn yd,c9,rfl,by rw [ag,xR],b612.free (xZ np6) n6,fun x hx=>?_,?_,⟨o9,by rw [ai np6];exact hp12,hpo9⟩,by lia,by lia,fun b u hb e=>?_⟩
    ·rcases xG.mp hx with z | z
     ·rw [zH z];exact hyc
     ·rw [zH z];exact hyd
    ·rw [xq,xW,xW];lia
    ·have:=b612 b u hb e;rw [ai (af this n6)];exact this
   rintro σ H7 ⟨kA,ks,c7,rfl,hk7,nkA,hkm,hk2,⟨o7,hp7,hpo7⟩,g9,g10,b7⟩;have nlp:lA≠p:=fun z=>by rw [z,hp5] at nlA;cases nlA
   have nkp:kA≠p:=fun z=>by rw [z,hp6] at nkA;cases nkA
   have nlr:lA≠rA:=fun z=>by rw [z,hr5] at nlA;cases nlA
   have hr6:=b6 _ _ (xZ npr) hr5;have nkr:kA≠rA:=fun z=>by rw [z,hr6] at nkA;cases nkA
   have hr7:=b7 _ _ (xZ npr) hr6;have hl7:=b7 _ _ nlp hl6;refine⟨_,rfl,.inl ⟨rfl,_,aAA hr7⟩,_,rfl,_,rfl,by show 2<=sizeLine;decide,fun tA nT=>?_⟩;have npT:p≠tA:=af hp7 nT;have nrT:rA≠tA:=af hr7 nT;have nlT:lA≠tA:=af hl7 nT;have nkT:kA≠tA:=af hk7 nT;refine⟨rA,_,_,rfl,rfl,by rw [ai nrT];exact hr7,by rw [hvl];exact aH (by lia),?_⟩;have b57:Off [rA,p] H5 H7:=fun b u n e=>b7 b u (fun z=>n (z▸zp)) (b6 b u (fun z=>n (z▸zp)) e);have b59:Off [rA,p] H5 (upd (upd H7 tA (.tup [.ref lA,.ref kA])) rA (.lst (vs++[.ref tA]))):=b57.trans ((Off.new nT).trans (Off.upd zr));refine⟨_,_,_,vs++[.ref tA],c7,rfl,ag,by rw [xq,hvl];rfl,fun v hv=>?_,⟨o7,by rw [ai npr,ai npT];exact hp7,hpo7⟩,by lia,by lia,b5.trans b59⟩;rcases xG.mp hv with hv | hv
   ·exact (hgv v hv).on b59
   ·rw [xr.mp hv];have nin:∀ {x:Addr},x≠rA->x≠p->x ∉ [rA,p]:=fun h1 h2 z=>(xA.mp z).elim h1 fun z=>h2 (xr.mp z);refine⟨(ls,ks),tA,lA,kA,rfl,nin (xZ nrT) (xZ npT),nin nlr nlp,nin nkr nkp,?_,?_,?_,⟨hlm,hl1,hl2,hls,hkm,hk2⟩⟩
    ·rw [ai (xZ nrT),ag]
    ·rw [ai nlr,ai nlT];exact hl7
    ·rw [ai nkr,ai nkT];exact hk7
end
theorem gh {ks:List Str}{rs:List Rm}{o:List Nat}(g:Gone ks rs o)(n:Nat):Gone ks rs (o.take n):=by
 intro j i e;rw [List.getElem?_take] at e;split at e
 ·rename_i lt;have:=g j i e;rw [aan,zj (by lia)];exact this
 ·cases e
theorem qR {h:Hs}{o:List Nat}(g:Gone h.1 h.2 o){n:Nat}(lt:n < o.length):(aP h.2 (ay h.1 h.2 (o.take n)) (o.take n)).isEmpty=false:=by
 obtain⟨a,b,c⟩:=g n o[n] (xm lt);have:o[n]∈aP h.2 (ay h.1 h.2 (o.take n)) (o.take n):=next_iffD.mpr ⟨a,b,c⟩;cases e:aP h.2 (ay h.1 h.2 (o.take n)) (o.take n) with
 | nil=>rw [e] at this;cases this
 | cons x xs=>rfl
theorem mD {hd hd':List Str}(le:∀ k,hd.count k<=hd'.count k){r:List Str}(m:i9 hd r=true):i9 hd' r=true:=by
 unfold i9 at m ⊢;rw [yW] at m ⊢;exact fun x hx=>xK (xE (zf (m x hx)) (le x))
theorem gH {ks m:List Str}{rs:List Rm}{o:List Nat}(g:Gone ks rs o)(g':Gone (ks++m) rs o)(k:Str):(ay (ks++m) rs o).count k=(ay ks rs o).count k+m.count k:=by
 have a:=cj k o g;have b:=cj k o g';rw [yC] at b;lia
theorem gq {ks:List Str}{rs:List Rm}(m:List Str):∀ o,Gone ks rs o->Gone (ks++m) rs o:=by
 refine kY (fun _=>oZ _ _) fun o i ih g=>?_;obtain⟨g1,g2⟩:=jm g;have w:=ih g1;obtain⟨n1,n2,n3⟩:=next_iffD.mp g2;exact oy w (next_iffD.mpr ⟨n1,n2,mD (fun k=>by rw [gH g1 w k];lia) n3⟩)
theorem oK {ks m:List Str}{rs:List Rm}{o:List Nat}(g:Gone ks rs o):(ay (ks++m) rs o).Perm (ay ks rs o++m):=by
 rw [aaK];intro k;rw [gH g (gq m o g) k,yC]
theorem nZ {ks m:List Str}{rs:List Rm}{o:List Nat}(g:Gone ks rs o){i:Nat}(hi:i∈aP rs (ay ks rs o) o):i∈aP rs (ay (ks++m) rs o) o:=by
 obtain⟨n1,n2,n3⟩:=next_iffD.mp hi;exact next_iffD.mpr ⟨n1,n2,mD (fun k=>by rw [gH g (gq m o g) k];lia) n3⟩
theorem uM:aU "a" := ⟨by decide +kernel,by decide +kernel,by decide +kernel⟩
theorem uA:aU "b" := ⟨by decide +kernel,by decide +kernel,by decide +kernel⟩
theorem qt:aU "zzzz" := ⟨by decide +kernel,by decide +kernel,by decide +kernel⟩
abbrev v8 (K:PySem.W.Frag):List V->Hp->VK->Prop:=fun xs H Q=>∃ p ys,xs=[.ref p]/\(SqL K H p ys\/SqT K H p ys)/\Q (.int ys.length) H
theorem vL {K:PySem.W.Frag}{rest:TS}{D:lg}{H:Hp}{v:V}{h:Hs}{x0 x1 x2 x4 x5 x6 x7 x8:Option V}(hh:HouseAt H v h)(hl:h.2.length<=60)(q:∀ l H',Same H H'->H' l=some (.lst ((h.2.filter fun r=>decide (1 < r.1.length)).map fun _=>V.int 1))->rest D [x0,x1,x2,some v,x4,some (.ref l),x6,x7,x8] H') :
 oF (qy (gQ 2 [] (tu K (tOp (um K) (du 3) (tC (.int 1)))) (tJ K 2 (jN (dh 0) (jN (dh 1) uo))) (hG (tOp (rI0 fun i j=>.bl (decide (j < i))) (tCB (v8 K) (bq (du 0) eZ)) (tC (.int 1)))) (tC (.int 1))) (dh 5)) rest D [x0,x1,x2,some v,x4,x5,x6,x7,x8] H:=by
 obtain⟨t,a,r,us,rfl,ht,ha,hr,hR⟩:=hh;have ul:=hR.1;dsimp only [oF,qy];refine bE _ _ _ _ _ _ _ _ _ ?_;refine⟨_,rfl,t,_,1,.ref r,rfl,rfl,aAB ht,rfl,r,rfl,⟨_,aAA hr⟩,?_⟩;intro B hB;refine cD (xs:=us) (fun i ys H'=>ys=((h.2.take i).filter fun r=>decide (1 < r.1.length)).map (fun _=>V.int 1)/\H' B=some (.lst ys)/\Same H H') ⟨rfl,ag,az hB⟩ (fun i ys H' ⟨_,h,_⟩=>h) (fun i ys H' ⟨_,_,s⟩=>aAA (s _ _ hr)) ?_ ?_
 ·rintro i ys H2 x hx ⟨rfl,hB2,s2⟩;have hi:i < us.length:=(xp.mp hx).1;have er:h.2[i]? = some h.2[i]:=xm (by lia);obtain⟨tt,aa,bb,rfl,g1,g2,g3⟩:=(hR.2 i x _ hx er).same s2;refine pD tt (.ref aa) (.ref bb) rfl (aAB g1) rfl ?_;refine⟨_,rfl,aa,_,rfl,.inl (aAA g2),_,_,rfl,rfl,?_⟩;generalize h.2[i]=rm at er g2 g3 ⊢;by_cases q1:1 < rm.1.length
  ·refine⟨true,xQ V.bl (xK (by rw [xn];lia)),gz ⟨hB2,?_,nx hi ⟨?_,ag,fun b u e=>?_⟩⟩⟩
   ·rw [xn];exact aH (xE (y9 _ _) (by rw [xN];lia))
   ·rw [yn,er];show _=(List.filter _ (h.2.take i++[rm])).map _;rw [zz,zv,if_pos (xK q1),zW,xR]
    rfl
   ·rw [ai (af e hB)];exact s2 b u e
  ·refine⟨false,xQ V.bl (xM (by rw [xn];lia)),dw (nx hi ⟨?_,hB2,s2⟩)⟩;rw [yn,er];show _=(List.filter _ (h.2.take i++[rm])).map _;rw [zz,zv,if_neg (by simpa using q1),zW,yg]
 ·rintro ys H2 ⟨rfl,hB2,s2⟩;rw [ul,yv] at hB2;exact q B H2 s2 hB2
theorem fV {order:List Nat}{n:Nat}(h:n<=order.length):sg (ax order) none (some (n:Int))=ax (order.take n):=by
 rw [mW (by rw [xn];exact h)];exact ab5.symm
theorem xg {K:PySem.W.Frag}{A1:Around}{rest:TS}{D:lg}{H:Hp}{v:V}{o:Addr}{n:Nat}{h:Hs}{order:List Nat}{x0 x1 x2 x5 x7 x8:Option V}(hh:HouseAt H v h)(ok:aS h)(ho:H o=some (.lst (ax order)))(hg:Gone h.1 h.2 order)(hol:order.length<=60)(hn:n<=order.length)(hu:A1.units+1 < cLine)(q:∀ H',Same H H'->rest D [x0,x1,x2,some v,some (.ref o),x5,some (.int (n:Int)),x7,x8] H') :
 oF (qU (hG (tOp (m8 A1 true) (gQ 1 [3,4,6] (uu (bq (tUn (rU fun i=>.int (-i)) (tC (.int 1))) (bq (tOp (rI0 fun i j=>.int (i+j)) (tCB (v8 K) (bq (tOp (um K) (du 3) (tC (.int 1))) eZ)) (tC (.int 1))) eZ))) (dh 0) (vz (tB (fX vP [] E0 (bq (du 1) (bq (tSl (sL K) (du 2) gI (nX (du 3))) (bq (du 0) eZ)))))) (du 0)) (tG eZ))) (n9 (tC (.bl false))) iY) rest D [x0,x1,x2,some v,some (.ref o),x5,some (.int (n:Int)),x7,x8] H:=by
 have hh0:=hh;obtain⟨t,a,r,us,rfl,ht,ha,hr,hR⟩:=hh;have ul:=hR.1;have rl:=ok.rl;dsimp only [oF,qU,hG,tOp];refine bE _ _ _ _ _ _ _ _ _ ?_;refine⟨1,rfl,_,rfl,t,_,1,.ref r,rfl,rfl,aAB ht,rfl,r,us,rfl,.inl (aAA hr),_,_,rfl,rfl,-1,_,rfl,⟨by lia,by lia,by lia,by lia⟩,?_⟩;intro B hB;refine dB (fun i ys H'=>ys=[]/\H' B=some (.lst [])/\Same H H') ⟨rfl,ag,az hB⟩ (fun i ys H' ⟨e,h,_⟩=>by rw [e];exact h) ?_ ?_
 ·rintro i ys H2 hi ⟨rfl,hB2,s2⟩;refine gd rfl ?_;refine⟨_,rfl,_,rfl,_,rfl,_,rfl,o,_,rfl,aAA (s2 _ _ ho),fun c nc=>?_⟩;rw [fV hn];have s3:Same H2 (upd H2 c (.lst (ax (order.take n)))):=az nc;refine⟨_,rfl,.ref t,c,h,order.take n,_,rfl,hh0.same (s2.trans s3),ok,ag,gh hg n,by rw [xN];lia,fun H4 s4=>⟨true,rfl,dw (nx hi ⟨rfl,s4 _ _ (s3 _ _ hB2),s2.trans (s3.trans s4)⟩)⟩⟩
 ·rintro ys H2 ⟨rfl,hB2,s2⟩;refine⟨xS _,fun e ne=>?_⟩;refine lY (xs:=[]) (az ne _ _ hB2) ag (fun x hx=>absurd hx yP) hu ⟨false,rfl,dw ?_⟩;exact q _ (s2.trans (az ne))
theorem wa {K:PySem.W.Frag}{A1:Around}{D:lg}{H:Hp}{v w1:V}{o:Addr}{n:Nat}{h:Hs}{m:List Str}{order:List Nat}{x0 x1 x2 x5 x7:Option V}(hh:HouseAt H v h)(ok:aS h)(hw:HouseAt H w1 (h.1++m,h.2))(okw:aS (h.1++m,h.2))(ho:H o=some (.lst (ax order)))(hg:Gone h.1 h.2 order)(hol:order.length<=60)(hn:n<=order.length)(hu:A1.units+1 < cLine)(q:∀ H',Same H H'->D.nx [x0,x1,x2,some v,some (.ref o),x5,some (.int (n:Int)),x7,some w1] H') :
 qU (hG (tOp (m8 A1 true) (gQ 1 [8,4,6] (tu K (fX eK [] E0 (bq (du 3) (bq (tSl (sL K) (du 4) gI (nX (du 6))) eZ)))) (dh 0) (hG (tOp (rIn K true) (du 0) (fX eK [] E0 (bq (du 1) (bq (tSl (sL K) (du 2) gI (nX (du 3))) eZ))))) (du 0)) (tG eZ))) (n9 (tC (.bl false))) iY D [x0,x1,x2,some v,some (.ref o),x5,some (.int (n:Int)),x7,some w1] H:=by
 dsimp only [qU,hG,tOp];refine bE _ _ _ _ _ _ _ _ _ ?_;have gt:=gh hg n;have tl:(order.take n).length<=60:=by rw [xN];lia
 refine⟨_,rfl,_,rfl,_,rfl,_,rfl,o,_,rfl,aAA ho,fun c nc=>?_⟩;rw [fV hn];have s1:Same H (upd H c (.lst (ax (order.take n)))):=az nc;have e1:(upd H c (.lst (ax (order.take n)))) c=some (.lst (ax (order.take n))):=ag;generalize upd H c (.lst (ax (order.take n)))=H1 at s1 e1 ⊢;refine⟨v,c,h,order.take n,rfl,hh.same s1,ok,e1,gt,by lia,fun l H2 s2 nl hl=>⟨l,rfl,⟨_,aAA hl⟩,?_⟩⟩;have s02:=s1.trans s2;intro B hB;refine cD (xs:=ax (aP h.2 (ay h.1 h.2 (order.take n)) (order.take n))) (fun i ys H'=>ys=[]/\H' B=some (.lst [])/\Same H2 H') ⟨rfl,ag,az hB⟩ (fun i ys H' ⟨e,h,_⟩=>by rw [e];exact h) (fun i ys H' ⟨_,_,s⟩=>aAA (s _ _ hl)) ?_ ?_
 ·rintro i ys H3 x hx ⟨rfl,hB3,s3⟩;have hi:=(xp.mp hx).1;have hi':=hi;rw [xn] at hi';rw [xO,xm hi'] at hx;cases hx;have hm:=yy hi';generalize (aP h.2 (ay h.1 h.2 (order.take n)) (order.take n))[i]=j at hm ⊢;have s03:=s02.trans s3;refine gd rfl ?_;refine⟨_,rfl,_,rfl,_,rfl,_,rfl,_,rfl,o,_,rfl,aAA (s03 _ _ ho),fun c2 nc2=>?_⟩;rw [fV hn];have s4:Same H3 (upd H3 c2 (.lst (ax (order.take n)))):=az nc2;have e4:(upd H3 c2 (.lst (ax (order.take n)))) c2=some (.lst (ax (order.take n))):=ag;generalize upd H3 c2 (.lst (ax (order.take n)))=H4 at s4 e4 ⊢;refine⟨w1,c2,(h.1++m,h.2),order.take n,rfl,hw.same (s03.trans s4),okw,e4,gq m _ gt,by lia,fun l5 H5 s5 nl5 hl5=>?_⟩;refine⟨l5,_,rfl,.inl (aAA hl5),rfl,eu _,false,xQ V.bl (by rw [if_pos rfl,dI,xK (nZ gt hm)];rfl),dw (nx hi ⟨rfl,s5 _ _ (s4 _ _ hB3),s3.trans (s4.trans s5)⟩)⟩
 ·rintro ys H3 ⟨rfl,hB3,s3⟩;refine⟨xS _,fun e ne=>?_⟩;refine lY (xs:=[]) (az ne _ _ hB3) ag (fun x hx=>absurd hx yP) hu ⟨false,rfl,dw ?_⟩;exact q _ (s02.trans (s3.trans (az ne)))
theorem k8 {A:Around}{H:Hp}{x y:Addr}{ns:List Nat}{Q:VK}(hx:H x=some (.lst (ax ns)))(hy:H y=some (.lst []))(hu:A.units+1 < cLine)(q:Q (.bl ns.isEmpty) H):m8 A false (.ref x) (.ref y) H Q:=by
 cases ns with
 | nil=>exact nu (ns:=[]) hx hy hu q
 | cons n ns =>
  refine⟨.list ((n::ns).map fun i=>PyData.int ((i:Nat):Int)),.list [],.lst hx (SeesAll.ints _),.lst hy .nil,by simp only [PyData.canLay0,dG],rfl,yG (yI (zN _ _) _) hu,?_⟩;exact q
theorem oU {h:Hs}(ok:aS h):mz h=((h.2.filter fun r=>decide (1 < r.1.length)).map fun _=>(1:Nat)).isEmpty:=by
 have rs:∀ r∈h.2,1<=r.1.length:=fun r hr=>(ok.rs r hr).l1;unfold mz;generalize h.2=L at rs
 induction L with
 | nil=>rfl
 | cons r L ih =>
  have i1:=ih fun r hr=>rs r (xu _ hr);have r1:=rs r xD;rw [aaz,i1,zv];by_cases q:r.1.length=1
  ·rw [xK q,if_neg (by simp;lia)];rfl
  ·rw [xM q,if_pos (by simp;lia)];rfl
theorem qj {h:Hs}{order:List Nat}(hg:Gone h.1 h.2 order)(hst:aP h.2 (ay h.1 h.2 order) order=[]){n:Nat}(hn:n<=order.length):(aP h.2 (ay h.1 h.2 (order.take n)) (order.take n)).isEmpty=decide (V.int (n:Int)=V.int ((ax order).length:Int)):=by
 rw [xn];by_cases lt:n < order.length
 ·rw [qR hg lt,xM];intro z;injection z with z
  lia
 ·have e:n=order.length:=by lia
  subst e;rw [yv,hst,xK rfl];rfl
theorem tE {A1:Around}{rest:TS}{D:lg}{H:Hp}{v:V}{l:Addr}{h:Hs}{x0 x1 x2 x4 x6 x7 x8:Option V}(hh:HouseAt H v h)(ok:aS h)(hl:H l=some (.lst ((h.2.filter fun r=>decide (1 < r.1.length)).map fun _=>V.int 1)))(hu:A1.units+1 < cLine)(q:∀ H',Same H H'->rest D [x0,x1,x2,some v,x4,some (.ref l),x6,x7,x8] H') :
 oF (qU (tOr (vz (tB (fX j9 [] E0 (bq (du 3) eZ)))) (hG (tOp rNe (fX lp [] E0 (bq (du 3) eZ)) (tOp (m8 A1 false) (du 5) (tG eZ))))) (n9 (tC (.bl false))) iY) rest D [x0,x1,x2,some v,x4,some (.ref l),x6,x7,x8] H:=by
 refine⟨_,rfl,v,h,rfl,hh,ok,fun H1 s1=>⟨true,rfl,dw ?_⟩⟩;refine⟨_,rfl,v,h,rfl,hh.same s1,ok,fun H2 s2=>?_⟩;refine⟨_,rfl,xS _,fun e ne=>?_⟩;have s3:=(s1.trans s2).trans (az (o:=.lst []) ne);refine k8 (ns:=(h.2.filter fun r=>decide (1 < r.1.length)).map fun _=>1) (by rw [s3 _ _ hl];unfold ax;rw [aco];rfl) ag hu ?_;refine⟨rfl,false,xQ V.bl (by rw [oU ok,xK rfl];rfl),dw (q _ s3)⟩
theorem vk {A1:Around}{rest:TS}{D:lg}{H:Hp}{v:V}{o:Addr}{h:Hs}{order:List Nat}{x0 x1 x2 x5 x6 x7 x8:Option V}(hh:HouseAt H v h)(ok:aS h)(ho:H o=some (.lst (ax order)))(hg:Gone h.1 h.2 order)(hst:aP h.2 (ay h.1 h.2 order) order=[])(hol:order.length<=60)(hu:A1.units+1 < cLine)(q:∀ H',Same H H'->rest D [x0,x1,x2,some v,some (.ref o),x5,x6,x7,x8] H') :
 oF (qU (tOr (vz (tB (fX kc [] E0 (bq (du 3) (bq (du 4) eZ))))) (hG (tOp (m8 A1 true) (fX ft [] E0 (bq (du 3) (bq (du 4) eZ))) (fX mZ [] E0 (bq (du 3) (bq (du 4) eZ)))))) (n9 (tC (.bl false))) iY) rest D [x0,x1,x2,some v,some (.ref o),x5,x6,x7,x8] H:=by
 refine⟨_,rfl,_,rfl,v,o,h,order,rfl,hh,ok,ho,hg,by lia,fun H1 s1=>⟨true,xQ V.bl (by rw [hst];rfl),dw ?_⟩⟩;refine⟨_,rfl,_,rfl,v,o,h,order,rfl,hh.same s1,ok,s1 _ _ ho,hg,by lia,fun l ss H2 s2 nl hp hs hl=>?_⟩;have s02:=s1.trans s2;refine⟨_,rfl,_,rfl,v,o,h,order,rfl,hh.same s02,ok,s02 _ _ ho,hg,by lia,fun l2 st H3 s3 nl2 hp2 hs2 hl2=>?_⟩;have es:st=ss:=cV hs2 hs (hp2.trans hp.symm);subst es;exact jM (s3 _ _ hl) hl2 (fun y hy=>jR ok _ y (hp2.mem_iff.mp hy)) hu ⟨false,rfl,dw (q _ (s02.trans s3))⟩
theorem vF {K:PySem.W.Frag}{rest:TS}{D:lg}{H:Hp}{v:V}{o:Addr}{n:Nat}{h:Hs}{order:List Nat}{x0 x1 x2 x5 x7 x8:Option V}(hh:HouseAt H v h)(ok:aS h)(ho:H o=some (.lst (ax order)))(hg:Gone h.1 h.2 order)(hst:aP h.2 (ay h.1 h.2 order) order=[])(hol:order.length<=60)(hn:n<=order.length)(q:∀ H',Same H H'->rest D [x0,x1,x2,some v,some (.ref o),x5,some (.int (n:Int)),x7,x8] H') :
 oF (qU (hG (tOp rNe (fX kc [] E0 (bq (du 3) (bq (tSl (sL K) (du 4) gI (nX (du 6))) eZ))) (tOp rEq (du 6) (tCB (v8 K) (bq (du 4) eZ))))) (n9 (tC (.bl false))) iY) rest D [x0,x1,x2,some v,some (.ref o),x5,some (.int (n:Int)),x7,x8] H:=by
 refine⟨_,rfl,_,rfl,_,rfl,_,rfl,o,_,rfl,aAA ho,fun c nc=>?_⟩;rw [fV hn];have s1:Same H (upd H c (.lst (ax (order.take n)))):=az nc;refine⟨v,c,h,order.take n,rfl,hh.same s1,ok,ag,gh hg n,by rw [xN];lia,fun H2 s2=>?_⟩;refine⟨_,rfl,_,rfl,o,_,rfl,.inl (aAA (s2 _ _ (s1 _ _ ho))),rfl,?_⟩;refine⟨rfl,false,xQ V.bl (by rw [qj hg hst hn,xK rfl];rfl),dw (q _ (s1.trans s2))⟩
theorem ud (ks:List Str):∃ m:List Str,sg (ks.map V.str) none (some 2)=m.map V.str/\m.length<=2/\∀ x∈m,x∈ks:=by
 match ks with
 | []=>exact⟨[],rfl,by decide,fun x hx=>hx⟩
 | [a]=>exact⟨[a],rfl,by simp,fun x hx=>hx⟩
 | a::b::l=>exact⟨[a,b],(mW (k:=2) (by simp)).trans rfl,by simp,fun x hx=>by simp at hx ⊢;rcases hx with z | z<;>simp [z]⟩
abbrev vT (K:PySem.W.Frag):List V->Hp->VK->Prop:=fun xs H Q=>∃ p ss,xs=[.ref p]/\SqL K H p (ss.map V.str)/\ss.length<=sizeLine/\∀ (l:Addr) (ss':List Str),H l=none->ss'.Perm ss->sortedS ss'=true->Q (.ref l) (upd H l (.lst (ss'.map V.str)))
theorem uQ {K:PySem.W.Frag}{A1:Around}{rest:TS}{D:lg}{H:Hp}{p:Addr}{c:Int}{v:V}{o:Addr}{h:Hs}{order:List Nat}{x0 x1 x5 x6 x7 x8:Option V}(pl:aJ H p c)(c0:0<=c)(c1:c+100 < 1000000)(hh:HouseAt H v h)(ok:aS h)(kf:h.1.length<=276)(ho:H o=some (.lst (ax order)))(nop:o≠p)(hg:Gone h.1 h.2 order)(hol:order.length<=60)(hu:A1.units+1 < cLine)
 (q:∀ (m:List Str) (mm w1:Addr) (H':Hp),HouseAt H' (.ref w1) (h.1++m,h.2)->aS (h.1++m,h.2)->But p H H'->rest D [x0,x1,some (.ref p),some v,some (.ref o),x5,x6,some (.ref mm),some (.ref w1)] H') :
 oF (qy (tOp (wd K) (tG (bq (tG (bq (tC (.str (Str.ofString "a"))) (bq (tC (.str (Str.ofString "b"))) eZ))) (bq (tSl (sL K) (tOp (um K) (du 3) (tC (.int 0))) gI (nX (tC (.int 2)))) (bq (tG (bq (tC (.str (Str.ofString "zzzz"))) eZ)) eZ)))) (fX gf [] E0 (bq (du 2) (bq (tC (.int 3)) eZ)))) (dh 7)) (oF (qy (wJ (bq (tOp vv (tOp (um K) (du 3) (tC (.int 0))) (du 7)) (bq (tOp (um K) (du 3) (tC (.int 1))) eZ))) (dh 8)) (oF (qU (hG (tOp (m8 A1 true) (fX ft [] E0 (bq (du 8) (bq (du 4) eZ))) (tCB (vT K) (bq (tOp vv (fX ft [] E0 (bq (du 3) (bq (du 4) eZ))) (du 7)) eZ)))) (n9 (tC (.bl false))) iY) rest)) D [x0,x1,some (.ref p),some v,some (.ref o),x5,x6,x7,x8] H:=by
 have hh0:=hh;obtain⟨t,ka,r,us,rfl,ht,ha,hr,hR⟩:=hh;have np:∀ {b:Addr} {H1:Hp},Same H H1->H1 b=none->b≠p:=fun {b H1} s n z=>by
  obtain⟨o,e,_⟩:=pl;rw [z,s _ _ e] at n;cases n
 refine⟨by show 2<=sizeLine;decide,fun m1 nm1=>?_⟩;have s1:Same H (upd H m1 (.lst [.str (Str.ofString "a"),.str (Str.ofString "b")])):=az nm1;have e1:(upd H m1 (.lst [.str (Str.ofString "a"),.str (Str.ofString "b")])) m1=some (.lst (([Str.ofString "a",Str.ofString "b"]:List Str).map V.str)):=ag;have n1:=np (Same.refl H) nm1;generalize upd H m1 (.lst [.str (Str.ofString "a"),.str (Str.ofString "b")])=H1 at s1 e1 ⊢;refine⟨_,rfl,t,_,0,.ref ka,rfl,rfl,aAB (s1 _ _ ht),rfl,_,rfl,ka,_,rfl,aAA (s1 _ _ ha),fun m2 nm2=>?_⟩;obtain⟨mc,ec,lc,sc⟩:=ud h.1;rw [ec];have n2:=np s1 nm2;have s2:Same H1 (upd H1 m2 (.lst (mc.map V.str))):=az nm2;have e2:(upd H1 m2 (.lst (mc.map V.str))) m2=some (.lst (mc.map V.str)):=ag;generalize upd H1 m2 (.lst (mc.map V.str))=H2 at s2 e2 ⊢;have s02:=s1.trans s2;refine⟨by show 1<=sizeLine;decide,fun m3 nm3=>?_⟩;have n3:=np s02 nm3;have s3:Same H2 (upd H2 m3 (.lst [.str (Str.ofString "zzzz")])):=az nm3;have e3:(upd H2 m3 (.lst [.str (Str.ofString "zzzz")])) m3=some (.lst (([Str.ofString "zzzz"]:List Str).map V.str)):=ag;generalize upd H2 m3 (.lst [.str (Str.ofString "zzzz")])=H3 at s3 e3 ⊢;have s03:=s02.trans s3;refine⟨by show 3<=sizeLine;decide,fun m4 nm4=>?_⟩;have n4:=np s03 nm4;have s4:Same H3 (upd H3 m4 (.lst [.ref m1,.ref m2,.ref m3])):=az nm4;have e4:(upd H3 m4 (.lst [.ref m1,.ref m2,.ref m3])) m4=some (.lst [.ref m1,.ref m2,.ref m3]):=ag;generalize upd H3 m4 (.lst [.ref m1,.ref m2,.ref m3])=H4 at s4 e4 ⊢;have s04:=s03.trans s4;obtain⟨o4,hp4,io4⟩:=bQ pl s04;refine⟨_,rfl,p,3,c,o4,rfl,hp4,io4,by decide,by decide,by lia,by lia,fun q0 c5 o5 z0 z1 g1 g2 io5=>?_⟩;obtain⟨j,rfl⟩:∃ j:Nat,q0=(j:Int):=⟨q0.toNat,by lia⟩;have B4:But p H4 (upd H4 p o5):=But.upd;generalize upd H4 p o5=H5 at B4 ⊢;have B5:But p H H5:=(cv s04).trans B4;obtain⟨mm,ml,hat,hmm,mlen,mk⟩:∃ (mm:Addr) (ml:List Str),atI [V.ref m1,.ref m2,.ref m3] (j:Int)=some (.ref mm)/\H5 mm=some (.lst (ml.map V.str))/\ml.length<=2/\∀ x∈ml,aU x:=by
  have:j=0\/j=1\/j=2:=by lia
  rcases this with rfl | rfl | rfl
  ·exact⟨m1,[Str.ofString "a",Str.ofString "b"],rfl,B4 _ _ n1 (s4 _ _ (s3 _ _ (s2 _ _ e1))),by decide,fun x hx=>by
    rcases xA.mp hx with z | z
    ·rw [z];exact uM
    ·rw [xr.mp z];exact uA⟩
  ·exact⟨m2,mc,rfl,B4 _ _ n2 (s4 _ _ (s3 _ _ e2)),lc,fun x hx=>ok.kk x (sc x hx)⟩
  ·exact⟨m3,[Str.ofString "zzzz"],rfl,B4 _ _ n3 (s4 _ _ e3),by decide,fun x hx=>by rw [xr.mp hx];exact qt⟩
 refine⟨m4,_,_,.ref mm,rfl,rfl,aAA (B4 _ _ n4 e4),hat,?_⟩;have hh5:=hh0.but pl B5;have ho5:=B5 _ _ nop ho;obtain⟨t2,kb,r2,us2,et,ht5,ha5,hr5,hR5⟩:=id hh5;cases et;refine⟨_,rfl,t,_,0,.ref kb,rfl,rfl,aAB ht5,rfl,_,rfl,kb,mm,_,_,rfl,rfl,ha5,hmm,?_,fun wk nwk=>?_⟩
 ·rw [xn,xn];exact xE (by lia:_<=1000) (by decide)
 have s6:Same H5 (upd H5 wk (.lst (h.1.map V.str++ml.map V.str))):=az nwk;have e6:(upd H5 wk (.lst (h.1.map V.str++ml.map V.str))) wk=some (.lst ((h.1++ml).map V.str)):=by rw [ag,xR]
 generalize upd H5 wk (.lst (h.1.map V.str++ml.map V.str))=H6 at s6 e6 ⊢;refine⟨_,rfl,t,_,1,.ref r2,rfl,rfl,aAB (s6 _ _ ht5),rfl,by show 2<=sizeLine;decide,fun wt nwt=>?_⟩;have s7:Same H6 (upd H6 wt (.tup [.ref wk,.ref r2])):=az nwt;have e7:(upd H6 wt (.tup [.ref wk,.ref r2])) wt=some (.tup [.ref wk,.ref r2]):=ag;generalize upd H6 wt (.tup [.ref wk,.ref r2])=H7 at s7 e7 ⊢;have s57:=s6.trans s7;have hw:HouseAt H7 (.ref wt) (h.1++ml,h.2):=⟨wt,wk,r2,us2,rfl,e7,s7 _ _ e6,s57 _ _ hr5,hR5.same s57⟩;have okw:aS (h.1++ml,h.2):=⟨fun x hx=>by
  rcases xG.mp hx with z | z
  ·exact ok.kk x z
  ·exact mk x z,by show (h.1++ml).length<=1000;rw [xq];lia,ok.rs,ok.rl⟩
 refine⟨_,rfl,_,rfl,.ref wt,o,(h.1++ml,h.2),order,rfl,hw,okw,s57 _ _ ho5,gq ml _ hg,by lia,fun l8 ss H8 s8 nl8 hp8 hs8 hl8=>?_⟩;have s58:=s57.trans s8;refine⟨_,rfl,_,rfl,.ref t,o,h,order,rfl,hh5.same s58,ok,s58 _ _ ho5,hg,by lia,fun l9 st H9 s9 nl9 hp9 hs9 hl9=>?_⟩;have s59:=s58.trans s9;have stl:st.length<=201000:=by rw [hp9.length_eq];exact gn ok (by lia)
 refine⟨_,rfl,l9,mm,_,_,rfl,rfl,hl9,s59 _ _ hmm,?_,fun l10 nl10=>?_⟩
 ·rw [xn,xn];exact xE (by lia:_<=202000) (by decide)
 have s10:Same H9 (upd H9 l10 (.lst (st.map V.str++ml.map V.str))):=az nl10;refine⟨l10,st++ml,rfl,aAA (by rw [ag,xR]),?_,fun l11 sv nl11 hp11 hs11=>?_⟩
 ·rw [xq];exact xE (by lia:_<=202000) (by decide)
 have es:sv=ss:=cV (bt hs11) hs8 (hp11.trans ((hp9.append_right ml).trans ((oK hg).symm.trans hp8.symm)));subst es;have s11:=s10.trans (az (o:=.lst (sv.map V.str)) nl11);have s511:=s59.trans s11;refine jM (s11 _ _ (s9 _ _ hl8)) ag (fun y hy=>jR okw order y (hp8.mem_iff.mp hy)) hu ⟨false,rfl,dw ?_⟩;exact q ml mm wt _ (hw.same (s8.trans (s9.trans s11))) okw (B5.trans (cv s511))
end K7
namespace L2
open PySem PyProof.Rows
theorem m7 {X:Cx}{K:PySem.W.Frag}(hK:X.K=K):SlR X (sL K):=by subst hK;exact fO
end L2
namespace K7
open PySem L2 PyProof.Rows
abbrev me:Stmt:=wb
def rB (K:PySem.W.Frag):Sp:=fun vs H Q _=>∃ (a:Addr) (ns:List Int),vs=[.ref a]/\SqL K H a (ns.map V.int)/\ns.length<=63/\∀ H',Q (.bl true) H'
inductive LwI (a:Addr)(H:Hp)(σ':L2.St)(H':Hp):Prop
 | mk (x1 x2 x3 x4 x5 x6 x7 x8:Option V):σ'=[some (.ref a),x1,x2,x3,x4,x5,x6,x7,x8]->Same H H'->LwI a H σ' H'
section
variable {P:Program}{w:World}{K:PySem.W.Frag}{mg:Str->Option Value}{base:Heap}
theorem gw:aL ["script","k","pool","house","order","several","cut","more","wider"] ["script"] (aq me):=scM rfl rfl rfl rfl (by decide +kernel)
theorem mS:(["locks","keys"]:List Str).Nodup:=by decide +kernel
theorem rY:(["room","house","order","cut"]:List Str).Nodup:=by decide +kernel
theorem qE:(["room","wider","order","cut"]:List Str).Nodup:=by decide +kernel
theorem u7 {f fP fH fW fC fB fT fI fL fS fD fN fR fM:Addr}{fd fdP fdH fdW fdC fdB fdT fdI fdL fdS fdD fdN fdR fdM:FuncData}(F:Fun K "law" "law" wb f fd)
 (lT:bf P w K mg base CX0 1 fP fdP ["script","k"] (sq K))(fi:Cal K mg "_law_pool" ["script","k"] fP fdP)
 (kB:bf P w K mg base CX0 3 fH fdH ["pool","most"] qw)(eD:Cal K mg "_law_house" ["pool","most"] fH fdH)
 (k9:bf P w K mg base CX0 2 fC fdC ["pool","most"] p6)(el:Cal K mg "_law_chain" ["pool","most"] fC fdC)
 (aw:bf P w K mg base CX0 1 fT fdT ["pool","many"] gf)(ar:Cal K mg "_law_take" ["pool","many"] fT fdT)
 (lQ:bf P w K mg base CX0 8 fW fdW ["pool","house"] sD)(fj:Cal K mg "_law_walk" ["pool","house"] fW fdW)
 (oh:bf P w K mg base CX0 5 fI fdI ["thing"] j9)(eR:Cal K mg "is_house" ["thing"] fI fdI)
 (oo:bf P w K mg base CX0 7 fL fdL ["house"] lp)(gB:Cal K mg "is_plain" ["house"] fL fdL)
 (jE:bf P w K mg base CX0 8 fS fdS ["house","order"] kc)(eV:Cal K mg "is_stuck" ["house","order"] fS fdS)
 (aW:bf P w K mg base CX0 7 fB fdB ["house","order"] ft)(aB:Cal K mg "keys_behind" ["house","order"] fB fdB)
 (fJ:bf P w K mg base CX0 1 fD fdD ["house","order"] mZ)(ck:Cal K mg "_law_held" ["house","order"] fD fdD)
 (aQ:bf P w K mg base CX0 7 fN fdN ["house","order"] eK)(aC:Cal K mg "next_rooms" ["house","order"] fN fdN)
 (gK:bf P w K mg base CX0 9 fR fdR ["house","order","room"] vP)(cc:Cal K mg "_law_step_right" ["house","order","room"] fR fdR)
 (gi:bf P w K mg base CX0 9 fM fdM ["pool","house","order"] wM)(bW:Cal K mg "_law_mixed_right" ["pool","house","order"] fM fdM)
 (bw:mg "range" = none)(bp:mg "len" = none)(kv:mg "min" = none)(sW:mg "max" = none)(jb:mg "int" = none)(a9:mg "sorted" = none):bf P w K mg base CX0 10 f fd ["script"] (rB K):=by
 refine F.ok gw (fun vs H Q E h=>?_) (fun cdv A outer s H vs Q E hr h=>?_)
 ·obtain⟨a,ns,rfl,_⟩:=h
  rfl
 ·obtain⟨a,ns,rfl,hS,hn,k⟩:=h;have hu:=l7 hr;refine⟨_,(aj (bu (dZ yF rfl (bL rfl bw (ae (av (qs rfl) rfl sW (by decide +kernel) (ae ao (ae (av (f7 rfl) rfl kv (by decide +kernel) (ae ao (ae (av aA rfl bp xU (ae (pv 0) ah)) ah))) ah))) ah)) (aF (i:=1) gw.nd rfl (.inl rfl))
   (aj (aD (i:=2) gw.nd rfl (.inl rfl) (pcl lT fi (hr.mono (by decide:1<=9)) rfl (ae (pv 0) (ae (pv 1) ah))))
   (aj (aD (i:=3) gw.nd rfl (.inr rfl) (aT aM (a7 (ae (pcl kB eD (hr.mono (by decide:3<=9)) rfl (ae (pv 2) (ae ao ah))) (ae (pcl k9 el (hr.mono (by decide:2<=9)) rfl (ae (pv 2) (ae ao ah))) ah))) (bV iy rfl jb (by decide +kernel) (ae (bI iC (pcl aw ar (hr.mono (by decide:1<=9)) rfl (ae (pv 2) (ae ao ah))) ao (aY _)) ah)) (fun _ _=>rfl)))
   (aj (aD (i:=4) gw.nd rfl (.inr rfl) (pcl lQ fj (hr.mono (by decide:8<=9)) rfl (ae (pv 2) (ae (pv 3) ah))))
   (aj (lB (i:=5) (outer:=aq (me)) (N:=["script","k","pool","house","order","several","cut","more","wider"]) (N':=["locks","keys"]) (nl:=2) (ix:=[]) gw.nd rfl (.inl rfl) rfl rfl rfl (cF (aT cw (pv 3) ao (fun _ _=>rfl)))
   (fun _ _ _ _=>(lF (K:=K) (n:=2) rfl rfl (bo (aF (i:=0) mS rfl (.inl rfl) (.inr rfl)) (bo (aF (i:=1) mS rfl (.inl rfl) (.inr rfl)) dF)))) (fun _ _ _ _=>(iE (aZ ve (av (eI (K:=K) rfl) rfl bp xU (ae (pv 0) ah)) ao (aY _))))
   (fun _ _ _ _=>ao))
   (aj (cm (PW.pt (n8 (cG (dj (pcl oh eR (hr.mono (by decide:5<=9)) rfl (ae (pv 3) ah)))) (jy (aZ rf (pcl oo gB (hr.mono (by decide:7<=9)) rfl (ae (pv 3) ah)) (bI ny (pv 5) (a7 ah) (aY _)) (aY _)))))
    (au (aK gy)) aV)
   (aj (cm (PW.pt (n8 (cG (dj (pcl jE eV (hr.mono (by decide:8<=9)) rfl (ae (pv 3) (ae (pv 4) ah))))) (jy (aZ eX (pcl aW aB (hr.mono (by decide:7<=9)) rfl (ae (pv 3) (ae (pv 4) ah))) (pcl fJ ck (hr.mono (by decide:1<=9)) rfl (ae (pv 3) (ae (pv 4) ah))) (aY _)))))
    (au (aK gy)) aV)
   (aj (aD (i:=6) gw.nd rfl (.inr rfl) (pcl aw ar (hr.mono (by decide:1<=9)) rfl (ae (pv 2) (ae (aN bH (av aA rfl bp xU (ae (pv 4) ah)) ao) ah))))
   (aj (cm (aZ rf (pcl jE eV (hr.mono (by decide:8<=9)) rfl (ae (pv 3) (ae (bY fO (pv 4) cZ (dg (pv 6))) ah))) (bI iC (pv 6) (av aA rfl bp xU (ae (pv 4) ah)) (aY _)) (aY _))
    (au (aK gy)) aV)
   (aj (cm (aZ eX (og (tg:=.Name "room" _) (outer:=aq (me)) (N:=["script","k","pool","house","order","several","cut","more","wider"]) (N':=["room","house","order","cut"]) (nl:=1) (ix:=[3,4,6]) rfl rfl rfl (qo rfl bw (ae (qd kJ ao) (ae (aN bH (av aA rfl bp xU (ae (aT cw (pv 3) ao (fun _ _=>rfl)) ah)) ao) ah)))
   (fun _ _ _ _=>(aF (i:=0) rY rfl (.inl rfl) (.inr rfl))) (fun _ _ _ _=>(iE (cG (dj (pcl gK cc hr rfl (ae (pv 1) (ae (bY (m7 (K:=K) rfl) (pv 2) cZ (dg (pv 3))) (ae (pv 0) ah))))))))
   (fun _ _ _ _=>(pv 0))) (a7 ah) (aY _))
    (au (aK gy)) aV)
   (aj (cm (cG (dj (pcl gi bW hr rfl (ae (pv 2) (ae (pv 3) (ae (bY fO (pv 4) cZ (dg (pv 6))) ah))))))
    (au (aK gy)) aV)
   (aj (aD (i:=7) gw.nd rfl (.inl rfl) (aT aM (a7 (ae (a7 (ae iL (ae iL ah))) (ae (bY fO (aT cw (pv 3) ao (fun _ _=>rfl)) cZ (dg ao)) (ae (a7 (ae iL ah)) ah)))) (pcl aw ar (hr.mono (by decide:1<=9)) rfl (ae (pv 2) (ae ao ah))) (fun _ _=>rfl)))
   (aj (aD (i:=8) gw.nd rfl (.inr rfl) (kO (ae (aN gu (aT cw (pv 3) ao (fun _ _=>rfl)) (pv 7)) (ae (aT cw (pv 3) ao (fun _ _=>rfl)) ah))))
   (aj (cm (aZ eX (pcl aW aB (hr.mono (by decide:7<=9)) rfl (ae (pv 8) (ae (pv 4) ah))) (av di rfl a9 aak (ae (aN gu (pcl aW aB (hr.mono (by decide:7<=9)) rfl (ae (pv 3) (ae (pv 4) ah))) (pv 7)) ah)) (aY _))
    (au (aK gy)) aV)
   (au (cm (aZ eX (og (tg:=.Name "room" _) (outer:=aq (me)) (N:=["script","k","pool","house","order","several","cut","more","wider"]) (N':=["room","wider","order","cut"]) (nl:=1) (ix:=[8,4,6]) rfl rfl rfl (cF (pcl aQ aC (hr.mono (by decide:7<=9)) rfl (ae (pv 3) (ae (bY fO (pv 4) cZ (dg (pv 6))) ah))))
   (fun _ _ _ _=>(aF (i:=0) qE rfl (.inl rfl) (.inr rfl))) (fun _ _ _ _=>(iE (aZ (jL (K:=K) rfl) (pv 0) (pcl aQ aC (hr.mono (by decide:7<=9)) rfl (ae (pv 1) (ae (bY (m7 (K:=K) rfl) (pv 2) cZ (dg (pv 3))) ah))) rfl)))
   (fun _ _ _ _=>(pv 0))) (a7 ah) (aY _))
    (au (aK gy)) aV)))))))))))))))))
   (au (aK gy))),?_⟩
  refine⟨fun σ' H'=>LwI a H σ' H',?_,?_⟩
  ·rintro σ H2 ⟨x1,x2,x3,x4,x5,x6,x7,x8,rfl,sm⟩;exact k _
  have mx:∃ m:Nat,(if (if ((ns.map V.int).length:Int) < 10 then ((ns.map V.int).length:Int) else 10) > 1 then (if ((ns.map V.int).length:Int) < 10 then ((ns.map V.int).length:Int) else 10) else 1)=(m:Int)/\m<=10:=by
   refine⟨((if (if ((ns.map V.int).length:Int) < 10 then ((ns.map V.int).length:Int) else 10) > 1 then (if ((ns.map V.int).length:Int) < 10 then ((ns.map V.int).length:Int) else 10) else 1):Int).toNat,?_,?_⟩<;>split<;>split<;>lia
  obtain⟨m,em,hm⟩:=mx;refine⟨_,rfl,a,_,rfl,.inl hS,10,_,rfl,1,_,rfl,(m:Int),xQ (fun z=>[V.int z]) em,by lia,by lia,?_⟩;rw [yf];refine dC (fun i σ' H'=>LwI a H σ' H') ⟨none,none,none,none,none,none,none,none,rfl,Same.refl H⟩ ?_ (fun σ H z=>z);rintro i σ H2 hi ⟨x1,x2,x3,x4,x5,x6,x7,x8,rfl,sm⟩;refine⟨_,rfl,_,rfl,a,i,ns,xQ (fun z=>[V.ref a,V.int z]) (show (0+(i:Int))=(i:Int) by lia),sm.seq hS,by lia,hn,fun p c o np hpo c0 c1=>?_⟩;have s2:Same H2 (upd H2 p o):=az np;have pl2:aJ (upd H2 p o) p c:=⟨o,ag,hpo⟩;generalize upd H2 p o=H20 at s2 pl2 ⊢;refine⟨_,rfl,p,40,c,rfl,pl2,by decide,c0,by lia,fun v1 h1 c3 H3 hh1 ok1 few1 len1 nk1 pl3 g1 g2 b3=>?_⟩;refine⟨_,rfl,p,40,c3,rfl,pl3,by decide,by decide,by lia,by lia,fun v2 h2 c4 H4 hh2 ok2 few2 len2 nk2 pl4 g3 g4 b4=>?_⟩;refine⟨by show 2<=sizeLine;decide,fun lA nL=>?_⟩;have s5:Same H4 (upd H4 lA (.lst [v1,v2])):=az nL;have e5:(upd H4 lA (.lst [v1,v2])) lA=some (.lst [v1,v2]):=ag;have nlp:lA≠p:=fun z=>by
   obtain⟨o4,e4,_⟩:=pl4;rw [z,e4] at nL;cases nL
  generalize upd H4 lA (.lst [v1,v2])=H5 at s5 e5 ⊢;have pl5:=bQ pl4 s5;obtain⟨o5,hp5,io5⟩:=id pl5;refine⟨_,rfl,p,4,c4,o5,rfl,hp5,io5,by decide,by decide,by lia,by lia,fun q c6 o6 z0 z1 g5 g6 io6=>?_⟩;have b6:But p H5 (upd H5 p o6):=But.upd;have pl6:aJ (upd H5 p o6) p c6:=⟨o6,ag,io6⟩;generalize upd H5 p o6=H6 at b6 pl6 ⊢;have nk1':h1.1.length<=276:=by
   have:(dU h1).length=h1.1.length+(h1.2.flatMap (·.2)).length:=xq;lia
  obtain⟨v,h,hat,hh6,ok,len,nk⟩:∃ v h,atI [v1,v2] (if decide (V.int q=V.int 0)=true then 1 else 0)=some v/\HouseAt H6 v h/\aS h/\h.2.length<=40/\h.1.length<=276:=by
   cases decide (V.int q=V.int 0) with
   | true=>exact⟨v2,h2,rfl,(hh2.same s5).but pl5 b6,ok2,len2,nk2⟩
   | false=>exact⟨v1,h1,rfl,((hh1.but pl3 b4).same s5).but pl5 b6,ok1,len1,nk1'⟩
  refine⟨rfl,.inr ⟨_,rfl,lA,_,_,v,rfl,rfl,aAA (b6 _ _ nlp e5),hat,?_⟩⟩;have B6:But p H20 H6:=b3.trans (b4.trans ((cv s5).trans b6));refine⟨_,rfl,_,rfl,p,v,c6,h,rfl,pl6,hh6,ok,by lia,by lia,by lia,fun oA order c7 H7 hO nO hg hst hol pl7 g7 g8 b7=>?_⟩;have hh7:=hh6.but pl6 b7;have nop:oA≠p:=fun z=>by
   obtain⟨o6,e6,_⟩:=pl6;rw [z,e6] at nO;cases nO
  have B7:=B6.trans b7;refine vL (K:=K) hh7 (by lia) fun l8 H8 s8 hl8=>?_;refine tE (hh7.same s8) ok hl8 hu fun H9 s9=>?_;have s79:=s8.trans s9;refine vk (hh7.same s79) ok (s79 _ _ hO) hg hst hol hu fun H10 s10=>?_;have s710:=s79.trans s10;obtain⟨o10,hp10,io10⟩:=bQ pl7 s710;have hO10:=s710 _ _ hO;have ll:((ax order).length:Int)<=60:=by rw [xn];lia
  refine⟨_,rfl,_,rfl,oA,_,rfl,.inl (aAA hO10),_,_,rfl,rfl,p,_,c7,o10,rfl,hp10,io10,by lia,by lia,by lia,by lia,fun q2 c11 o11 z2 z3 g9 g10 io11=>?_⟩;obtain⟨n,rfl⟩:∃ n:Nat,q2=(n:Int):=⟨q2.toNat,by lia⟩;rw [xn] at z3;have hn1:n<=order.length:=by lia
  have b11:But p H10 (upd H10 p o11):=But.upd;have pl11:aJ (upd H10 p o11) p c11:=⟨o11,ag,io11⟩;generalize upd H10 p o11=H11 at b11 pl11 ⊢;have b711:=(cv s710).trans b11;have hh11:=hh7.but pl7 b711;have hO11:=b711 _ _ nop hO;refine vF (K:=K) hh11 ok hO11 hg hst hol hn1 fun H12 s12=>?_;refine xg (K:=K) (hh11.same s12) ok (s12 _ _ hO11) hg hol hn1 hu fun H13 s13=>?_;have s1113:=s12.trans s13;have hO13:=s1113 _ _ hO11;refine⟨_,rfl,_,rfl,_,rfl,_,rfl,_,rfl,oA,_,rfl,aAA hO13,fun cA nc=>?_⟩;rw [fV hn1];have s14:Same H13 (upd H13 cA (.lst (ax (order.take n)))):=az nc;have e14:(upd H13 cA (.lst (ax (order.take n)))) cA=some (.lst (ax (order.take n))):=ag;have pl13:=bQ pl11 s1113;have ncp:cA≠p:=fun z=>by
   obtain⟨o4,e4,_⟩:=pl13;rw [z,e4] at nc;cases nc
  generalize upd H13 cA (.lst (ax (order.take n)))=H14 at s14 e14 ⊢;have s1114:=s1113.trans s14;refine⟨p,v,cA,h,order.take n,c11,rfl,bQ pl11 s1114,hh11.same s1114,ok,e14,ncp,gh hg n,by rw [xN];lia,by lia,by lia,fun c15 H15 pl15 w1 w2 b15=>⟨true,rfl,dw ?_⟩⟩;have b1115:=(cv s1114).trans b15;have hh15:=hh11.but pl11 b1115;have hO15:=b1115 _ _ nop hO11;refine uQ (K:=K) pl15 (by lia) (by lia) hh15 ok nk hO15 nop hg hol hu fun ml mm wt H16 hw okw b16=>?_;refine wa (K:=K) (hh15.but pl15 b16) ok hw okw (b16 _ _ nop hO15) hg hol hn1 hu fun H17 s17=>?_;have B17:But p H20 H17:=B7.trans (b711.trans (b1115.trans (b16.trans (cv s17))));exact⟨_,_,_,_,_,_,_,_,rfl,sm.trans fun b u e=>B17 b u (af e np) (s2 b u e)⟩
end
abbrev bmV:List Value:=[.type "ValueError",.type "Exception",.type "BaseException",.type "object"]
def kW (es:Array DictEntry):Bool:=es.toList.all fun e=>match e.key with | .str _ _=>true | _=>false
theorem xk {K:PySem.W.Frag}{N:Addr}{nc:Value}{nd:Option Addr}{es:Array DictEntry}{ep:Nat}{nsl:Array (Option Value)}(y:K.lookup N=some ⟨nc,nd,.dict es ep,nsl⟩)(s:kW es=true):nsOkIn K N=true:=by
 unfold nsOkIn;rw [y];show es.all _=true;rw [← Array.all_toList];exact s
theorem qk {K:PySem.W.Frag}:tailIn K bmV bmV=true:=by
 rw [abB];show ((bmV == bmV) || _)=true;rw [show (bmV == bmV)=true by decide,Bool.true_or]
theorem uO {h:Heap}{C:Addr}{bm:List Value}(t:OwnTail h bmV (.ref C::bm)):∃ (c0:Value) (dd:Option Addr) (cd:ClassData) (sl:Array (Option Value)) (mA:Str->Option Value),h.get? C=some { cls:=c0,dict:=dd,data:=.cls cd,slots:=sl }/\h.Ns cd.ns mA/\mA "__init__" = none/\OwnTail h bmV bm:=by
 generalize e:(Value.ref C::bm)=l at t;cases t with
 | base=>cases e
 | own a b c d=>cases e;exact⟨_,_,_,_,_,a,b,c,d⟩
section
variable {K:PySem.W.Frag}{C N:Addr}{bm:List Value}{nm q:Str}{bs:List Value}{hdct:Bool}{sn:List Str}{sub:List Value}{ab:Bool}{col:Option Bool}{dd:Option Addr}{k0 k1 k2 k3 k5:Option Value}
theorem qm (x:K.lookup C=some (excClassObj nm q C N bs bm hdct sn sub ab col dd k0 k1 k2 k3 k5 "ValueError.__new__"))(ok:nsOkIn K N=true)(i:nsIn K N "__init__" = some none)(t:tailIn K bmV bm=true):tailIn K bmV (.ref C::bm)=true:=by
 rw [abB];simp only [x,ok,i,t];rw [show ((some none:Option (Option Value)) == some none)=true from rfl];simp
theorem vD {h:Heap}(l:K.lookup C=some (excClassObj nm q C N bs bm hdct sn sub ab col dd k0 k1 k2 k3 k5 "ValueError.__new__"))(t:tailIn K bmV (.ref C::bm)=true)(kin:K.In h):h.get? C=some (excClassObj nm q C N bs bm hdct sn sub ab col dd k0 k1 k2 k3 k5 "ValueError.__new__")/\(∃ mA,h.Ns N mA/\mA "__init__" = none)/\OwnTail h bmV bm:=by
 have g:=kin C _ l;obtain⟨c0,d0,cd,sl,mA,g',ns,i,tl⟩:=uO (tail_of_in kin t);rw [g] at g';cases g';exact⟨g,⟨mA,ns,i⟩,tl⟩
theorem uj {cK NK:Addr}{nmK qK:Str}{bsK:List Value}{hdctK:Bool}{snK:List Str}{subK:List Value}{abK:Bool}{colK:Option Bool}{ddK:Option Addr}{j0 j1 j2 j3 j5:Option Value}(l:K.lookup C=some (excClassObj nm q C N bs (.ref cK::bmV) hdct sn sub ab col dd k0 k1 k2 k3 k5 "ValueError.__new__"))
 (lK:K.lookup cK=some (excClassObj nmK qK cK NK bsK bmV hdctK snK subK abK colK ddK j0 j1 j2 j3 j5 "ValueError.__new__"))(tK:tailIn K bmV (.ref cK::bmV)=true)(i0:nsIn K NK "__init__" = some none)(i1:nsIn K NK "__getattribute__" = some none)(i2:nsIn K NK "__getattr__" = some none)(i3:nsIn K NK "args" = some none)
 (ga:findIn K (.ref C) "__getattribute__" = some (some (.builtin "BaseException.__getattribute__")))(gt:findIn K (.ref C) "__getattr__" = some none)(cl:findIn K (.ref C) "__class__" = some (some (.builtin "object.__class__")))(sp:specialIn K (.builtin "object.__class__") "__get__" = some (some (.builtin "getset_descriptor.__get__")))(tk:takesIn K (.builtin "object.__class__")=some true)(ob:(Value.ref cK::bmV).contains (.type "object")=true):lP K C (.ref cK::bmV):=by
 refine⟨ga,gt,cl,sp,tk,ob,nm,q,N,bs,bmV,hdct,sn,sub,ab,col,dd,k0,k1,k2,k3,k5,"ValueError","ValueError.__new__",PySem.F.attrBase_ValueError,fun h kin=>⟨kin C _ l,?_⟩⟩;obtain⟨g,⟨mA,ns,i⟩,_⟩:=vD lK tK kin;exact .own (cd:={ name:=nmK,bases:=bsK,mro:=.ref cK::bmV,ns:=NK,qualname:=_,hasDict:=hdctK,slotNames:=snK,subclasses:=subK,abstract:=abK,collection:=colK }) g ns (fun n hn=>PySem.W.ns_none_of kin ns (by simp only [quietNames,xA,yP,abD] at hn;rcases hn with rfl | rfl | rfl | rfl<;>assumption)) .base
end
theorem uq {K:PySem.W.Frag}{C N f cK:Addr}{nm q:Str}{bs:List Value}{sn:List Str}{sub:List Value}{ab:Bool}{col:Option Bool}{dd od:Option Addr}{k0 k1 k2 k3 k5:Option Value}{nc:Value}{nd:Option Addr}{es:Array DictEntry}{ep:Nat}{nsl sl:Array (Option Value)}{da:Data}(l:K.lookup C=some (excClassObj nm q C N bs (.ref cK::bmV) true sn sub ab col dd k0 k1 k2 k3 k5 "ValueError.__new__"))(lN:K.lookup N=some ⟨nc,nd,.dict es ep,nsl⟩)(st:kW es=true)(i:nsIn K N "__init__" = some (some (.ref f)))(t:tailIn K bmV (.ref cK::bmV)=true)(kp:keepIn K (.ref C)=true)(sa:findIn K (.ref C) "__setattr__" = some (some (.builtin "object.__setattr__")))(lf:K.lookup f=some ⟨.type "function",od,da,sl⟩):eE K C f (.ref cK::bmV):=by
 refine⟨kp,sa,by simp [bmV],by simp [bmV],fun prog w A E s Q e oe kin he hc q=>?_,nm,q,N,bs,bmV,sn,sub,ab,col,dd,k0,k1,k2,k3,k5,"ValueError","ValueError","ValueError.__new__","ValueError.__new__","ValueError.__init__",bmV,nsFind es,_,aaO,by decide,aaO,?_,rfl,fun h kin=>⟨kin C _ l,⟨_,es,ep,kin N _ lN,rfl,?_,fun _=>rfl⟩,tail_of_in kin t,kin f _ lf⟩⟩
 ·rw [PySem.refuse_eq];refine xo (yX he ?_);rw [hc];refine xo ?_;unfold mroOf classData;refine xo (xo (wpAny_load' (kin C _ l) ?_));refine xC (xC ?_);dsimp only;rw [PySem.refuseLoop_ref,PySem.refuseLoop_ref,PySem.F.store_ValueError.passes];exact xC q
 ·unfold nsIn at i;rw [lN] at i;dsimp only at i;unfold nsFind findBy;rw [← Array.find?_toList];split at i
  ·rename_i en he;rw [he];exact yz i
  ·split at i<;>cases i
 ·intro e he;unfold kW at st;have:=yW.mp st e (Array.mem_toList_iff.mpr he)
  revert this
  cases e.key<;>simp
structure Has (K:PySem.W.Frag)(x:Str)(st:Stmt)(f:Addr)(fd:FuncData):Prop where
 a:nsIn K mainGlobals x=some (some (.ref f))
 F:Fun K x x st f fd
theorem Has.c1 {K:PySem.W.Frag}{h:Heap}{mg:Str->Option Value}{n:Str}{st:Stmt}{f:Addr}{fd:FuncData}{p0:Str}(H:Has K n st f fd)(X:K.In h)(G:h.Ns mainGlobals mg)(b:∀ (kV doc pm:Value) (an:Option Addr) (cdv ct x:Value),bindArgs (fnOf n n (dS st) (bJ st) (aq st) .none kV doc pm an cdv ct) ⟨[x],[]⟩=pure [(p0,x)]):Cal K mg n [p0] f fd :=
 ⟨ze X G H.a,H.F.kp,H.F.binds fun kV doc pm an cdv ct us hl=>match us,hl with | [x],_=>b kV doc pm an cdv ct x⟩
theorem Has.c2 {K:PySem.W.Frag}{h:Heap}{mg:Str->Option Value}{n:Str}{st:Stmt}{f:Addr}{fd:FuncData}{p0 p1:Str}(H:Has K n st f fd)(X:K.In h)(G:h.Ns mainGlobals mg)(b:∀ (kV doc pm:Value) (an:Option Addr) (cdv ct x y:Value),bindArgs (fnOf n n (dS st) (bJ st) (aq st) .none kV doc pm an cdv ct) ⟨[x,y],[]⟩=pure [(p0,x),(p1,y)]):Cal K mg n [p0,p1] f fd :=
 ⟨ze X G H.a,H.F.kp,H.F.binds fun kV doc pm an cdv ct us hl=>match us,hl with | [x,y],_=>b kV doc pm an cdv ct x y⟩
theorem Has.c3 {K:PySem.W.Frag}{h:Heap}{mg:Str->Option Value}{n:Str}{st:Stmt}{f:Addr}{fd:FuncData}{p0 p1 p2:Str}(H:Has K n st f fd)(X:K.In h)(G:h.Ns mainGlobals mg)(b:∀ (kV doc pm:Value) (an:Option Addr) (cdv ct x y z:Value),bindArgs (fnOf n n (dS st) (bJ st) (aq st) .none kV doc pm an cdv ct) ⟨[x,y,z],[]⟩=pure [(p0,x),(p1,y),(p2,z)]):Cal K mg n [p0,p1,p2] f fd :=
 ⟨ze X G H.a,H.F.kp,H.F.binds fun kV doc pm an cdv ct us hl=>match us,hl with | [x,y,z],_=>b kV doc pm an cdv ct x y z⟩
theorem Has.c4 {K:PySem.W.Frag}{h:Heap}{mg:Str->Option Value}{n:Str}{st:Stmt}{f:Addr}{fd:FuncData}{p0 p1 p2 p3:Str}(H:Has K n st f fd)(X:K.In h)(G:h.Ns mainGlobals mg)(b:∀ (kV doc pm:Value) (an:Option Addr) (cdv ct x y z t:Value),bindArgs (fnOf n n (dS st) (bJ st) (aq st) .none kV doc pm an cdv ct) ⟨[x,y,z,t],[]⟩=pure [(p0,x),(p1,y),(p2,z),(p3,t)]):Cal K mg n [p0,p1,p2,p3] f fd :=
 ⟨ze X G H.a,H.F.kp,H.F.binds fun kV doc pm an cdv ct us hl=>match us,hl with | [x,y,z,t],_=>b kV doc pm an cdv ct x y z t⟩
set_option autoImplicit true in
theorem all_mk {l:PySem.W.OpenLaw}{w:World}{K:PySem.W.Frag}{h:Heap}{mg:Str->Option Value}{fa:Addr}(X:K.In h)(G:h.Ns mainGlobals mg)(hfa:mg "law" = some (.ref fa))
 (jD:Has K "is_whole" fk f_is_whole d_is_whole)
 (kq:Has K "is_kind" ki f_is_kind d_is_kind)
 (iV:Has K "are_kinds" iu f_are_kinds d_are_kinds)
 (iN:Has K "are_locks" pd f_are_locks d_are_locks)
 (kK:Has K "is_room" tY f_is_room d_is_room)
 (js:Has K "is_house" iw f_is_house d_is_house)
 (ek:Has K "require_house" v9 f_require_house d_require_house)
 (jB:Has K "is_plain" dN f_is_plain d_is_plain)
 (nE:Has K "serves" gm f_serves d_serves)
 (fZ:Has K "hand_behind" dv f_hand_behind d_hand_behind)
 (iK:Has K "is_step" eU f_is_step d_is_step)
 (eG:Has K "hand_after" cM f_hand_after d_hand_after)
 (dP:Has K "keys_behind" cu f_keys_behind d_keys_behind)
 (gU:Has K "next_rooms" cN f_next_rooms d_next_rooms)
 (ju:Has K "is_stuck" fq f_is_stuck d_is_stuck)
 (iA:Has K "_law_pool" t9 f__law_pool d__law_pool)
 (fv:Has K "_law_take" rX f__law_take d__law_take)
 (gO:Has K "_law_kinds" j6 f__law_kinds d__law_kinds)
 (iO:Has K "_law_some" lr f__law_some d__law_some)
 (gR:Has K "_law_house" oR f__law_house d__law_house)
 (i8:Has K "_law_walk" eh f__law_walk d__law_walk)
 (iF:Has K "_law_held" eA f__law_held d__law_held)
 (kL:Has K "_law_at" gE f__law_at d__law_at)
 (dy:Has K "_law_step_right" bX f__law_step_right d__law_step_right)
 (dk:Has K "_law_mixed_right" bC f__law_mixed_right d__law_mixed_right)
 (gW:Has K "_law_chain" cJ f__law_chain d__law_chain)
 (al:nsIn K mainGlobals "law" = some (some (.ref fl9)))
 (Fl:Fun K "law" "law" wb fl9 dl9)
 (bl:∀ (s:Shared) (v:Value),BindsTo s dl9 ⟨[v],[]⟩ [("script",v)])
 (g_LETTERS:nsIn K mainGlobals "LETTERS" = some (some (.str lettersS t_LETTERS)))
 (g_MOST_LETTERS:nsIn K mainGlobals "MOST_LETTERS" = some (some (.int 4 t_MOST_LETTERS)))
 (g_MOST_LOCKS:nsIn K mainGlobals "MOST_LOCKS" = some (some (.int 4 t_MOST_LOCKS)))
 (z_isinstance:nsIn K mainGlobals "isinstance" = some none)
 (z_str:nsIn K mainGlobals "str" = some none)
 (z_len:nsIn K mainGlobals "len" = some none)
 (z_all:nsIn K mainGlobals "all" = some none)
 (z_list:nsIn K mainGlobals "list" = some none)
 (z_tuple:nsIn K mainGlobals "tuple" = some none)
 (z_sorted:nsIn K mainGlobals "sorted" = some none)
 (z_range:nsIn K mainGlobals "range" = some none)
 (z_min:nsIn K mainGlobals "min" = some none)
 (z_max:nsIn K mainGlobals "max" = some none)
 (z_int:nsIn K mainGlobals "int" = some none)
 (z_bool:nsIn K mainGlobals "bool" = some none)
 (z_enumerate:nsIn K mainGlobals "enumerate" = some none)
 (z_sum:nsIn K mainGlobals "sum" = some none)
 (n_S:nsIn K mainGlobals "NoStep" = some (some (.ref cS)))
 (n_K:nsIn K mainGlobals "KeyroomError" = some (some (.ref cK)))
 (x_K:K.lookup cK=some (excClassObj nmK qnK cK NK bsK bmV hdK snK sbK abK coK ddK kaK kbK kcK kdK keK "ValueError.__new__"))
 (y_K:K.lookup NK=some ⟨ncK,ndK,.dict esK epK,nsK⟩)
 (s_K:kW esK=true)
 (i_K0:nsIn K NK "__init__" = some none)
 (i_K1:nsIn K NK "__getattribute__" = some none)
 (i_K2:nsIn K NK "__getattr__" = some none)
 (i_K3:nsIn K NK "args" = some none)
 (x_S:K.lookup cS=some (excClassObj nmS qnS cS NS bsS (.ref cK::bmV) true snS sbS abS coS ddS kaS kbS kcS kdS keS "ValueError.__new__"))
 (y_S:K.lookup NS=some ⟨ncS,ndS,.dict esS epS,nsS⟩)
 (s_S:kW esS=true)
 (iS:nsIn K NS "__init__" = some (some (.ref fS9)))
 (kS:keepIn K (.ref cS)=true)
 (saS:findIn K (.ref cS) "__setattr__" = some (some (.builtin "object.__setattr__")))
 (naS:findIn K (.ref cS) "at" = some none)
 (lS:K.lookup fS9=some ⟨.type "function",odS9,.func (fnOf "__init__" "NoStep.__init__" (dS bD) (bJ bD) (aq bD) .none kVS9 dcS9 pmS9 anS9 cdS9 ctS9),slS9⟩)
 (cS9:codeIn K cdS9 "NoStep.__init__" = true)
 (kS9:keepIn K (.ref fS9)=true)
 (p_S1:findIn K (.ref cS) "__getattribute__" = some (some (.builtin "BaseException.__getattribute__")))
 (p_S2:findIn K (.ref cS) "__getattr__" = some none)
 (p_S3:findIn K (.ref cS) "__class__" = some (some (.builtin "object.__class__")))
 (u_S:List.contains (Value.ref cS::.ref cK::bmV) (.ref cS)=true)
 (p_1:specialIn K (.builtin "object.__class__") "__get__" = some (some (.builtin "getset_descriptor.__get__")))
 (p_2:takesIn K (.builtin "object.__class__")=some true)
 (p_3:List.contains (Value.ref cK::bmV) (.type "object")=true)
 (q_1:specialIn K (.ref cK) "__getattribute__" = some (some (.builtin "type.__getattribute__")))
 (q_2:readsIn K cK (.type "type")=true)
 (q_3:findCls K (.ref cK) (.type "type") "__init__" = some (.val (.builtin "ValueError.__init__")))
 : ∃ fd:FuncData,(∀ (s:Shared) (v:Value),BindsTo s fd ⟨[v],[]⟩ [("script",v)])/\∀ base:Heap,K.In base->base.Ns mainGlobals mg->bf l.prog w K mg base CX0 10 fa fd ["script"] (rB K):=by
 have e:=hfa.symm.trans (ze X G al);cases e;have cW:=jD.c1 (p0 := "thing") X G fun _ _ _ _ _ _ _=>rfl;have pj:=kq.c1 (p0 := "thing") X G fun _ _ _ _ _ _ _=>rfl;have fu:=iV.c1 (p0 := "thing") X G fun _ _ _ _ _ _ _=>rfl;have lH:=iN.c1 (p0 := "thing") X G fun _ _ _ _ _ _ _=>rfl;have pF:=kK.c1 (p0 := "thing") X G fun _ _ _ _ _ _ _=>rfl;have eR:=js.c1 (p0 := "thing") X G fun _ _ _ _ _ _ _=>rfl;have aG:=ek.c1 (p0 := "thing") X G fun _ _ _ _ _ _ _=>rfl;have gB:=jB.c1 (p0 := "house") X G fun _ _ _ _ _ _ _=>rfl;have eN:=nE.c2 (p0 := "hand") (p1 := "locks") X G fun _ _ _ _ _ _ _ _=>rfl;have bG:=fZ.c2 (p0 := "hand") (p1 := "room") X G fun _ _ _ _ _ _ _ _=>rfl;have bZ:=iK.c4 (p0 := "rooms") (p1 := "hand") (p2 := "gone") (p3 := "number") X G fun _ _ _ _ _ _ _ _ _ _=>rfl;have aX:=eG.c2 (p0 := "house") (p1 := "order") X G fun _ _ _ _ _ _ _ _=>rfl;have aB:=dP.c2 (p0 := "house") (p1 := "order") X G fun _ _ _ _ _ _ _ _=>rfl;have aC:=gU.c2 (p0 := "house") (p1 := "order") X G fun _ _ _ _ _ _ _ _=>rfl;have eV:=ju.c2 (p0 := "house") (p1 := "order") X G fun _ _ _ _ _ _ _ _=>rfl;have fi:=iA.c2 (p0 := "script") (p1 := "k") X G fun _ _ _ _ _ _ _ _=>rfl;have ar:=fv.c2 (p0 := "pool") (p1 := "many") X G fun _ _ _ _ _ _ _ _=>rfl;have eF:=gO.c2 (p0 := "pool") (p1 := "many") X G fun _ _ _ _ _ _ _ _=>rfl;have cq:=iO.c3 (p0 := "pool") (p1 := "kinds") (p2 := "many") X G fun _ _ _ _ _ _ _ _ _=>rfl;have eD:=gR.c2 (p0 := "pool") (p1 := "most") X G fun _ _ _ _ _ _ _ _=>rfl;have fj:=i8.c2 (p0 := "pool") (p1 := "house") X G fun _ _ _ _ _ _ _ _=>rfl;have ck:=iF.c2 (p0 := "house") (p1 := "order") X G fun _ _ _ _ _ _ _ _=>rfl;have ij:=kL.c2 (p0 := "house") (p1 := "order") X G fun _ _ _ _ _ _ _ _=>rfl;have cc:=dy.c3 (p0 := "house") (p1 := "order") (p2 := "room") X G fun _ _ _ _ _ _ _ _ _=>rfl;have bW:=dk.c3 (p0 := "pool") (p1 := "house") (p2 := "order") X G fun _ _ _ _ _ _ _ _ _=>rfl;have el:=gW.c2 (p0 := "pool") (p1 := "most") X G fun _ _ _ _ _ _ _ _=>rfl;have nV:=ze X G g_LETTERS;have ik:=ze X G g_MOST_LETTERS;have jQ:=ze X G g_MOST_LOCKS;have aR:=yp X G z_isinstance;have rR:=yp X G z_str;have bp:=yp X G z_len;have kX:=yp X G z_all;have bU:=yp X G z_list;have qf:=yp X G z_tuple;have a9:=yp X G z_sorted;have bw:=yp X G z_range;have kv:=yp X G z_min;have sW:=yp X G z_max;have jb:=yp X G z_int;have p9:=yp X G z_bool;have cg:=yp X G z_enumerate;have sU:=yp X G z_sum;have m_S:=ze X G n_S;have m_K:=ze X G n_K;have FS:=fun_mk (st:=bD) lS cS9 kS9;have bS:=FS.binds (ps:=["self","at"]) fun _ _ _ _ _ _ us hl=>match us,hl with | [_,_],_=>rfl
 refine⟨dl9,bl,fun base _ _=>?_⟩;have t_K:=qm x_K (xk y_K s_K) i_K0 qk;have oS:=uq x_S y_S s_S iS t_K kS saS lS;have tpK:pS K cK:=⟨q_1,q_2,q_3⟩;have hasS:pL K cS "at" := ⟨⟨_,uj x_S x_K t_K i_K0 i_K1 i_K2 i_K3 p_S1 p_S2 p_S3 p_1 p_2 p_3⟩,⟨_,_,oS⟩,naS⟩;have unS:mK K cS (.ref cS):=⟨_,_,rfl,⟨_,_,_,_,_,_,_,_,_,_,_,_,_,_,_,_,fun h kin=>kin cS _ x_S⟩,u_S⟩;have Gl:Glb mg:=⟨aR,rR,bp,kX,⟨_,nV⟩,⟨_,ik⟩⟩;have GK:=rN (P:=l.prog) (w:=w) (base:=base) iV.F kq.F pj Gl bU;have GL:=qX iN.F GK fu bp a9 ⟨_,jQ⟩;have GR:=tV kK.F GL lH GK fu aR bp qf;have GH:=rG js.F GR pF GK fu aR bp qf bU kX;have GQ:=uF ek.F GH eR;have GW:=rK (P:=l.prog) (w:=w) (mg:=mg) (base:=base) jD.F p9 jb aR;have GV:=oW (P:=l.prog) (w:=w) (mg:=mg) (base:=base) nE.F kX;have GB:=pI (P:=l.prog) (w:=w) (mg:=mg) (base:=base) fZ.F bU;have GS:=sQ iK.F GW cW GV eN bp;have GZ:=qI iK.F GW cW GV eN bp;have GA:=rT eG.F GS bZ GB bG cg aR bU;have GY:=qL dP.F GQ aG GA aX a9;have GN:=qH gU.F GQ aG GA aX GS bZ bp bw;have I1:=rP (P:=l.prog) (w:=w) (base:=base) FS oS tpK m_K rR naS;have XA:=rV eG.F GZ bZ GB bG cg aR bU oS I1 bS m_S;have XK:=tL dP.F GQ aG XA aX a9;have AT:=vV kL.F XK aB m_S oS hasS unS;have PL:=rp jB.F GQ aG kX bp;have ST:=qZ ju.F GN aC;have T1:=tZ (P:=l.prog) (w:=w) (mg:=mg) (base:=base) iA.F bp;have T2:=qb (P:=l.prog) (w:=w) (mg:=mg) (base:=base) fv.F;have T3:=ui gO.F T2 ar bw bp;have T4:=tI (P:=l.prog) (w:=w) (mg:=mg) (base:=base) iO.F fv.F ar bw bp;have T5:=qF gR.F T2 ar T3 eF T4 cq bw bp kv a9 sU;have T6:=rZ gW.F T2 ar jb bp bU bw a9;have T7:=sJ i8.F T2 ar GN aC bp;have T8:=sV (P:=l.prog) (w:=w) (mg:=mg) (base:=base) iF.F bU a9;have T9:=vK dy.F GN aC GY aB T8 ck AT ij bp;have U1:=vJ dk.F T2 ar GN aC GY aB bp bw;exact u7 Fl T1 fi T5 eD T6 el T2 ar T7 fj GH eR PL gB ST eV GY aB T8 ck GN aC T9 cc U1 bW bw bp kv sW jb a9
theorem walk {l:PySem.W.OpenLaw}{q:Program}{loose:List Str}{XP:(Str->Option Value)->Heap->Prop}{YP:World->Heap->Prop}{d:DefRec}{K:Params->PySem.W.Frag}(hn:l.most=some 63)(hdf:d.params.defaults=[])
 (hY:∀ (w:World) (h:Heap),YP w h->(K w.params).In h)
 (F:∀ (w:World) (mg:Str->Option Value) (fa:Addr) (h:Heap),(K w.params).In h->h.Ns mainGlobals mg->mg d.name=some (.ref fa) →
  ∃ fd:FuncData,(∀ (s:Shared) (u:Value),BindsTo s fd ⟨[u],[]⟩ [("script",u)])/\∀ base:Heap,(K w.params).In base->base.Ns mainGlobals mg->bf l.prog w (K w.params) mg base CX0 10 fa fd ["script"] (rB (K w.params))) :
 PySem.W.WalkO q loose XP YP l.row.toRowW d [] (fun f vs=>PySem.call f vs) :=
 L2.walk_of (n:=63) (k:=10) (x := "script") (CX:=fun _=>CX0) (sp:=fun w=>rB (K w.params)) hn (by decide) hdf ⟨rfl,by decide,by decide⟩ hY F (fun _ _ a ns hl _ hS=>⟨a,ns,rfl,hS,hl,fun _=>rfl⟩) fun _ _ _ _ _ z=>z
end K7
namespace PySem.W.Fast
def tw10146127243506182925:=0
def tw10725417164773842738:=0
def tw10966489385830414480:=0
def tw11120718296006192651:=0
def tw11249518439542119512:=0
def tw11353143881022225404:=0
def tw11376149487790642323:=0
def tw12104642414395874776:=0
def tw12184850002777535109:=0
def tw12385594644066504800:=0
def tw1260770270019836533:=0
def tw12615981400876207228:=0
def tw13784059222901297615:=0
def tw13925546710476522243:=0
def tw14006654498373151109:=0
def tw14129001089283781742:=0
def tw14678320780555802669:=0
def tw15017514397614206706:=0
def tw15672462963002523144:=0
def tw15909098906574120442:=0
def tw16235803918965980876:=0
def tw16272369558974231875:=0
def tw16358739924588860935:=0
def tw16643759601256048747:=0
def tw16654614818819227019:=0
def tw16690810994157791801:=0
def tw17423426700980832710:=0
def tw17448589765912467242:=0
def tw17589412977475591858:=0
def tw17720231503900154147:=0
def tw17803912857271302309:=0
def tw2245528665325005122:=0
def tw2381012361471804368:=0
def tw319791873067261286:=0
def tw3723670140870403268:=0
def tw4812586932061894335:=0
def tw4888187279835885194:=0
def tw5454273416553562687:=0
def tw5471376119823800921:=0
def tw5973351847224922156:=0
def tw6016702825131230254:=0
def tw6042997788448603431:=0
def tw6855145225772693017:=0
def tw7051153285397418559:=0
def tw7254735162203035156:=0
def tw7532360983281647755:=0
def tw7654782213730601020:=0
def tw8177103083184380683:=0
def tw8259696394703688598:=0
def tw8408170968121304377:=0
def tw8648936033456638350:=0
def tw8670457061265151414:=0
def tw9043564922393379578:=0
def tw9059797084884519371:=0
def tw9327750157218224915:=0
def tw9357148047614901481:=0
end PySem.W.Fast
open PySem PySem.W PyProof.Rows
set_option maxRecDepth 100000 in
set_option maxHeartbeats 0 in
theorem PySem.Challenge.cw_keyrooms_k05_whole_orders_gone_holds : PySem.Challenge.rw_keyrooms_k05_whole_orders_gone.Holds := by
  w_on; o_law; k_head; (case hw => w_witness2)
  k_fill
  refine K7.walk (l := PySem.Challenge.rw_keyrooms_k05_whole_orders_gone) rfl rfl (fun w h Y => PySem.W.kIn_of Y) ?F
  case F =>
    intro w mg fa h KX G hmg
    refine' K7.all_mk KX G hmg ⟨_,L2.fun_mk _ _ _⟩ ⟨_,L2.fun_mk _ _ _⟩ ⟨_,L2.fun_mk _ _ _⟩ ⟨_,L2.fun_mk _ _ _⟩ ⟨_,L2.fun_mk _ _ _⟩ ⟨_,L2.fun_mk _ _ _⟩ ⟨_,L2.fun_mk _ _ _⟩ ⟨_,L2.fun_mk _ _ _⟩ ⟨_,L2.fun_mk _ _ _⟩ ⟨_,L2.fun_mk _ _ _⟩ ⟨_,L2.fun_mk _ _ _⟩ ⟨_,L2.fun_mk _ _ _⟩ ⟨_,L2.fun_mk _ _ _⟩ ⟨_,L2.fun_mk _ _ _⟩ ⟨_,L2.fun_mk _ _ _⟩ ⟨_,L2.fun_mk _ _ _⟩ ⟨_,L2.fun_mk _ _ _⟩ ⟨_,L2.fun_mk _ _ _⟩ ⟨_,L2.fun_mk _ _ _⟩ ⟨_,L2.fun_mk _ _ _⟩ ⟨_,L2.fun_mk _ _ _⟩ ⟨_,L2.fun_mk _ _ _⟩ ⟨_,L2.fun_mk _ _ _⟩ ⟨_,L2.fun_mk _ _ _⟩ ⟨_,L2.fun_mk _ _ _⟩ ⟨_,L2.fun_mk _ _ _⟩ _ (L2.fun_mk _ _ _) ?bl _ _ _ _ _ _ _ _ _ _ _ _ _ _ _ _ _ _ _ _ _ ?s_K _ _ _ _ _ _ ?s_S _ _ _ _ _ _ _ _ _ _ ?u_S _ _ ?p_3 _ _ _
    (case bl => exact fun s v => .of_eq rfl)
    any_goals k_is
    (case s_K => first | rfl | decide | decide +kernel)
    (case s_S => first | rfl | decide | decide +kernel)
    (case u_S => first | rfl | decide | decide +kernel)
    (case p_3 => first | rfl | decide | decide +kernel)
