import PyProof.Rows.All
import Wide.All
import OpenK.AllK
import Wide.FinOn
import Lean
import PyProof.EqAt
import PyProof.EqKinds
import PyProof.TupleCall
import PyProof.Rows.SetFrom
import PyProof.SetRoads
import KE.KDictSum
import PyProof.DictCompW
import KE.KEqDict
import KE.KxText
import PyProof.WalksEnum
import PyProof.EnumMake
import KE.KDictLaws
import PyProof.ReprBulk
import KE.KRevSl
import PyProof.AttrMissHeap
import KE.KDictOf
import PyProof.ZipIter
import PyProof.ListRange
import KE.KUnpackStar
import PyProof.Rows.StrNews2
import PyProof.Rows.StrItems
import PyProof.Rows.SortStr
import PyProof.StrLawsTight
import PyProof.StrLawsChain
import PyProof.Rows.StrPartPair
import PyProof.Rows.ReprOcc
import PySem.Challenge.RW_keyrooms_k50_houses_written_and_read
set_option Elab.async false
set_option linter.all false
set_option maxRecDepth 100000
set_option maxHeartbeats 4000000
namespace L2
open PySem PySem.Spec PyProof.Rows
abbrev Key:=Sum Int Str
def om:Key->Value->Bool
  | .inl k,v=>Value.isInt k v
  | .inr x,v=>Value.isStrOf x v
def pP (w:World):Key->Int
  | .inl k=>hashInt k
  | .inr x=>hashStr w x
theorem bj:∀ {k:Key} {v:Value},om k v=true->(∃ i t,k=Sum.inl i/\v=Value.int i t)\/(∃ x t,k=Sum.inr x/\v=Value.str x t)
  | .inl i,v,h=>by
    obtain⟨t,e⟩:=Value.isInt_shape (k:=i) (v:=v) h
    exact .inl ⟨i,t,rfl,e⟩
  | .inr x,v,h=>by
    obtain⟨t,e⟩:=Value.isStrOf_shape (x:=x) (v:=v) h
    exact .inr ⟨x,t,rfl,e⟩
theorem n8 (a b:Int):decide ((Sum.inl a:Key)=Sum.inl b)=(a == b):=by
  by_cases e:a=b
  · subst e;simp
  · have h:¬ (Sum.inl a:Key)=Sum.inl b:=fun q=>e (Sum.inl.inj q)
    rw [decide_eq_false h]
    exact (beq_eq_false_iff_ne.mpr e).symm
theorem n9 (a b:Str):decide ((Sum.inr a:Key)=Sum.inr b)=decide (a=b):=by
  by_cases e:a=b
  · subst e;simp
  · have h:¬ (Sum.inr a:Key)=Sum.inr b:=fun q=>e (Sum.inr.inj q)
    rw [decide_eq_false h,decide_eq_false e]
theorem oa (a:Int)(b:Str):decide ((Sum.inl a:Key)=Sum.inr b)=false:=decide_eq_false (fun q=>nomatch q)
theorem nT (a:Str)(b:Int):decide ((Sum.inr a:Key)=Sum.inl b)=false:=decide_eq_false (fun q=>nomatch q)
def iA (prog:Program)(w:World):PySem.KeyKind prog w Key where
  is:=om
  hash:=pP w
  inj:=fun v a b ha hb=>by
    rcases bj ha with ⟨i,t,rfl,rfl⟩ | ⟨x,t,rfl,rfl⟩
    · rcases bj hb with ⟨j,u,rfl,e⟩ | ⟨y,u,rfl,e⟩
      · injection e with e1 _;rw [e1]
      · exact nomatch e
    · rcases bj hb with ⟨j,u,rfl,e⟩ | ⟨y,u,rfl,e⟩
      · exact nomatch e
      · injection e with e1 _;rw [e1]
  byValue:=fun k v h=>by
    rcases bj h with ⟨i,t,rfl,rfl⟩ | ⟨x,t,rfl,rfl⟩<;>rfl
  pyHash:=fun hv h=>by
    rcases bj hv with ⟨i,t,rfl,rfl⟩ | ⟨x,t,rfl,rfl⟩
    · exact wpAny_pyHash_int h
    · exact wpAny_pyHash_str h
  eqBool:=fun hu hv h=>by
    rcases bj hu with ⟨i,t,rfl,rfl⟩ | ⟨x,t,rfl,rfl⟩
    · rcases bj hv with ⟨j,u,rfl,rfl⟩ | ⟨y,u,rfl,rfl⟩
      · rw [n8] at h;exact wpAny_eqBool_int h
      · rw [oa] at h;exact SeqAt.EqAt.int_str i t y u _ _ _ _ h
    · rcases bj hv with ⟨j,u,rfl,rfl⟩ | ⟨y,u,rfl,rfl⟩
      · rw [nT] at h;exact SeqAt.EqAt.str_int x t j u _ _ _ _ h
      · rw [n9] at h;exact wpAny_eqBool_str h
  «strs»:=fun k x t v h=>by
    rcases bj h with ⟨i,u,rfl,e⟩ | ⟨y,u,rfl,e⟩
    · exact nomatch e
    · injection e with e1 _
      subst e1
      cases v<;>rfl
inductive V where
  | non | bl (b:Bool) | int (i:Int) | str (x:Str) | byt (b:Array UInt8) | flt (b:UInt64) | ref (a:Addr) | ty (n:String)
  deriving DecidableEq
def RelV:V->Value->Prop
  | .non,u=>u=Value.none
  | .bl b,u=>u=Value.bool b
  | .int i,u=>∃ t,u=Value.int i t
  | .str x,u=>∃ t,u=Value.str x t
  | .byt b,u=>∃ t,u=Value.bytes b t
  | .flt b,u=>∃ t,u=Value.float b t
  | .ref a,u=>u=Value.ref a
  | .ty n,u=>u=Value.type n
abbrev Vals:List V->List Value->Prop:=Paired RelV
theorem Vals.length {xs:List V}{us:List Value}(r:Vals xs us):xs.length=us.length:=Paired.length r
theorem Vals.get:∀ {xs:List V} {us:List Value} {i:Nat} {x:V},Vals xs us->xs[i]? = some x->∃ u,us[i]? = some u/\RelV x u
  | _,_,_,_,.nil,e=>by simp at e
  | _,_,0,_,.cons r _,e=>by simp at e;subst e;exact⟨_,rfl,r⟩
  | _,_,i+1,x,.cons _ t,e=>by
    obtain⟨u,h1,h2⟩:=Vals.get (i:=i) (x:=x) t (by simpa using e)
    exact⟨u,by simpa using h1,h2⟩
theorem Vals.append:∀ {xs ys:List V} {us ws:List Value},Vals xs us->Vals ys ws->Vals (xs++ys) (us++ws)
  | _,_,_,_,.nil,s=>s
  | _,_,_,_,.cons r t,s=>.cons r (Vals.append t s)
theorem Vals.take:∀ {xs:List V} {us:List Value} (n:Nat),Vals xs us->Vals (xs.take n) (us.take n)
  | _,_,0,_=>.nil
  | _,_,_+1,.nil=>.nil
  | _,_,n+1,.cons r t=>.cons r (Vals.take n t)
theorem Vals.drop:∀ {xs:List V} {us:List Value} (n:Nat),Vals xs us->Vals (xs.drop n) (us.drop n)
  | _,_,0,r=>r
  | _,_,_+1,.nil=>.nil
  | _,_,n+1,.cons _ t=>Vals.drop n t
def o0:Option V->Option Value->Prop
  | some v,some u=>RelV v u
  | none,none=>True
  | _,_=>False
def KV {κ:Type}:List (κ×V)->List (κ×Value)->Prop:=Paired fun (p:κ×V) (q:κ×Value)=>p.1=q.1/\RelV p.2 q.2
def kV:Key->V
  | .inl i=>.int i
  | .inr x=>.str x
inductive HO where
  | lst (xs:List V)
  | tup (xs:List V)
  | dK (kvs:List (Key×V)) | dT (kvs:List (List Key×V))
  | set (S:Int->Bool) (n:Nat)
  | ins (C dx:Addr) (fs:List (Str×V))
  | own (x:Addr)
  | xd (fs:List (Str×V))
  | met (f x:Addr)
  | rng (lo hi:Int)
  | frz (o:Obj) (u:HO)
  | tbl (ps:Array Value)
  | ext (φ:Heap->Prop)
abbrev Hp:=Addr->Option HO
def upd (H:Hp)(a:Addr)(o:HO):Hp:=fun b=>if b=a then some o else H b
theorem af {H:Hp}{a:Addr}{o:HO}:upd H a o a=some o:=by unfold upd;rw [if_pos rfl]
theorem au {H:Hp}{a b:Addr}{o:HO}(h:b≠a):upd H a o b=H b:=by unfold upd;rw [if_neg h]
theorem ah {H:Hp}{a b:Addr}{o:HO}(h:H a=some o)(h':H b=none):a≠b:=by
  intro e;subst e;rw [h] at h';cases h'
section
variable (P:Program)(w:World)
def ObjOk (H:Hp)(h:Heap)(a:Addr):HO->Prop
  | .lst xs=>xs.length<=sizeLine/\∃ (its:List Value) (n:Nat),Vals xs its/\h.get? a=some { cls:=.type "list",data:=.seq its.toArray n }
  | .tup xs=>xs.length<=sizeLine/\∃ its:List Value,Vals xs its/\IsTup h a its.toArray
  | .dK kvs=>kvs.length<=sizeLine/\(a == sysModules)=false/\∃ vs,KV kvs vs/\h.DictOf (iA P w) a vs
  | .dT kvs=>kvs.length<=sizeLine/\(a == sysModules)=false/\∃ xs:List (List Key×Addr×Value),
      Paired (fun (p:List Key×V) (q:List Key×Addr×Value)=>p.1=q.1/\H q.2.1=some (.tup (p.1.map kV))/\RelV p.2 q.2.2) kvs xs ∧
      ∃ o es ep,h.get? a=some o/\o.ExactDict/\o.data=.dict es ep/\es.toList=xs.map (entryOfKey (tupleKind (iA P w)))/\(xs.map (·.1)).Nodup
  | .set S n=>h.SetOf (intKind P w) a S n
  | .ins C dx fs=>H dx=some (.own a)/\fs.length<=1000/\dx≠a/\h.get? a=some (PySem.W.instObj C dx) ∧
      ∃ mA,h.Ns1 dx mA/\(∀ f,o0 (fs.lookup f) (mA f))/\PySem.Within mA (fs.map (·.1))
  | .own _=>∃ o,h.get? a=some o
  | .xd fs=>∃ mA,h.Ns1 a mA/\∀ f,o0 (fs.lookup f) (mA f)
  | .rng lo hi=>∃ t u v,h.get? a=some { cls:=.type "range",data:=.fields #[.int lo t,.int hi u,.int 1 v] }
  | .frz o u=>h.get? a=some o/\ObjOk H h a u
  | .tbl ps=>h.get? a=some { cls:=.none,data:=.fields ps }
  | .met f x=>h.get? a=some (PySem.W.methodObj (.ref f) (.ref x))
  | .ext φ=>φ h/\(∃ o,h.get? a=some o)/\∀ h1 h2:Heap,φ h1->(∀ o,h1.get? a=some o->h2.get? a=some o)->φ h2
def HOk (H:Hp)(h:Heap):Prop:=∀ a o,H a=some o->ObjOk P w H h a o
end
section
variable {P:Program}{w:World}{H H':Hp}{h h':Heap}{a:Addr}{o:HO}
theorem ObjOk.lt (x:ObjOk P w H h a o):a < h.objs.size:=by
  cases o with
  | lst xs=>obtain⟨_,_,_,_,e⟩:=x;exact Heap.lt_size e
  | tup xs=>obtain⟨_,_,_,p⟩:=x;exact p.lt
  | dK kvs=>obtain⟨_,_,_,_,o,_,_,e,_⟩:=x;exact Heap.lt_size e
  | dT kvs=>obtain⟨_,_,_,_,o,_,_,e,_⟩:=x;exact Heap.lt_size e
  | set S n=>obtain⟨o,_,_,_,e,_⟩:=x;exact Heap.lt_size e
  | ins C dx fs=>obtain⟨_,_,_,e,_⟩:=x;exact Heap.lt_size e
  | own y=>obtain⟨_,e⟩:=x;exact Heap.lt_size e
  | xd fs=>obtain⟨_,⟨_,_,_,e,_⟩,_⟩:=x;exact Heap.lt_size e
  | rng lo hi=>obtain⟨_,_,_,e⟩:=x;exact Heap.lt_size e
  | frz ob u=>obtain⟨e,_⟩:=x;exact Heap.lt_size e
  | tbl ps=>exact Heap.lt_size (show h.get? a=some _ from x)
  | met f y=>exact Heap.lt_size (show h.get? a=some _ from x)
  | ext φ=>obtain⟨_,⟨_,e⟩,_⟩:=x;exact Heap.lt_size e
theorem Paired.mapP {α β:Type}{F G:α->β->Prop}:∀ {l₁:List α} {l₂:List β},Paired F l₁ l₂->(∀ a b,F a b->G a b)->Paired G l₁ l₂
  | _,_,.nil,_=>.nil
  | _,_,.cons r t,f=>.cons (f _ _ r) (Paired.mapP t f)
theorem ObjOk.stay (x:ObjOk P w H h a o)(k:∀ b u,(b=a\/H b=some (.own a))->h.get? b=some u->h'.get? b=some u)
    (ho:∀ b,H b=some (.own a)->H' b=some (.own a))(ht:∀ b xs,H b=some (.tup xs)->H' b=some (.tup xs)):ObjOk P w H' h' a o:=by
  induction o with
  | lst xs=>obtain⟨z,its,n,r,e⟩:=x;exact⟨z,its,n,r,k _ _ (.inl rfl) e⟩
  | tup xs=>obtain⟨z,its,r,ob,e,c⟩:=x;exact⟨z,its,r,ob,k _ _ (.inl rfl) e,c⟩
  | dK kvs=>obtain⟨z,y,vs,r,ob,es,ep,e,c⟩:=x;exact⟨z,y,vs,r,ob,es,ep,k _ _ (.inl rfl) e,c⟩
  | dT kvs =>
    obtain⟨z,y,xs,r,ob,es,ep,e,c⟩:=x
    exact⟨z,y,xs,Paired.mapP r fun p q z=>⟨z.1,ht _ _ z.2.1,z.2.2⟩,ob,es,ep,k _ _ (.inl rfl) e,c⟩
  | set S n=>obtain⟨ob,es,ep,t,e,c⟩:=x;exact⟨ob,es,ep,t,k _ _ (.inl rfl) e,c⟩
  | ins C dx fs =>
    obtain⟨d,z,ne,e,mA,⟨od,es,ep,e2,c⟩,r⟩:=x
    exact⟨ho _ d,z,ne,k _ _ (.inl rfl) e,mA,⟨od,es,ep,k _ _ (.inr d) e2,c⟩,r⟩
  | own y=>obtain⟨ob,e⟩:=x;exact⟨ob,k _ _ (.inl rfl) e⟩
  | xd fs=>obtain⟨mA,⟨od,es,ep,e,c⟩,r⟩:=x;exact⟨mA,⟨od,es,ep,k _ _ (.inl rfl) e,c⟩,r⟩
  | rng lo hi=>obtain⟨t,u,v,e⟩:=x;exact⟨t,u,v,k _ _ (.inl rfl) e⟩
  | frz ob u ih=>obtain⟨e,q⟩:=x;exact⟨k _ _ (.inl rfl) e,ih q⟩
  | tbl ps =>
    have e:h.get? a=some { cls:=.none,data:=.fields ps }:=x
    show h'.get? a=some { cls:=.none,data:=.fields ps }
    exact k a _ (.inl rfl) e
  | met f y =>
    have e:h.get? a=some (PySem.W.methodObj (.ref f) (.ref y)):=x
    show h'.get? a=some (PySem.W.methodObj (.ref f) (.ref y))
    exact k a _ (.inl rfl) e
  | ext φ=>obtain⟨p,⟨o,e⟩,st⟩:=x;exact⟨st _ _ p fun o q=>k _ _ (.inl rfl) q,⟨o,k _ _ (.inl rfl) e⟩,st⟩
theorem HOk.lt (x:HOk P w H h)(e:H a=some o):a < h.objs.size:=(x a o e).lt
theorem HOk.fresh (x:HOk P w H h)(e:h.objs.size<=a):H a=none:=by
  cases q:H a with
  | none=>rfl
  | some u=>exact absurd (Nat.lt_of_lt_of_le (x.lt q) e) (Nat.lt_irrefl _)
theorem HOk.kept (x:HOk P w H h)(k:∀ b u,h.get? b=some u->h'.get? b=some u):HOk P w H h':=fun a o e =>
  (x a o e).stay (fun b u _ q=>k b u q) (fun _ q=>q) fun _ _ q=>q
theorem HOk.laid (x:HOk P w H h)(k:∀ b u,h.get? b=some u->h'.get? b=some u)(hp:h.objs.size<=a)(new:ObjOk P w (upd H a o) h' a o):HOk P w (upd H a o) h':=fun b u e=>by
  have hn:=x.fresh hp
  by_cases hb:b=a
  · subst hb;rw [af] at e;cases e;exact new
  · rw [au hb] at e
    exact (x b u e).stay (fun c v _ q=>k c v q) (fun c q=>by rw [au (ah q hn)];exact q) fun c xs q=>by rw [au (ah q hn)];exact q
end
def Rd (H:Hp)(a:Addr)(u:HO):Prop:=H a=some u\/∃ o,H a=some (.frz o u)
theorem Rd.ok {P:Program}{w:World}{H:Hp}{h:Heap}{a:Addr}{u:HO}(r:Rd H a u)(x:HOk P w H h):ObjOk P w H h a u:=by
  rcases r with r | ⟨o,r⟩
  · exact x a u r
  · obtain⟨_,q⟩:=x a _ r
    exact q
def Mut:Option HO->Prop
  | some (.lst _)=>True
  | some (.dK _)=>True
  | some (.dT _)=>True
  | some (.set _ _)=>True
  | some (.ins _ _ _)=>True
  | some (.ext _)=>True
  | _=>False
section
variable {P:Program}{w:World}{H:Hp}{h h':Heap}{x e:Addr}{o':HO}
theorem HOk.write (ok:HOk P w H h)(mu:Mut (H x))(he:e=x\/H e=some (.own x))(k:∀ b u,b≠e->h.get? b=some u->h'.get? b=some u)(heo:∃ u,h'.get? e=some u)
    (new:ObjOk P w (upd H x o') h' x o'):HOk P w (upd H x o') h':=fun b u q=>by
  have nown:∀ c y,H c=some (.own y)->c≠x:=fun c y r z=>by subst z;rw [r] at mu;exact mu
  have ntup:∀ c xs,H c=some (.tup xs)->c≠x:=fun c xs r z=>by subst z;rw [r] at mu;exact mu
  by_cases hb:b=x
  · subst hb;rw [af] at q;cases q;exact new
  · rw [au hb] at q
    by_cases hbe:b=e
    · have q':H b=some (.own x):=by
        rcases he with z | z
        · exact absurd (hbe.trans z) hb
        · rw [hbe];exact z
      rw [q] at q';cases q'
      obtain⟨v,hv⟩:=heo
      exact⟨v,by rw [hbe];exact hv⟩
    · refine (ok b u q).stay (fun c v hc r=>k c v ?_ r) (fun c r=>by rw [au (nown c b r)];exact r) fun c xs r=>by rw [au (ntup c xs r)];exact r
      rcases hc with rfl | hc
      · exact hbe
      · rintro rfl
        rcases he with z | z
        · exact nown c b hc z
        · rw [hc] at z;cases z;exact hb rfl
end
structure Un (fs ex:List Addr)(H H':Hp)(h h':Heap):Prop where
  keep:∀ b o,h.get? b=some o->H b=none->b ∉ fs->b ∉ ex->h'.get? b=some o
  slot:∀ b o,h.get? b=some o->H b=none->b∈fs->b ∉ ex->∃ sl,h'.get? b=some { o with slots:=sl }
  free:∀ b o,h.get? b=some o->H b=none->b ∉ ex->H' b=none
  there:∀ b o,h.get? b=some o->b ∉ ex->∃ o',h'.get? b=some o'
  tups:∀ b xs,H b=some (.tup xs)->H' b=some (.tup xs)
  frzs:∀ b o u,H b=some (.frz o u)->H' b=some (.frz o u)
  tbls:∀ b ps,H b=some (.tbl ps)->∃ more,H' b=some (.tbl (ps++more))
section
variable {fs fs' ex ex':List Addr}{H H1 H2:Hp}{h h1 h2 h':Heap}{a x e:Addr}{o:HO}
theorem Un.any (u:Un fs ex H H1 h h1){b:Addr}{ob:Obj}(q:h.get? b=some ob)(n:H b=none)(hx:b ∉ ex):∃ sl,h1.get? b=some { ob with slots:=sl }:=by
  by_cases hb:b∈fs
  · exact u.slot b ob q n hb hx
  · exact⟨ob.slots,u.keep b ob q n hb hx⟩
theorem Un.kept (k:∀ b u,h.get? b=some u->h'.get? b=some u):Un fs ex H H h h' :=
  ⟨fun b ob q _ _ _=>k b ob q,fun b ob q _ _ _=>⟨ob.slots,k b ob q⟩,fun _ _ _ n _=>n,fun b ob q _=>⟨ob,k b ob q⟩,fun _ _ q=>q,fun _ _ _ q=>q,fun _ ps q=>⟨#[],by rw [q];simp⟩⟩
theorem Un.refl:Un fs ex H H h h:=Un.kept fun _ _ q=>q
theorem Un.laid (k:∀ b u,h.get? b=some u->h'.get? b=some u)(hp:h.objs.size<=a)(hn:H a=none):Un fs ex H (upd H a o) h h' where
  keep:=fun b u q _ _ _=>k b u q
  slot:=fun b u q _ _ _=>⟨u.slots,k b u q⟩
  free:=fun b u q n _=>by rw [au (Nat.ne_of_lt (Nat.lt_of_lt_of_le (Heap.lt_size q) hp))];exact n
  there:=fun b u q _=>⟨u,k b u q⟩
  tups:=fun b xs q=>by rw [au (ah q hn)];exact q
  frzs:=fun b u xs q=>by rw [au (ah q hn)];exact q
  tbls:=fun b ps q=>⟨#[],by rw [au (ah q hn),q];simp⟩
theorem Un.write (mu:Mut (H x))(he:e=x\/H e=some (.own x))(k:∀ b u,b≠e->h.get? b=some u->h'.get? b=some u)(heo:∃ u,h'.get? e=some u):Un fs ex H (upd H x o) h h':=by
  have hx:∀ b,H b=none->b≠x:=fun b n z=>by subst z;rw [n] at mu;exact mu
  have hb:∀ b,H b=none->b≠e:=fun b n z=>by
    subst z
    rcases he with r | r
    · exact hx b n r
    · rw [n] at r;cases r
  have hm:∀ b u,H b=some u->¬ Mut (some u)->b≠x:=fun b u q nm z=>by subst z;rw [q] at mu;exact nm mu
  refine⟨fun b u q n _ _=>k b u (hb b n) q,fun b u q n _ _=>⟨u.slots,k b u (hb b n) q⟩,fun b u q n _=>by rw [au (hx b n)];exact n,fun b u q _=>?_,
    fun b xs q=>by rw [au (hm b _ q fun z=>z)];exact q,fun b u xs q=>by rw [au (hm b _ q fun z=>z)];exact q,fun b ps q=>⟨#[],by rw [au (hm b _ q fun z=>z),q];simp⟩⟩
  by_cases hbe:b=e
  · subst hbe;exact heo
  · exact⟨u,k b u hbe q⟩
end
def trk (h:Heap)(H:Hp):List Addr:=(List.range h.objs.size).filter fun a=>(H a).isSome
def lr (h:Heap)(H:Hp):Heap:=PySem.W.hideAll h (trk h H)
theorem kR (h:Heap)(H:Hp):(lr h H).objs.size=h.objs.size:=PySem.W.hideAll_size _ _
theorem lT {h:Heap}{H:Hp}{b:Addr}{o:Obj}(e:h.get? b=some o)(n:H b=none):(lr h H).get? b=some o :=
  PySem.W.hideAll_get _ e fun hm=>by
    have q:(H b).isSome=true:=(List.mem_filter.mp hm).2
    rw [n] at q;simp at q
theorem mJ {h:Heap}{H:Hp}{b:Addr}{o:Obj}(e:(lr h H).get? b=some o):h.get? b=some o/\H b=none:=by
  have e':h.get? b=some o:=PySem.W.of_hideAll (trk h H) e
  refine⟨e',?_⟩
  cases q:H b with
  | none=>rfl
  | some x =>
    have hm:b∈trk h H:=List.mem_filter.mpr ⟨List.mem_range.mpr (Heap.lt_size e'),by simp [q]⟩
    have z:(lr h H).get? b=none:=PySem.W.hideAll_none (trk h H) hm
    rw [z] at e;cases e
def mS (g h:Heap)(L:Addr):List (Addr×Obj):=(List.range h.objs.size).filterMap fun a=>if a=L\/(g.get? a).isSome=true then none else (h.get? a).map fun o=>(a,o)
def rest (g h:Heap)(L d:Addr):List (Addr×Obj):=(mS g h L).filter fun p=>decide (p.1≠d)
structure Mod (K:PySem.W.Frag)(mg:Str->Option Value)(base:Heap):Prop where
  kin:K.In base
  glob:base.Ns mainGlobals mg
  blt:∃ mb,base.Ns builtinsNs mb/\∀ x:Str,x ≠ "__name__" → mb x=bootBuiltins x
  nolimit:base.NoLimit
structure Cx where
  prog:Program
  w:World
  K:PySem.W.Frag
  mg:Str->Option Value
  base:Heap
  A:Around
  N:List Str
  s₀:Shared
  H₀:Hp
  env:Env
  outer:List Env
  stack:List Env
  ex:List Addr
  fn:Str->Bool
  calm:Bool
  pn:List (Addr×Obj)
  xe:Value->Shared->Prop
def frs (l:List Env):List Addr:=l.filterMap (·.frame)
abbrev Cx.fs (X:Cx):List Addr:=frs X.outer
def Vis (sc:Scope)(x:Str):Prop:=sc.names.lookup x=some .local\/sc.names.lookup x=some .cell\/sc.names.lookup x=some .free
def Loc (sc:Scope)(x:Str):Prop:=sc.names.lookup x=some .local\/sc.names.lookup x=some .cell
def pK (env:Env)(h:Heap)(m:Str->Option Value)(x:Str)(u:Value):Prop :=
  (env.kindOf x=some .local/\m x=some u)\/((env.kindOf x=some .cell\/env.kindOf x=some .free)/\∃ c,env.cells.lookup x=some c/\h.IsCell c (some u))
structure Cx.Ok (X:Cx):Prop where
  mod:Mod X.K X.mg X.base
  kind:X.env.scope.kind=.function
  glob:X.env.globals=mainGlobals
  blt:X.env.builtins=builtinsNs
  above:X.s₀.heap.objs.size<=X.env.locals
  inj:∀ x y c,X.env.cells.lookup x=some c->X.env.cells.lookup y=some c->x=y
  has:∀ x,(X.env.kindOf x=some .cell\/X.env.kindOf x=some .free)->∃ c,X.env.cells.lookup x=some c
  cab:∀ x c,X.fn x=true->X.env.cells.lookup x=some c->X.s₀.heap.objs.size<=c
  hd:X.calm=true->X.A.handled=none
  frames:X.A.frames=some X.stack
  stk:X.stack=X.outer\/(X.stack=X.env::X.outer/\X.env.frame=some X.env.locals)
  exf:∀ b∈X.ex,b≠X.env.locals/\∀ x c,X.env.cells.lookup x=some c->c≠b
  bs:∀ b o,X.base.get? b=some o->X.s₀.heap.get? b=some o/\X.H₀ b=none
  bsz:X.base.objs.size<=X.s₀.heap.objs.size
  noex:∀ b o,X.base.get? b=some o->b ∉ X.ex
  exfs:∀ b∈X.ex,b ∉ X.fs
  funs:X.s₀.heap.FunFrames X.base X.outer
  frf:∀ b∈X.fs,X.H₀ b=none
structure Inv (X:Cx)(pins:List (Addr×Obj))(σ:List (Option V))(H:Hp)(s:Shared):Prop where
  ok:X.Ok
  os:s.os=X.s₀.os
  bare:AllBare s.gens
  base:Un X.fs X.ex X.H₀ H X.s₀.heap s.heap
  loc:∃ m,s.heap.Ns X.env.locals m/\∀ (i:Nat) (x:Str) (v:V),X.N[i]? = some x->σ[i]? = some (some v)->Vis X.env.scope x->∃ u,RelV v u/\pK X.env s.heap m x u
  cell:∀ x c,X.env.cells.lookup x=some c->∃ v,s.heap.IsCell c v
  free:H X.env.locals=none
  freeC:∀ x c,X.env.cells.lookup x=some c->H c=none
  pin:∀ p∈X.pn++pins,s.heap.get? p.1=some p.2/\H p.1=none/\p.1≠X.env.locals/\p.1 ∉ X.fs/\∀ v,p.2.data≠.cell v
  hok:HOk X.prog X.w H s.heap
  len:σ.length=X.N.length
section
variable {X:Cx}{pins:List (Addr×Obj)}{σ:List (Option V)}{H H':Hp}{s:Shared}{h':Heap}
theorem Cx.Ok.nofr (ok:X.Ok){b:Addr}{o:Obj}(e:X.base.get? b=some o):b ∉ X.fs:=fun hb=>by
  have:=(ok.funs.mem hb).1
  rw [e] at this;cases this
theorem Inv.bs (I:Inv X pins σ H s):∀ b o,X.base.get? b=some o->s.heap.get? b=some o/\H b=none:=fun b o e =>
  ⟨I.base.keep b o (I.ok.bs b o e).1 (I.ok.bs b o e).2 (I.ok.nofr e) (I.ok.noex b o e),I.base.free b o (I.ok.bs b o e).1 (I.ok.bs b o e).2 (I.ok.noex b o e)⟩
theorem Inv.bk (I:Inv X pins σ H s):∀ b o,X.base.get? b=some o->s.heap.get? b=some o:=fun b o e=>(I.bs b o e).1
theorem Inv.mod (I:Inv X pins σ H s):Mod X.K X.mg X.base:=I.ok.mod
theorem Inv.kIn (I:Inv X pins σ H s):X.K.In s.heap:=I.ok.mod.kin.keeps I.bk
theorem Inv.fr (I:Inv X pins σ H s):∃ m,Fr X.base X.env.locals s.heap m :=
  let ⟨m,hn,_⟩:=I.loc
  ⟨m,hn,I.bk,Nat.le_trans I.ok.bsz I.ok.above⟩
theorem Inv.lt (I:Inv X pins σ H s):X.env.locals < s.heap.objs.size:=let ⟨_,hn,_⟩:=I.loc;hn.lt
theorem Inv.sz (I:Inv X pins σ H s):X.s₀.heap.objs.size<=s.heap.objs.size:=Nat.le_trans I.ok.above (Nat.le_of_lt I.lt)
theorem Inv.nofs (I:Inv X pins σ H s){a:Addr}(h:s.heap.objs.size<=a):a ∉ X.fs:=fun hb=>by
  obtain⟨_,o,ho,_⟩:=I.ok.funs.mem hb
  exact absurd (Nat.lt_of_lt_of_le (Heap.lt_size ho) (Nat.le_trans I.sz h)) (Nat.lt_irrefl _)
theorem Inv.cne (I:Inv X pins σ H s):∀ x c,X.env.cells.lookup x=some c->c≠X.env.locals:=fun x c e z=>by
  obtain⟨v,o,ho,hd⟩:=I.cell x c e
  obtain⟨m,⟨o',es,ep,ho',hd',_⟩,_⟩:=I.loc
  rw [z,ho'] at ho;cases ho;rw [hd'] at hd;cases hd
theorem Inv.funs (I:Inv X pins σ H s):s.heap.FunFrames X.base X.outer:=by
  have all:∀ (l:List Env),(∀ b∈frs l,b∈X.fs)->X.s₀.heap.FunFrames X.base l->s.heap.FunFrames X.base l:=by
    intro l
    induction l with
    | nil=>intro _ _;trivial
    | cons env r ih =>
      intro hs hl
      obtain⟨hk,⟨L,o,hf,hn,ho,hd⟩,hr⟩:=hl
      have hL:L∈X.fs:=hs L (by unfold frs;rw [List.filterMap_cons,hf];exact List.mem_cons_self)
      obtain⟨sl,e⟩:=I.base.slot L o ho (I.ok.frf L hL) hL fun z=>I.ok.exfs L z hL
      exact⟨hk,⟨L,_,hf,hn,e,hd⟩,ih (fun b hb=>hs b (by unfold frs;rw [List.filterMap_cons,hf];exact List.mem_cons_of_mem _ hb)) hr⟩
  exact all X.outer (fun _ hb=>hb) I.ok.funs
theorem Inv.stack (I:Inv X pins σ H s):s.heap.FunFrames X.base X.stack:=by
  rcases I.ok.stk with e | ⟨e,hf⟩
  · rw [e];exact I.funs
  · rw [e]
    obtain⟨m,hn,_⟩:=I.loc
    refine .cons (by rw [I.ok.kind];decide) hf hn ?_ I.funs
    exact Heap.get?_none_of_le (Nat.le_trans I.ok.bsz I.ok.above)
theorem Inv.stkSub (I:Inv X pins σ H s):∀ b∈frs X.stack,b∈X.env.locals::X.fs:=fun b hb=>by
  rcases I.ok.stk with e | ⟨e,hf⟩
  · rw [e] at hb;exact List.mem_cons_of_mem _ hb
  · rw [e] at hb
    unfold frs at hb
    rw [List.filterMap_cons,hf] at hb
    exact hb
theorem Inv.stkFree (I:Inv X pins σ H s):∀ b∈frs X.stack,H b=none:=fun b hb=>by
  rcases List.mem_cons.mp (I.stkSub b hb) with e | hb
  · rw [e];exact I.free
  · obtain⟨_,o,ho,_⟩:=I.ok.funs.mem hb
    exact I.base.free b o ho (I.ok.frf b hb) fun z=>I.ok.exfs b z hb
theorem Inv.step {g':Array GenState}{t':Nat}{d':Drawn}{ch:List Addr}(I:Inv X pins σ H s)
    (hch:∀ b∈ch,(b∈X.ex\/X.s₀.heap.objs.size<=b)/\b≠X.env.locals/\(∀ x c,X.env.cells.lookup x=some c->c≠b)/\∀ p∈X.pn++pins,p.1≠b)
    (keep:∀ b o,b≠X.env.locals->b ∉ X.fs->b ∉ ch->s.heap.get? b=some o->H b=none->h'.get? b=some o)
    (slot:∀ b o,b≠X.env.locals->b∈X.fs->b ∉ ch->s.heap.get? b=some o->H b=none->∃ sl,h'.get? b=some { o with slots:=sl })(free:∀ b o,b ∉ ch->s.heap.get? b=some o->H b=none->H' b=none)
    (there:∀ b o,b ∉ ch->s.heap.get? b=some o->∃ o',h'.get? b=some o')
    (tups:∀ b xs,H b=some (.tup xs)->H' b=some (.tup xs))(frzs:∀ b o u,H b=some (.frz o u)->H' b=some (.frz o u))(tbls:∀ b ps,H b=some (.tbl ps)->∃ more,H' b=some (.tbl (ps++more)))
    (ns:∀ m,s.heap.Ns X.env.locals m->h'.Ns X.env.locals m)(hok:HOk X.prog X.w H' h')(hg:AllBare g') :
    Inv X pins σ H' { s with heap:=h',gens:=g',drawn:=d',toks:=t' }:=by
  have neL:∀ b o,X.s₀.heap.get? b=some o->b≠X.env.locals:=fun b o e=>Nat.ne_of_lt (Nat.lt_of_lt_of_le (Heap.lt_size e) I.ok.above)
  have neC:∀ b o,X.s₀.heap.get? b=some o->b ∉ X.ex->b ∉ ch:=fun b o e hx hb=>by
    rcases (hch b hb).1 with z | z
    · exact hx z
    · exact absurd (Nat.lt_of_lt_of_le (Heap.lt_size e) z) (Nat.lt_irrefl _)
  have cellK:∀ x c,X.env.cells.lookup x=some c->∀ v,s.heap.IsCell c v->h'.IsCell c v:=fun x c e v ⟨o,ho,hd⟩=>by
    have nch:c ∉ ch:=fun z=>(hch c z).2.2.1 x c e rfl
    by_cases hc:c∈X.fs
    · obtain⟨sl,q⟩:=slot c o (I.cne x c e) hc nch ho (I.freeC x c e)
      exact⟨_,q,hd⟩
    · exact⟨o,keep c o (I.cne x c e) hc nch ho (I.freeC x c e),hd⟩
  refine⟨I.ok,I.os,hg,⟨fun b o e n hb hx=>?_,fun b o e n hb hx=>?_,fun b o e n hx=>?_,fun b o e hx=>?_,fun b xs e=>tups b xs (I.base.tups b xs e),fun b o xs e=>frzs b o xs (I.base.frzs b o xs e),fun b ps e=>?_⟩,?_,fun x c e=>?_,?_,fun x c e=>?_,fun p hp=>?_,hok,I.len⟩
  · exact keep b o (neL b o e) hb (neC b o e hx) (I.base.keep b o e n hb hx) (I.base.free b o e n hx)
  · obtain⟨sl,e1⟩:=I.base.slot b o e n hb hx
    obtain⟨sl',e2⟩:=slot b _ (neL b o e) hb (neC b o e hx) e1 (I.base.free b o e n hx)
    exact⟨sl',e2⟩
  · obtain⟨o',e1⟩:=I.base.there b o e hx
    exact free b o' (neC b o e hx) e1 (I.base.free b o e n hx)
  · obtain⟨o',e1⟩:=I.base.there b o e hx
    exact there b o' (neC b o e hx) e1
  · obtain⟨m1,e1⟩:=I.base.tbls b ps e
    obtain⟨m2,e2⟩:=tbls b _ e1
    exact⟨m1++m2,by rw [e2,Array.append_assoc]⟩
  · obtain⟨m,hn,hl⟩:=I.loc
    refine⟨m,ns m hn,fun i x v e1 e2 e3=>?_⟩
    obtain⟨u,r,l⟩:=hl i x v e1 e2 e3
    refine⟨u,r,?_⟩
    rcases l with l | ⟨k,c,e,z⟩
    · exact .inl l
    · exact .inr ⟨k,c,e,cellK x c e _ z⟩
  · obtain⟨v,z⟩:=I.cell x c e
    exact⟨v,cellK x c e v z⟩
  · obtain⟨m,⟨o,_,_,ho,_⟩,_⟩:=I.loc
    exact free _ o (fun z=>(hch _ z).2.1 rfl) ho I.free
  · obtain⟨v,o,ho,hd⟩:=I.cell x c e
    exact free c o (fun z=>(hch c z).2.2.1 x c e rfl) ho (I.freeC x c e)
  · obtain⟨e,n,ne,nf,d⟩:=I.pin p hp
    have nch:p.1 ∉ ch:=fun z=>(hch p.1 z).2.2.2 p hp rfl
    exact⟨keep p.1 p.2 ne nf nch e n,free p.1 p.2 nch e n,ne,nf,d⟩
theorem Inv.un {t':Nat}(I:Inv X pins σ H s)(u:Un X.fs [] H H' s.heap h')(hok:HOk X.prog X.w H' h'):Inv X pins σ H' { s with heap:=h',toks:=t' }:=by
  obtain⟨m,⟨o,es,ep,ho,r⟩,_⟩:=id I.loc
  obtain⟨sl,hL⟩:=u.any ho I.free (by simp)
  exact I.step (g':=s.gens) (d':=s.drawn) (ch:=[]) (fun _ z=>nomatch z) (fun b o _ hb _ e n=>u.keep b o e n hb (by simp)) (fun b o _ hb _ e n=>u.slot b o e n hb (by simp)) (fun b o _ e n=>u.free b o e n (by simp)) (fun b o _ e=>u.there b o e (by simp)) u.tups u.frzs u.tbls (fun m' hm=>by
    obtain⟨o',es',ep',ho',r'⟩:=hm
    rw [ho] at ho';cases ho'
    exact⟨_,es',ep',hL,r'⟩) hok I.bare
theorem Inv.call {g':Array GenState}{t':Nat}{d':Drawn}{ch:List Addr}(I:Inv X pins σ H s)(u:Un (frs X.stack) ch H H' s.heap h')(hok:HOk X.prog X.w H' h')(hg:AllBare g')
    (hch:∀ b∈ch,(b∈X.ex\/X.s₀.heap.objs.size<=b)/\b≠X.env.locals/\(∀ x c,X.env.cells.lookup x=some c->c≠b)/\∀ p∈X.pn++pins,p.1≠b) :
    Inv X pins σ H' { s with heap:=h',gens:=g',drawn:=d',toks:=t' }:=by
  obtain⟨m,⟨o,es,ep,ho,r⟩,_⟩:=id I.loc
  obtain⟨sl,hL⟩:=u.any ho I.free fun z=>(hch _ z).2.1 rfl
  exact I.step (ch:=ch) hch (fun b o hL hb hc e n=>u.keep b o e n (fun z=>(List.mem_cons.mp (I.stkSub b z)).elim hL hb) hc) (fun b o _ _ hc e n=>u.any e n hc) (fun b o hc e n=>u.free b o e n hc) (fun b o hc e=>u.there b o e hc) u.tups u.frzs u.tbls (fun m' hm=>by
    obtain⟨o',es',ep',ho',r'⟩:=hm
    rw [ho] at ho';cases ho'
    exact⟨_,es',ep',hL,r'⟩) hok hg
theorem Inv.turned {t':Nat}{it:Addr}(I:Inv X pins σ H s)(k:∀ b o,b≠it->s.heap.get? b=some o->h'.get? b=some o)(hn:H it=none)(hL:it≠X.env.locals)
    (h1:it∈X.ex\/X.s₀.heap.objs.size<=it)(h2:∀ x c,X.env.cells.lookup x=some c->c≠it)(h3:∀ p∈X.pn++pins,p.1≠it):Inv X pins σ H { s with heap:=h',toks:=t' }:=by
  have nit:∀ b u,H b=some u->b≠it:=fun b u e z=>by rw [z,hn] at e;cases e
  refine I.step (g':=s.gens) (d':=s.drawn) (ch:=[it]) (fun b hb=>?_) (fun b o _ _ hc e _=>k b o (fun z=>hc (by simp [z])) e) (fun b o _ _ hc e _=>⟨o.slots,k b o (fun z=>hc (by simp [z])) e⟩) (fun _ _ _ _ n=>n)
    (fun b o hc e=>⟨o,k b o (fun z=>hc (by simp [z])) e⟩) (fun _ _ e=>e) (fun _ _ _ e=>e) (fun b ps e=>⟨#[],by rw [e];simp⟩) (fun m hm=>?_) (fun b u e=>?_) I.bare
  · have e:b=it:=by simpa using hb
    subst e
    exact⟨h1,hL,h2,h3⟩
  · obtain⟨o,es,ep,ho,r⟩:=hm
    exact⟨o,es,ep,k _ o (Ne.symm hL) ho,r⟩
  · refine (I.hok b u e).stay (fun c v hc q=>k c v ?_ q) (fun _ q=>q) fun _ _ q=>q
    rcases hc with z | z
    · rw [z];exact nit b u e
    · exact nit c _ z
theorem Inv.tok (I:Inv X pins σ H s)(t:Nat):Inv X pins σ H { s with toks:=t }:=I.un (h':=s.heap) (t':=t) Un.refl I.hok
theorem Inv.kept {t':Nat}(I:Inv X pins σ H s)(k:∀ b u,s.heap.get? b=some u->h'.get? b=some u):Inv X pins σ H { s with heap:=h',toks:=t' }:=I.un (Un.kept k) (I.hok.kept k)
theorem Inv.laid {a:Addr}{o:HO}{t':Nat}(I:Inv X pins σ H s)(k:∀ b u,s.heap.get? b=some u->h'.get? b=some u)(hp:s.heap.objs.size<=a)(new:ObjOk X.prog X.w (upd H a o) h' a o) :
    Inv X pins σ (upd H a o) { s with heap:=h',toks:=t' }:=I.un (Un.laid k hp (I.hok.fresh hp)) (I.hok.laid k hp new)
theorem Inv.write {x e:Addr}{o:HO}{t':Nat}(I:Inv X pins σ H s)(mu:Mut (H x))(he:e=x\/H e=some (.own x))(k:∀ b u,b≠e->s.heap.get? b=some u->h'.get? b=some u)(heo:∃ u,h'.get? e=some u)
    (new:ObjOk X.prog X.w (upd H x o) h' x o):Inv X pins σ (upd H x o) { s with heap:=h',toks:=t' }:=I.un (Un.write mu he k heo) (I.hok.write mu he k heo new)
theorem Inv.weak {σ':List (Option V)}(I:Inv X pins σ H s)(hl:σ'.length=σ.length)(w:∀ (i:Nat) v,σ'[i]? = some (some v)->σ[i]? = some (some v)):Inv X pins σ' H s :=
  ⟨I.ok,I.os,I.bare,I.base,let ⟨m,hn,hl'⟩:=I.loc;⟨m,hn,fun i x v e1 e2 e3=>hl' i x v e1 (w i v e2) e3⟩,I.cell,I.free,I.freeC,I.pin,I.hok,hl.trans I.len⟩
theorem Inv.pins_of {pins':List (Addr×Obj)}(I:Inv X pins σ H s)(h:∀ p∈pins',s.heap.get? p.1=some p.2/\H p.1=none/\p.1≠X.env.locals/\p.1 ∉ X.fs/\∀ v,p.2.data≠.cell v):Inv X pins' σ H s :=
  ⟨I.ok,I.os,I.bare,I.base,I.loc,I.cell,I.free,I.freeC,fun p hp=>(List.mem_append.mp hp).elim (fun z=>I.pin p (List.mem_append_left _ z)) (h p),I.hok,I.len⟩
theorem iZ {N:List Str}(hN:N.Nodup){i j:Nat}{x:Str}(a:N[i]? = some x)(b:N[j]? = some x):i=j:=by
  obtain⟨h1,e1⟩:=List.getElem?_eq_some_iff.mp a
  obtain⟨h2,e2⟩:=List.getElem?_eq_some_iff.mp b
  exact (List.getElem_inj hN).mp (e1.trans e2.symm)
theorem jX {M:Model}{A:Around}{E:Value->Shared->Prop}{i:Nat}{x:Str}{v:V}{u:Value}{Q:Unit->Shared->Prop}(I:Inv X pins σ H s)(hN:X.N.Nodup)(hi:X.N[i]? = some x)(hx:Loc X.env.scope x)(r:RelV v u)
    (h:∀ s',Inv X pins (σ.set i (some v)) H s'->(∃ a,Heap.SameBut a s.heap s'.heap/\(a=X.env.locals\/X.env.cells.lookup x=some a))->Q () s')(hf:X.fn x=true\/X.env.scope.names.lookup x=some .local:=by first | exact .inl rfl | exact .inr rfl | assumption):wpAny M A (storeName X.env x u) Q E s:=by
  obtain⟨m,hn,hl⟩:=id I.loc
  have hcls:(X.env.scope.kind == .class || (X.env.scope.kind == .module && X.env.locals != X.env.globals))=false:=by rw [I.ok.kind];rfl
  have hiσ:i < σ.length:=by rw [I.len];exact (List.getElem?_eq_some_iff.mp hi).1
  have cne:=I.cne
  have tracked:∀ {a:Addr} {h':Heap},(∃ o,s.heap.get? a=some o/\H a=none)->Heap.SameBut a s.heap h'->HOk X.prog X.w H h':=fun {a h'} ha hs b ob e=>by
    obtain⟨_,_,hfree⟩:=ha
    refine (I.hok b ob e).stay (fun c w' hc q=>(hs.2 c ?_).trans q) (fun _ q=>q) fun _ _ q=>q
    rintro rfl
    rcases hc with rfl | hc
    · rw [hfree] at e;cases e
    · rw [hfree] at hc;cases hc
  rcases hx with hk | hk
  · refine wpAny_storeName_local hk hn (fun h' hn' hs=>?_) hcls
    obtain⟨oL,_,_,hoL,_⟩:=id hn
    refine h _ ⟨I.ok,I.os,I.bare,⟨fun b o e n hb hx=>?_,fun b o e n hb hx=>?_,I.base.free,fun b o e hx=>?_,I.base.tups,I.base.frzs,I.base.tbls⟩,⟨_,hn',fun j y v' e1 e2 e3=>?_⟩,fun y c e=>?_,I.free,I.freeC,fun p hp=>?_,tracked ⟨oL,hoL,I.free⟩ hs,by simpa using I.len⟩ ⟨_,hs,.inl rfl⟩
    · exact (hs.2 b (Nat.ne_of_lt (Nat.lt_of_lt_of_le (Heap.lt_size e) I.ok.above))).trans (I.base.keep b o e n hb hx)
    · obtain⟨sl,e1⟩:=I.base.slot b o e n hb hx
      exact⟨sl,(hs.2 b (Nat.ne_of_lt (Nat.lt_of_lt_of_le (Heap.lt_size e) I.ok.above))).trans e1⟩
    · obtain⟨o',e1⟩:=I.base.there b o e hx
      exact⟨o',(hs.2 b (Nat.ne_of_lt (Nat.lt_of_lt_of_le (Heap.lt_size e) I.ok.above))).trans e1⟩
    · by_cases hj:j=i
      · subst hj
        rw [hi] at e1;cases e1
        rw [List.getElem?_set_self hiσ] at e2
        cases e2
        exact⟨u,r,.inl ⟨hk,by simp⟩⟩
      · rw [List.getElem?_set_ne (Ne.symm hj)] at e2
        obtain⟨u',r',q⟩:=hl j y v' e1 e2 e3
        refine⟨u',r',?_⟩
        rcases q with ⟨k,e⟩ | ⟨k,c,e,z⟩
        · refine .inl ⟨k,?_⟩
          have:y≠x:=fun e=>hj (iZ hN e1 (e▸hi))
          simp [this,e]
        · exact .inr ⟨k,c,e,z.sameBut hs (cne y c e)⟩
    · obtain⟨w',z⟩:=I.cell y c e
      exact⟨w',z.sameBut hs (cne y c e)⟩
    · obtain⟨e,n,ne,nf,d⟩:=I.pin p hp
      exact⟨(hs.2 p.1 ne).trans e,n,ne,nf,d⟩
  · have hfn:X.fn x=true:=by
      rcases hf with z | z
      · exact z
      · rw [z] at hk;cases hk
    obtain⟨c,hc⟩:=I.ok.has x (.inl hk)
    obtain⟨w',z⟩:=I.cell x c hc
    refine wpAny_storeName_cell I.ok.kind hk hc z (fun h' hc' hs=>?_)
    obtain⟨oc,hoc,hocd⟩:=id z
    refine h { s with heap:=h' } ⟨I.ok,I.os,I.bare,⟨fun b o e n hb hx=>?_,fun b o e n hb hx=>?_,I.base.free,fun b o e hx=>?_,I.base.tups,I.base.frzs,I.base.tbls⟩,⟨m,hn.sameBut hs (Ne.symm (cne x c hc)),fun j y v' e1 e2 e3=>?_⟩,fun y c' e=>?_,I.free,I.freeC,fun p hp=>?_,tracked ⟨oc,hoc,I.freeC x c hc⟩ hs,by simpa using I.len⟩ ⟨c,hs,.inr hc⟩
    · exact (hs.2 b (Nat.ne_of_lt (Nat.lt_of_lt_of_le (Heap.lt_size e) (I.ok.cab x c hfn hc)))).trans (I.base.keep b o e n hb hx)
    · obtain⟨sl,e1⟩:=I.base.slot b o e n hb hx
      exact⟨sl,(hs.2 b (Nat.ne_of_lt (Nat.lt_of_lt_of_le (Heap.lt_size e) (I.ok.cab x c hfn hc)))).trans e1⟩
    · obtain⟨o',e1⟩:=I.base.there b o e hx
      exact⟨o',(hs.2 b (Nat.ne_of_lt (Nat.lt_of_lt_of_le (Heap.lt_size e) (I.ok.cab x c hfn hc)))).trans e1⟩
    · by_cases hj:j=i
      · subst hj
        rw [hi] at e1;cases e1
        rw [List.getElem?_set_self hiσ] at e2
        cases e2
        exact⟨u,r,.inr ⟨.inl hk,c,hc,hc'⟩⟩
      · rw [List.getElem?_set_ne (Ne.symm hj)] at e2
        obtain⟨u',r',q⟩:=hl j y v' e1 e2 e3
        refine⟨u',r',?_⟩
        rcases q with q | ⟨k,c',e,z'⟩
        · exact .inl q
        · refine .inr ⟨k,c',e,z'.sameBut hs ?_⟩
          rintro rfl
          exact hj (iZ hN e1 (I.ok.inj _ _ _ e hc▸hi))
    · by_cases hcc:c'=c
      · subst hcc;exact⟨_,hc'⟩
      · obtain⟨w2,z2⟩:=I.cell y c' e
        exact⟨w2,z2.sameBut hs hcc⟩
    · obtain⟨e,n,ne,nf,d⟩:=I.pin p hp
      refine⟨(hs.2 p.1 ?_).trans e,n,ne,nf,d⟩
      intro q
      rw [q,hoc] at e
      have q':oc=p.2:=Option.some.inj e
      exact d w' (by rw [← q'];exact hocd)
theorem i8 {M:Model}{A:Around}{E:Value->Shared->Prop}{i:Nat}{x:Str}{v:V}{u:Value}{Q:Unit->Shared->Prop}(I:Inv X pins σ H s)(hN:X.N.Nodup)(hi:X.N[i]? = some x)(hx:Loc X.env.scope x)(r:RelV v u)
    (h:∀ s',Inv X pins (σ.set i (some v)) H s'->Q () s')(hf:X.fn x=true\/X.env.scope.names.lookup x=some .local:=by first | exact .inl rfl | exact .inr rfl | assumption):wpAny M A (storeName X.env x u) Q E s :=
  jX I hN hi hx r (fun s' I' _=>h s' I') hf
theorem Inv.call' {s':Shared}{ch:List Addr}(I:Inv X pins σ H s)(ho:s'.os=s.os)(u:Un (frs X.stack) ch H H' s.heap s'.heap)(hok:HOk X.prog X.w H' s'.heap)(hg:AllBare s'.gens)
    (hch:∀ b∈ch,(b∈X.ex\/X.s₀.heap.objs.size<=b)/\b≠X.env.locals/\(∀ x c,X.env.cells.lookup x=some c->c≠b)/\∀ p∈X.pn++pins,p.1≠b):Inv X pins σ H' s':=by
  obtain⟨h',g',d',t',o'⟩:=s'
  have e:o'=s.os:=ho
  subst e
  exact I.call (g':=g') (t':=t') (d':=d') u hok hg hch
end
abbrev XK:=Value->Option Addr->Hp->Prop
abbrev St:=List (Option V)
abbrev VK:=V->Hp->Prop
abbrev TE:=St->Hp->VK->Prop
abbrev TT:=St->Hp->(Bool->Hp->Prop)->Prop
abbrev TA:=St->Hp->(List V->Hp->Prop)->Prop
structure nA where
  nx:St->Hp->Prop
  rt:VK
  bk:St->Hp->Prop:=fun _ _=>False
  ct:St->Hp->Prop:=fun _ _=>False
abbrev TS:=nA->St->Hp->Prop
def EP (X:Cx)(pins:List (Addr×Obj))(σ:St)(Q:VK)(u:Value)(s':Shared):Prop:=∃ v H',Inv X pins σ H' s'/\RelV v u/\Q v H'
def TP (X:Cx)(pins:List (Addr×Obj))(σ:St)(Q:Bool->Hp->Prop)(b:Bool)(s':Shared):Prop:=∃ H',Inv X pins σ H' s'/\Q b H'
def AP (X:Cx)(pins:List (Addr×Obj))(σ:St)(Q:List V->Hp->Prop)(us:List Value)(s':Shared):Prop:=∃ vs H',Inv X pins σ H' s'/\Vals vs us/\Q vs H'
def SP (X:Cx)(pins:List (Addr×Obj))(D:nA)(f:Flow)(s':Shared):Prop :=
  match f with
  | .next=>∃ σ' H',Inv X pins σ' H' s'/\D.nx σ' H'
  | .brk=>∃ σ' H',Inv X pins σ' H' s'/\D.bk σ' H'
  | .cont=>∃ σ' H',Inv X pins σ' H' s'/\D.ct σ' H'
  | .ret u=>∃ v σ' H',Inv X pins σ' H' s'/\RelV v u/\D.rt v H'
def PE (X:Cx)(e:Expr)(t:TE):Prop :=
  ∀ (pins:List (Addr×Obj)) (s:Shared) (σ:St) (H:Hp) (Q:VK),Inv X pins σ H s->t σ H Q->wpAny (model X.prog X.w) X.A (eval e X.env) (EP X pins σ Q) X.xe s
def PT (X:Cx)(e:Expr)(t:TT):Prop :=
  ∀ (pins:List (Addr×Obj)) (s:Shared) (σ:St) (H:Hp) (Q:Bool->Hp->Prop),Inv X pins σ H s->t σ H Q->wpAny (model X.prog X.w) X.A (isTrue e X.env (eval e X.env)) (TP X pins σ Q) X.xe s
def PW (X:Cx)(e:Expr)(t:TT):Prop :=
  ∀ (whole:Sem Value) (pins:List (Addr×Obj)) (s:Shared) (σ:St) (H:Hp) (Q:Bool->Hp->Prop),Inv X pins σ H s->t σ H Q->wpAny (model X.prog X.w) X.A (isTrue e X.env whole) (TP X pins σ Q) X.xe s
theorem PW.pt {X:Cx}{e:Expr}{t:TT}(h:PW X e t):PT X e t:=h _
def PA (X:Cx)(es:List Expr)(t:TA):Prop :=
  ∀ (pos:Pos) (pins:List (Addr×Obj)) (s:Shared) (σ:St) (H:Hp) (Q:List V->Hp->Prop),Inv X pins σ H s->t σ H Q->wpAny (model X.prog X.w) X.A (spliced (backTo pos (starEach es X.env))) (AP X pins σ Q) X.xe s
def PS (X:Cx)(st:Stmt)(t:TS):Prop :=
  ∀ (pins:List (Addr×Obj)) (s:Shared) (σ:St) (H:Hp) (D:nA),Inv X pins σ H s->t D σ H->wpAny (model X.prog X.w) X.A (exec st X.env) (SP X pins D) X.xe s
def PSs (X:Cx)(st:List Stmt)(t:TS):Prop :=
  ∀ (pins:List (Addr×Obj)) (s:Shared) (σ:St) (H:Hp) (D:nA),Inv X pins σ H s->t D σ H->wpAny (model X.prog X.w) X.A (execs st X.env) (SP X pins D) X.xe s
theorem thn {α:Type}{t:Sem α}{Q Q':α->Shared->Prop}{M:Model}{A:Around}{E:Value->Shared->Prop}{s:Shared}(h:wpAny M A t Q E s)(hQ:∀ a s,Q a s->Q' a s):wpAny M A t Q' E s:=wpAny_mono h hQ fun _ _ x=>x
section
variable {X:Cx}
theorem bin {a b:Expr}{ta tb:TE}(ha:PE X a ta)(hb:PE X b tb){pins:List (Addr×Obj)}{s:Shared}{σ:St}{H:Hp}{R:V->V->Hp->Prop}(I:Inv X pins σ H s)(h:ta σ H fun x H1=>tb σ H1 fun y H2=>R x y H2)
    {α:Type}{Q:α->Shared->Prop}{f:Value->Value->Sem α}
    (hf:∀ v u s2 x y H2,Inv X pins σ H2 s2->RelV x v->RelV y u->R x y H2->wpAny (model X.prog X.w) X.A (f v u) Q X.xe s2) :
    wpAny (model X.prog X.w) X.A (eval a X.env) (fun v s₁=>wpAny (model X.prog X.w) X.A (eval b X.env) (fun u s₂=>wpAny (model X.prog X.w) X.A (f v u) Q X.xe s₂) X.xe s₁) X.xe s:=by
  refine thn (ha pins s σ H _ I h) fun v s1 ⟨x,H1,I1,r1,q1⟩=>?_
  refine thn (hb pins s1 σ H1 _ I1 q1) fun u s2 ⟨y,H2,I2,r2,q2⟩=>?_
  exact hf v u s2 x y H2 I2 r1 r2 q2
def px (i:Nat):TE:=fun σ H Q=>∃ v,σ[i]? = some (some v)/\Q v H
def tC (v:V):TE:=fun _ H Q=>Q v H
theorem ot {i:Nat}{x:Str}{pos:Pos}(hN:X.N[i]? = some x)(hv:Vis X.env.scope x)(hd:(x == ("__debug__" : Str))=false:=by decide)(hcd:(x == ("__classdict__" : Str))=false:=by decide):PE X (.Name x pos) (px i):=by
  intro pins s σ H Q I h
  obtain⟨v,e,h⟩:=h
  obtain⟨m,hn,hl⟩:=I.loc
  obtain⟨u,r,l⟩:=hl i x v hN e hv
  have fin:EP X pins σ Q u s:=⟨v,H,I,r,h⟩
  rcases l with ⟨hk,hm⟩ | ⟨hk,c,hc,hcell⟩
  · exact wpAny_Name (wpAny_loadName_local I.ok.kind hk hn hm fin) hd
  · rcases hk with hk | hk
    · exact wpAny_Name (wpAny_loadName_cell I.ok.kind hk hc hcell fin) hd
    · exact wpAny_Name (wpAny_loadName_free I.ok.kind hk hc hcell fin hcd) hd
theorem ak {i j pos}:PE X (.Constant (.int i) j pos) (tC (.int i)):=fun _ _ _ H _ I h=>wpAny_Constant_int ⟨.int i,H,I.tok _,⟨_,rfl⟩,h⟩
theorem gZ {b j pos}:PE X (.Constant (.bool b) j pos) (tC (.bl b)):=fun _ _ _ H _ I h=>Constant_bool ⟨.bl b,H,I,rfl,h⟩
theorem mr {j pos}:PE X (.Constant .none j pos) (tC .non):=fun _ _ _ H _ I h=>Constant_none ⟨.non,H,I,rfl,h⟩
theorem ar {x j pos}:PE X (.Constant (.str x) j pos) (tC (.str x)):=fun _ _ _ H _ I h=>Calls.Constant_str ⟨.str x,H,I.tok _,⟨_,rfl⟩,h⟩
def Gl (X:Cx)(x:Str):Prop:=X.env.kindOf x=some .globalImplicit
theorem jV {E:Value->Shared->Prop}{pins:List (Addr×Obj)}{s:Shared}{σ:St}{H:Hp}{x:Str}{u:Value}{pos:Pos}{Q:Value->Shared->Prop}(I:Inv X pins σ H s)(hg:Gl X x)(hm:X.mg x=some u)(h:Q u s)
    (hd:(x == ("__debug__" : Str))=false:=by decide):wpAny (model X.prog X.w) X.A (eval (.Name x pos) X.env) Q E s :=
  Calls.Name_function_global I.ok.kind hg (Calls.loadGlobal_global (by rw [I.ok.glob];exact I.mod.glob.keeps I.bk) hm h) hd
theorem jn {E:Value->Shared->Prop}{pins:List (Addr×Obj)}{s:Shared}{σ:St}{H:Hp}{x:Str}{u:Value}{pos:Pos}{Q:Value->Shared->Prop}(I:Inv X pins σ H s)(hg:Gl X x)(hm:X.mg x=none)(hv:bootBuiltins x=some u)(h:Q u s)
    (hn:x ≠ "__name__" := by decide)(hd:(x == ("__debug__" : Str))=false:=by decide):wpAny (model X.prog X.w) X.A (eval (.Name x pos) X.env) Q E s:=by
  obtain⟨mb,h1,h2⟩:=I.mod.blt
  exact Calls.Name_function_global I.ok.kind hg (Calls.loadGlobal_builtin (by rw [I.ok.glob];exact I.mod.glob.keeps I.bk) hm (by rw [I.ok.blt];exact h1.keeps I.bk) ((h2 x hn).trans hv) h) hd
theorem iV {x:Str}{v:V}{u:Value}{pos:Pos}(hg:Gl X x)(hm:X.mg x=some u)(r:RelV v u)(hd:(x == ("__debug__" : Str))=false:=by decide):PE X (.Name x pos) (tC v) :=
  fun _ _ _ H _ I h=>jV I hg hm ⟨v,H,I,r,h⟩ hd
theorem bp {x:Str}{v:V}{u:Value}{pos:Pos}(hg:Gl X x)(hm:X.mg x=none)(hv:bootBuiltins x=some u)(r:RelV v u)(hn:x ≠ "__name__" := by decide)(hd:(x == ("__debug__" : Str))=false:=by decide):PE X (.Name x pos) (tC v) :=
  fun _ _ _ H _ I h=>jn I hg hm hv ⟨v,H,I,r,h⟩ hn hd
variable {a b:Expr}{ta tb:TE}{pos:Pos}
def PC (X:Cx)(op:CmpOp)(a b:Expr)(t:TE):Prop :=
  ∀ (pins:List (Addr×Obj)) (s:Shared) (σ:St) (H:Hp) (Q:VK),Inv X pins σ H s->t σ H Q →
    wpAny (model X.prog X.w) X.A (eval a X.env) (fun v s₁=>wpAny (model X.prog X.w) X.A (eval b X.env) (fun u s₂=>wpAny (model X.prog X.w) X.A (compareOp op v u) (EP X pins σ Q) X.xe s₂) X.xe s₁) X.xe s
def tB (t:TE):TT:=fun σ H Q=>t σ H fun x H1=>∃ c,x=.bl c/\Q c H1
theorem pj {op:CmpOp}{t:TE}(h:PC X op a b t)(h1:behindInMarks op b=false:=by first | exact nobehind _ (by decide) (by decide) | rfl):PT X (.Compare a [op] [b] pos) (tB t):=by
  intro pins s σ H Q I hw
  refine wpAny_isTrue_Compare1 (thn (h pins s σ H _ I hw) fun v s1 h1=>thn h1 fun u s2 h2=>thn h2 fun c s3 ⟨x,H1,I1,r1,q1⟩=>?_) h1
  obtain⟨d,rfl,q⟩:=q1
  cases r1
  exact wpAny_truthy_bool ⟨H1,I1,q⟩
theorem cu {e:Expr}{t:TE}(h:PE X e t)(he:∀ whole,isTrue e X.env whole=(do let v ← whole;standAt e.pos;holding [v] (truthy v)):=by intro _;rfl):PT X e (tB t):=by
  intro pins s σ H Q I hw
  refine isTrue_plain (thn (h pins s σ H _ I hw) fun v s1 ⟨x,H1,I1,r1,q1⟩=>?_) (he _)
  obtain⟨d,rfl,q⟩:=q1
  cases r1
  exact wpAny_truthy_bool ⟨H1,I1,q⟩
variable {tA tB':TT}{rest:List Expr}
def pG (t u:TT):TT:=fun σ H Q=>t σ H fun c H1=>if c=true then u σ H1 Q else Q false H1
def tOr (t u:TT):TT:=fun σ H Q=>t σ H fun c H1=>if c=true then Q true H1 else u σ H1 Q
def pC (t:TT):TT:=fun σ H Q=>t σ H fun c H1=>Q (!c) H1
theorem mU (ha:PT X a tA):PW X (.BoolOp .And [a] pos) tA:=by
  intro wh pins s σ H Q I h
  refine isTrue_and (thn (ha pins s σ H Q I h) fun c s1 e=>?_)
  cases c with
  | true=>exact isTrue_and_nil e
  | false=>exact e
theorem dE (ha:PT X a tA):PW X (.BoolOp .Or [a] pos) tA:=by
  intro wh pins s σ H Q I h
  refine isTrue_or (thn (ha pins s σ H Q I h) fun c s1 e=>?_)
  cases c with
  | false=>exact isTrue_or_nil e
  | true=>exact e
theorem nU (ha:PT X a tA)(hb:PW X (.BoolOp .And (b::rest) pos) tB'):PW X (.BoolOp .And (a::b::rest) pos) (pG tA tB'):=by
  intro wh pins s σ H Q I h
  refine isTrue_and (thn (ha pins s σ H _ I h) fun c s1 ⟨H1,I1,q1⟩=>?_)
  cases c with
  | true=>exact hb wh pins s1 σ H1 Q I1 q1
  | false=>exact⟨H1,I1,q1⟩
theorem fq (ha:PT X a tA)(hb:PW X (.BoolOp .Or (b::rest) pos) tB'):PW X (.BoolOp .Or (a::b::rest) pos) (tOr tA tB'):=by
  intro wh pins s σ H Q I h
  refine isTrue_or (thn (ha pins s σ H _ I h) fun c s1 ⟨H1,I1,q1⟩=>?_)
  cases c with
  | true=>exact⟨H1,I1,q1⟩
  | false=>exact hb wh pins s1 σ H1 Q I1 q1
theorem cC (ha:PT X a tA):PT X (.UnaryOp .Not a pos) (pC tA):=by
  intro pins s σ H Q I h
  exact isTrue_not (ha pins s σ H (fun c H1=>Q (!c) H1) I h)
def oV (ta tb:TE):TE:=fun σ H Q=>ta σ H fun x H1=>∃ c,x=.bl c/\if c=true then tb σ H1 Q else Q (.bl false) H1
def oP (ta:TE):TE:=fun σ H Q=>ta σ H fun x H1=>∃ c,x=.bl c/\Q (.bl (!c)) H1
theorem fX {op}{t:TE}(h:PE X a t):PE X (.BoolOp op [a] pos) t:=fun pins s σ H Q I hw=>BoolOp_one (h pins s σ H Q I hw)
theorem cJ (ha:PE X a ta)(hb:PE X (.BoolOp .And (b::rest) pos) tb):PE X (.BoolOp .And (a::b::rest) pos) (oV ta tb):=by
  intro pins s σ H Q I h
  refine BoolOp_and (thn (ha pins s σ H _ I h) fun v s1 ⟨x,H1,I1,r1,q1⟩=>?_)
  obtain⟨c,rfl,q1⟩:=q1
  cases r1
  refine wpAny_truthy_bool ?_
  cases c with
  | true=>exact hb pins s1 σ H1 Q I1 q1
  | false=>exact⟨.bl false,H1,I1,rfl,q1⟩
theorem nK (ha:PE X a ta):PE X (.UnaryOp .Not a pos) (oP ta):=by
  intro pins s σ H Q I h
  refine UnaryOp_ (thn (ha pins s σ H _ I h) fun v s1 ⟨x,H1,I1,r1,q1⟩=>?_)
  obtain⟨c,rfl,q1⟩:=q1
  cases r1
  exact not_of (wpAny_truthy_bool ⟨.bl (!c),H1,I1,rfl,q1⟩)
def tIf (t:TT)(ta tb:TE):TE:=fun σ H Q=>t σ H fun c H1=>if c=true then ta σ H1 Q else tb σ H1 Q
theorem iW {c:Expr}(hc:PT X c tA)(ha:PE X a ta)(hb:PE X b tb):PE X (.IfExp c a b pos) (tIf tA ta tb):=by
  intro pins s σ H Q I h
  refine wpAny_IfExp (thn (hc pins s σ H _ I h) fun d s1 ⟨H1,I1,q1⟩=>?_)
  cases d with
  | true=>exact ha pins s1 σ H1 Q I1 q1
  | false=>exact hb pins s1 σ H1 Q I1 q1
end
def SqL (K:PySem.W.Frag)(H:Hp)(a:Addr)(xs:List V):Prop :=
  Rd H a (.lst xs) ∨
    ∃ (o:Obj) (its:Array Value) (n:Nat),K.lookup a=some o/\o.cls=.type "list" ∧ o.dict=none/\o.data=.seq its n/\its.size<=sizeLine/\Vals xs its.toList
def SqT (K:PySem.W.Frag)(H:Hp)(a:Addr)(xs:List V):Prop :=
  Rd H a (.tup xs) ∨
    ∃ (o:Obj) (its:Array Value) (n:Nat),K.lookup a=some o/\o.cls=.type "tuple" ∧ o.data=.seq its n/\its.size<=sizeLine/\Vals xs its.toList
def pF:Value->Option V
  | .none=>some .non
  | .bool b=>some (.bl b)
  | .int i _=>some (.int i)
  | .str x _=>some (.str x)
  | .bytes b _=>some (.byt b)
  | .float b _=>some (.flt b)
  | .ref a=>some (.ref a)
  | .type n=>some (.ty n)
  | _=>none
theorem RelV.abs {x:V}{u:Value}(r:RelV x u):pF u=some x:=by
  cases x with
  | non=>cases r;rfl
  | bl _=>cases r;rfl
  | int _=>obtain⟨t,rfl⟩:=r;rfl
  | str _=>obtain⟨t,rfl⟩:=r;rfl
  | byt _=>obtain⟨t,rfl⟩:=r;rfl
  | flt _=>obtain⟨t,rfl⟩:=r;rfl
  | ref _=>cases r;rfl
  | ty _=>cases r;rfl
theorem RelV.inj {x y:V}{u:Value}(r:RelV x u)(q:RelV y u):x=y:=Option.some.inj (r.abs.symm.trans q.abs)
theorem Vals.inj:∀ {xs ys:List V} {us:List Value},Vals xs us->Vals ys us->xs=ys
  | _,_,_,.nil,.nil=>rfl
  | _,_,_,.cons r t,.cons r' t'=>by rw [r.inj r',Vals.inj t t']
section
variable {X:Cx}{pins:List (Addr×Obj)}{σ:St}{H:Hp}{s:Shared}{a:Addr}{xs ys:List V}
theorem SqL.of {K:PySem.W.Frag}(h:H a=some (.lst xs)):SqL K H a xs:=.inl (.inl h)
theorem SqT.of {K:PySem.W.Frag}(h:H a=some (.tup xs)):SqT K H a xs:=.inl (.inl h)
theorem Inv.list (I:Inv X pins σ H s)(h:SqL X.K H a xs):∃ its:List Value,Vals xs its/\PlainL s.heap a its.toArray/\xs.length<=sizeLine:=by
  rcases h with h | ⟨o,its,n,hk,hc,hd,hs,hz,r⟩
  · obtain⟨z,its,n,r,e⟩:=h.ok I.hok
    exact⟨its,r,⟨_,n,e,rfl,rfl,rfl⟩,z⟩
  · refine⟨its.toList,r,⟨o,n,I.kIn a o hk,hc,hd,by simpa using hs⟩,?_⟩
    have e:=r.length
    simp only [Array.length_toList] at e
    omega
theorem Inv.tuple (I:Inv X pins σ H s)(h:SqT X.K H a xs):∃ its:List Value,Vals xs its/\IsTup s.heap a its.toArray/\xs.length<=sizeLine:=by
  rcases h with h | ⟨o,its,n,hk,hc,hs,hz,r⟩
  · obtain⟨z,its,r,p⟩:=h.ok I.hok
    exact⟨its,r,p,z⟩
  · refine⟨its.toList,r,⟨o,I.kIn a o hk,hc,n,by simpa using hs⟩,?_⟩
    have e:=r.length
    simp only [Array.length_toList] at e
    omega
theorem Inv.list_inj (I:Inv X pins σ H s)(h:SqL X.K H a xs)(h':SqL X.K H a ys):xs=ys:=by
  obtain⟨its,r,⟨o,n,e,_,_,d⟩,_⟩:=I.list h
  obtain⟨its',r',⟨o',n',e',_,_,d'⟩,_⟩:=I.list h'
  rw [e] at e';cases e'
  rw [d] at d'
  injection d' with d1 _
  have:its=its':=by simpa using congrArg Array.toList d1
  subst this
  exact r.inj r'
end
abbrev Cx.wish (X:Cx)(E:Value->Shared->Prop):Cx:={ X with xe:=E }
abbrev Cx.nox (X:Cx):Cx:=X.wish fun _ _=>False
theorem Cx.Ok.wish {X:Cx}(ok:X.Ok)(E:Value->Shared->Prop):(X.wish E).Ok :=
  ⟨ok.mod,ok.kind,ok.glob,ok.blt,ok.above,ok.inj,ok.has,ok.cab,ok.hd,ok.frames,ok.stk,ok.exf,ok.bs,ok.bsz,ok.noex,ok.exfs,ok.funs,ok.frf⟩
theorem Cx.Ok.unwish {X:Cx}{E:Value->Shared->Prop}(ok:(X.wish E).Ok):X.Ok :=
  ⟨ok.mod,ok.kind,ok.glob,ok.blt,ok.above,ok.inj,ok.has,ok.cab,ok.hd,ok.frames,ok.stk,ok.exf,ok.bs,ok.bsz,ok.noex,ok.exfs,ok.funs,ok.frf⟩
section
variable {X:Cx}{pins:List (Addr×Obj)}{σ:St}{H:Hp}{s:Shared}{E:Value->Shared->Prop}
theorem Inv.wish (I:Inv X pins σ H s)(E:Value->Shared->Prop):Inv (X.wish E) pins σ H s:=⟨I.ok.wish E,I.os,I.bare,I.base,I.loc,I.cell,I.free,I.freeC,I.pin,I.hok,I.len⟩
theorem Inv.unwish (I:Inv (X.wish E) pins σ H s):Inv X pins σ H s:=⟨I.ok.unwish,I.os,I.bare,I.base,I.loc,I.cell,I.free,I.freeC,I.pin,I.hok,I.len⟩
theorem SP.unwish {D:nA}{f:Flow}{s':Shared}(h:SP (X.wish E) pins D f s'):SP X pins D f s':=by
  cases f with
  | next=>obtain⟨σ',H',I,q⟩:=h;exact⟨σ',H',I.unwish,q⟩
  | brk=>obtain⟨σ',H',I,q⟩:=h;exact⟨σ',H',I.unwish,q⟩
  | cont=>obtain⟨σ',H',I,q⟩:=h;exact⟨σ',H',I.unwish,q⟩
  | ret u=>obtain⟨v,σ',H',I,r,q⟩:=h;exact⟨v,σ',H',I.unwish,r,q⟩
theorem PSs.nox {st:List Stmt}{t:TS}(h:PSs X.nox st t):PSs X st t:=fun pins s σ H D I hw =>
  wpAny_mono (h pins s σ H D (I.wish _) hw) (fun _ _ q=>q.unwish) fun _ _ z=>False.elim z
end
section
variable {X:Cx}{st:Stmt}{rest:List Stmt}{t u:TS}{e:Expr}{te:TE}{pos:Pos}
def jA:TS:=fun D σ H=>D.nx σ H
def oZ (t u:TS):TS:=fun D σ H=>t { D with nx:=u D } σ H
theorem aX:PSs X [] jA:=fun _ _ σ H _ I h=>wpAny_execs_nil ⟨σ,H,I,h⟩
theorem aj (h1:PS X st t)(h2:PSs X rest u):PSs X (st::rest) (oZ t u):=by
  intro pins s σ H D I h
  refine wpAny_execs_cons (thn (h1 pins s σ H { D with nx:=u D } I h) fun f s1 q=>?_)
  cases f with
  | next =>
    obtain⟨σ',H',I',q⟩:=q
    exact h2 pins s1 σ' H' D I' q
  | ret v=>exact q
  | brk=>exact q
  | cont=>exact q
theorem aq (h1:PS X st t):PSs X [st] t:=by
  intro pins s σ H D I h
  refine wpAny_execs_cons (thn (h1 pins s σ H D I h) fun f s1 q=>?_)
  cases f with
  | next=>exact wpAny_execs_nil q
  | ret v=>exact q
  | brk=>exact q
  | cont=>exact q
theorem Inv.quiet {pins:List (Addr×Obj)}{σ:St}{H:Hp}{s:Shared}(I:Inv X pins σ H s):interactive X.env=false:=by simp [interactive,I.ok.kind]
def pd (te:TE):TS:=fun D σ H=>te σ H fun _ H1=>D.nx σ H1
theorem dQ (he:PE X e te)(hs:swapsWith e none pos.line X.env=pure false:=by rfl):PS X (.Expr e pos) (pd te):=by
  intro pins s σ H D I h
  exact wpAny_Expr_any (thn (he pins s σ H _ I h) fun v s1 ⟨x,H1,I1,r1,q1⟩=>⟨σ,H1,I1,q1⟩) I.quiet hs
def lg (te:TE):TS:=fun D σ H=>te σ H D.rt
theorem aA (he:PE X e te):PS X (.Return (some e) pos) (lg te):=by
  intro pins s σ H D I h
  exact wpAny_Return_some (thn (he pins s σ H _ I h) fun v s1 ⟨x,H1,I1,r1,q1⟩=>⟨x,σ,H1,I1,r1,q1⟩)
def pQ (c:TT)(t u:TS):TS:=fun D σ H=>c σ H fun b H1=>if b=true then t D σ H1 else u D σ H1
theorem cc {c:Expr}{a b:List Stmt}{tc:TT}(hc:PT X c tc)(ha:PSs X a t)(hb:PSs X b u):PS X (.If c a b pos) (pQ tc t u):=by
  intro pins s σ H D I h
  refine wpAny_If (thn (hc pins s σ H _ I h) fun d s1 ⟨H1,I1,q1⟩=>?_)
  cases d with
  | true=>exact ha pins s1 σ H1 D I1 q1
  | false=>exact hb pins s1 σ H1 D I1 q1
def ox:TS:=fun _ _ _=>False
theorem d9 {sts:List Stmt}:PSs X sts ox:=fun _ _ _ _ _ _ h=>h.elim
end
abbrev TG:=V->St->Hp->(St->Hp->Prop)->Prop
abbrev TGs:=List V->St->Hp->(St->Hp->Prop)->Prop
def PG (X:Cx)(target:Expr)(t:TG):Prop :=
  ∀ (pins:List (Addr×Obj)) (s:Shared) (σ:St) (H:Hp) (v:V) (u:Value) (Q:St->Hp->Prop),Inv X pins σ H s->RelV v u->t v σ H Q →
    wpAny (model X.prog X.w) X.A (assign target X.env u) (fun _ s'=>∃ σ' H',Inv X pins σ' H' s'/\Q σ' H') X.xe s
def PGs (X:Cx)(ts:List Expr)(t:TGs):Prop :=
  ∀ (pins:List (Addr×Obj)) (s:Shared) (σ:St) (H:Hp) (vs:List V) (us:List Value) (Q:St->Hp->Prop),Inv X pins σ H s->Vals vs us->t vs σ H Q →
    wpAny (model X.prog X.w) X.A (assignInOrder ((assignEach ts X.env).map (·.2)) us) (fun _ s'=>∃ σ' H',Inv X pins σ' H' s'/\Q σ' H') X.xe s
section
variable {X:Cx}{pos:Pos}
def cF (i:Nat):TG:=fun v σ H Q=>Q (σ.set i (some v)) H
theorem ax {i:Nat}{x:Str}(hN:X.N.Nodup)(hi:X.N[i]? = some x)(hx:Loc X.env.scope x)(hf:X.fn x=true\/X.env.scope.names.lookup x=some .local:=by first | exact .inl rfl | exact .inr rfl | assumption):PG X (.Name x pos) (cF i):=by
  intro pins s σ H v u Q I r h
  exact wpAny_assign_Name (i8 I hN hi hx r (fun s' I'=>⟨_,H,I',h⟩) hf)
def oI:TGs:=fun vs σ H Q=>vs=[]/\Q σ H
def jD (t:TG)(u:TGs):TGs:=fun vs σ H Q=>∃ v r,vs=v::r/\t v σ H fun σ' H'=>u r σ' H' Q
theorem cz:PGs X [] oI:=by
  intro pins s σ H vs us Q I r h
  obtain⟨e,h⟩:=h
  subst e
  cases r
  exact assignInOrder_nil ⟨σ,H,I,h⟩
theorem aM {e:Expr}{es:List Expr}{t:TG}{u:TGs}(h1:PG X e t)(h2:PGs X es u)
    (hs:(assignEach (e::es) X.env).map (·.2)=assign e X.env::(assignEach es X.env).map (·.2):=by rfl):PGs X (e::es) (jD t u):=by
  intro pins s σ H vs us Q I r h
  obtain⟨v,vr,e1,h⟩:=h
  subst e1
  cases r with
  | cons r rr =>
    rw [hs]
    refine assignInOrder_cons (thn (h1 pins s σ H _ _ _ I r h) fun _ s1 ⟨σ1,H1,I1,q1⟩=>?_)
    exact h2 pins s1 σ1 H1 _ _ Q I1 rr q1
def nQ (K:PySem.W.Frag)(n:Nat)(t:TGs):TG:=fun v σ H Q=>∃ a xs,v=.ref a/\SqT K H a xs/\xs.length=n/\t xs σ H Q
theorem eB {es:List Expr}{k:Nat}{t:TGs}{n:Nat}(hc:X.calm=true)(h:PGs X es t)
    (hn:(assignEach es X.env).length=n:=by rfl)(hst:(assignEach es X.env).findIdx? (·.1)=none:=by rfl):PG X (.Tuple es k pos) (nQ X.K n t):=by
  intro pins s σ H v u Q I r hw
  obtain⟨a,xs,e1,hq,hl,hw⟩:=hw
  subst e1
  cases r
  obtain⟨its,rv,ht,hz⟩:=I.tuple hq
  refine assign_Tuple_tuple (I.ok.hd hc) ht (by simp [hn,← hl,rv.length]) hst fun h' hx=>?_
  have I1:Inv X pins σ H { s with heap:=h' }:=I.kept (t':=s.toks) fun b o e=>hx b o (Nat.ne_of_lt (Heap.lt_size e)) e
  exact h pins _ σ H xs _ Q I1 (by simpa using rv) hw
def oE (te:TE)(g:TG):TS:=fun D σ H=>te σ H fun x H1=>g x σ H1 D.nx
theorem gM {tg e:Expr}{te:TE}{g:TG}(he:PE X e te)(hg:PG X tg g)(hs:swapsWithSole [tg] e pos.line X.env=pure false:=by rfl)(hw:swappedStores [tg] e X.env=pure none:=by rfl)
    (h1:(assignEach [tg] X.env).map (·.2)=[assign tg X.env]:=by rfl):PS X (.Assign [tg] e pos) (oE te g):=by
  intro pins s σ H D I h
  refine wpAny_Assign_stores (thn (he pins s σ H _ I h) fun v s1 ⟨x,H1,I1,r1,q1⟩=>?_) hs hw
  rw [h1]
  exact thn (hg pins s1 σ H1 x v _ I1 r1 q1) fun _ s2 q=>q
theorem aS {i:Nat}{x:Str}{e:Expr}{te:TE}{pos':Pos}(hN:X.N.Nodup)(hi:X.N[i]? = some x)(hx:Loc X.env.scope x)(he:PE X e te)(hs:swapsWith e (some (.Name x pos')) pos.line X.env=pure false:=by rfl)(hf:X.fn x=true\/X.env.scope.names.lookup x=some .local:=by first | exact .inl rfl | exact .inr rfl | assumption) :
    PS X (.Assign [.Name x pos'] e pos) (oE te (cF i)):=by
  intro pins s σ H D I h
  refine wpAny_Assign_Name (thn (he pins s σ H _ I h) fun v s1 ⟨y,H1,I1,r1,q1⟩=>?_) hs
  exact i8 I1 hN hi hx r1 (fun s2 I2=>⟨_,H1,I2,q1⟩) hf
end
section
variable {X:Cx}{pos:Pos}
end
structure It where
  go:Nat->Hp->Prop
  yld:Nat->Hp->V->Hp->Prop
  stop:Nat->Hp->Prop
def jQ (X:Cx)(pins:List (Addr×Obj))(H:Hp)(b:Addr):Prop :=
  H b=none/\b≠X.env.locals/\b ∉ X.fs/\(b∈X.ex\/X.s₀.heap.objs.size<=b)/\(∀ x c,X.env.cells.lookup x=some c->c≠b)/\∀ p∈X.pn++pins,p.1≠b
theorem Inv.fpOk {X:Cx}{pins:List (Addr×Obj)}{σ:St}{H H':Hp}{s:Shared}{b:Addr}(I:Inv X pins σ H s)(hb:s.heap.objs.size<=b)(hn:H' b=none):jQ X pins H' b:=by
  refine⟨hn,Nat.ne_of_gt (Nat.lt_of_lt_of_le I.lt hb),I.nofs hb,.inr (Nat.le_trans I.sz hb),fun x c e z=>?_,fun p hp z=>?_⟩
  · obtain⟨v,q⟩:=I.cell x c e
    exact absurd (Nat.lt_of_lt_of_le q.lt (by rw [z];exact hb)) (Nat.lt_irrefl _)
  · exact absurd (Nat.lt_of_lt_of_le (Heap.lt_size (I.pin p hp).1) (by rw [z];exact hb)) (Nat.lt_irrefl _)
structure oC (P:Program)(w:World)(K:PySem.W.Frag)(tg:Expr)(J:It)(fp:List Addr)(it:Addr)(tn:Nat->Heap->Prop):Prop where
  mem:it∈fp
  obj:∀ i h,tn i h->∀ b∈fp,∃ o,h.get? b=some o/\∀ v,o.data≠.cell v
  keep:∀ i h h',tn i h->(∀ b∈fp,∀ o,h.get? b=some o->h'.get? b=some o)->tn i h'
  item:∀ (X:Cx),X.prog=P->X.w=w->X.K=K->X.calm=true->∀ (i:Nat) (pins:List (Addr×Obj)) (s:Shared) (σ:St) (H:Hp) (E:Value->Shared->Prop),Inv X pins σ H s->(∀ b∈fp,jQ X pins H b)->tn i s.heap->J.go i H →
    wpAny (model P w) X.A (pyNext (.ref it)) (fun r s1=>∃ u,r=some u ∧
      wpAny (model P w) X.A (letOwnedTupleGo tg (.ref it) u) (fun _ s2=>∃ x H',Inv X pins σ H' s2/\RelV x u/\J.yld i H x H'/\tn (i+1) s2.heap/\∀ b∈fp,H' b=none) E s1) E s
  done:∀ (X:Cx),X.prog=P->X.w=w->X.K=K->X.calm=true->∀ (i:Nat) (pins:List (Addr×Obj)) (s:Shared) (σ:St) (H:Hp) (E:Value->Shared->Prop),Inv X pins σ H s->(∀ b∈fp,jQ X pins H b)->tn i s.heap->J.stop i H →
    wpAny (model P w) X.A (pyNext (.ref it)) (fun r s1=>r=none/\Inv X pins σ H s1) E s
  self:∀ (A:Around) (i:Nat) (s:Shared) (Q:Value->Shared->Prop) (E:Value->Shared->Prop),tn i s.heap->Q (.ref it) s->wpAny (model P w) A (pyIter (.ref it)) Q E s
abbrev TI:=St->Hp->(It->Hp->Prop)->Prop
def PIE (X:Cx)(pins:List (Addr×Obj))(σ:St)(tg:Expr)(R:It->Hp->Prop)(itv:Value)(s2:Shared):Prop :=
  ∃ (it:Addr) (fp:List Addr) (tn:Nat->Heap->Prop) (J:It) (H':Hp),itv=.ref it/\Inv X pins σ H' s2/\oC X.prog X.w X.K tg J fp it tn/\tn 0 s2.heap/\(∀ b∈fp,jQ X pins H' b)/\R J H'
def PI (X:Cx)(tg iter:Expr)(wi:TI):Prop :=
  ∀ (pins:List (Addr×Obj)) (s:Shared) (σ:St) (H:Hp) (R:It->Hp->Prop),Inv X pins σ H s->wi σ H R →
    wpAny (model X.prog X.w) X.A (eval iter X.env) (fun v s1=>wpAny (model X.prog X.w) X.A (pyIter v) (PIE X pins σ tg R) X.xe s1) X.xe s
theorem oB {M:Model}{A:Around}{E:Value->Shared->Prop}{s:Shared}{tg:Expr}{it:Addr}{u:Value}{o:Obj}{n:String}{vs:Array Value}{Q:Unit->Shared->Prop}(ho:s.heap.get? it=some o)(hc:o.cls=.type n)(hd:o.data=.fields vs)
    (hn:["enumerate","zip","dict_itemiterator","dict_reverseitemiterator","odict_iterator","itertools.zip_longest","itertools.pairwise"].contains n=false)(hQ:Q () s):wpAny M A (letOwnedTupleGo tg (.ref it) u) Q E s:=by
  unfold letOwnedTupleGo
  cases tg<;>first
    | exact wpAny_pure hQ
    | (cases u<;>first
        | exact wpAny_pure hQ
        | (refine wpAny_bind (wpAny_load ho ?_)
           rw [hc,hd]
           show wpAny M A (if (["enumerate","zip","dict_itemiterator","dict_reverseitemiterator","odict_iterator","itertools.zip_longest","itertools.pairwise"].contains n && vs[0]? == some (rawInt _))=true then _ else _) Q E s
           rw [if_neg (by intro h;rw [hn,Bool.false_and] at h;cases h)]
           exact wpAny_pure hQ))
def Itl (K:PySem.W.Frag)(a:Addr):It :=
  ⟨fun i H=>∃ xs x,SqL K H a xs/\xs[i]? = some x,fun i H x H'=>H'=H/\∀ xs,SqL K H a xs->xs[i]? = some x,fun i H=>∃ xs,SqL K H a xs/\xs.length<=i⟩
def Itr (lo:Int)(n:Nat):It:=⟨fun i _=>i < n,fun i H x H'=>H'=H/\x=.int (lo+i),fun i _=>n<=i⟩
theorem ky {P:Program}{w:World}{K:PySem.W.Frag}{tg:Expr}(a it:Addr):oC P w K tg (Itl K a) [it] it (fun i h=>h.IsListIter it a i) where
  mem:=by simp
  obj:=fun i h st b hb=>by
    have e:b=it:=by simpa using hb
    subst e
    obtain⟨o,e,c,d⟩:=st
    exact⟨o,e,fun v z=>by rw [d] at z;cases z⟩
  keep:=fun i h h' st k=>st.at fun o e=>k it (by simp) o e
  item:=by
    intro X hP hw hK hc i pins s σ H E I hf st hg
    subst hP hw hK
    obtain⟨xs,x,hq,hx⟩:=hg
    obtain⟨its,rv,p,hz⟩:=I.list hq
    obtain⟨u,hu,ru⟩:=rv.get hx
    obtain⟨f0,f1,f2,f3,f4,f5⟩:=hf it (by simp)
    refine wpAny_pyNext_list_item st p.isList (x:=u) (by simpa using hu) fun h' st' sb=>?_
    have I1:Inv X pins σ H { s with heap:=h' }:=I.turned (t':=s.toks) (fun b o hb e=>(sb.2 b hb).trans e) f0 f1 f3 f4 f5
    obtain⟨o,e,c,d⟩:=id st'
    exact⟨u,rfl,oB (s:={ s with heap:=h' }) e c d (by decide) ⟨x,H,I1,ru,⟨rfl,fun ys hy=>by rw [I.list_inj hy hq];exact hx⟩,st',fun b hb=>(hf b hb).1⟩⟩
  done:=by
    intro X hP hw hK hc i pins s σ H E I hf st hg
    subst hP hw hK
    obtain⟨xs,hq,hx⟩:=hg
    obtain⟨its,rv,p,hz⟩:=I.list hq
    obtain⟨f0,f1,f2,f3,f4,f5⟩:=hf it (by simp)
    have hl:=rv.length
    exact wpAny_pyNext_list_end (I.ok.hd hc) st p.isList (by simp;omega) fun h' eb=>⟨rfl,I.turned (t':=s.toks) (fun b o hb e=>eb b o hb e) f0 f1 f3 f4 f5⟩
  self:=fun _ _ _ _ _ st h=>wpAny_pyIter_listiter st h
theorem jy {P:Program}{w:World}{K:PySem.W.Frag}{tg:Expr}(it:Addr)(lo:Int)(n:Nat):oC P w K tg (Itr lo n) [it] it (fun i h=>IsRangeIter h it (lo+(i:Nat) * 1) ((n:Int) - (i:Nat)) 1) where
  mem:=by simp
  obj:=fun i h st b hb=>by
    have e:b=it:=by simpa using hb
    subst e
    exact⟨_,st,fun v z=>by
      have z':Data.fields _=Data.cell v:=z
      cases z'⟩
  keep:=fun i h h' st k=>k it (by simp) _ st
  item:=by
    intro X hP hw hK hc i pins s σ H E I hf st hg
    subst hP hw hK
    obtain⟨f0,f1,f2,f3,f4,f5⟩:=hf it (by simp)
    have W:=Walks.range (prog:=X.prog) (w:=X.w) (I.ok.hd hc) it lo 1 n
    refine W.item i s _ _ hg st fun v h' tk hv st' kk=>?_
    obtain⟨t,rfl⟩:=hv
    have I1:Inv X pins σ H { s with heap:=h',toks:=tk }:=I.turned (fun b o hb e=>kk b o (by simpa using hb) e) f0 f1 f3 f4 f5
    refine⟨_,rfl,oB (s:={ s with heap:=h',toks:=tk }) (n := "range_iterator") st' rfl rfl (by decide) ⟨.int (lo+i),H,I1,⟨t,?_⟩,⟨rfl,rfl⟩,st',fun b hb=>(hf b hb).1⟩⟩
    rw [Int.mul_one]
  done:=by
    intro X hP hw hK hc i pins s σ H E I hf st hg
    subst hP hw hK
    obtain⟨f0,f1,f2,f3,f4,f5⟩:=hf it (by simp)
    exact wpAny_pyNext_range_end (I.ok.hd hc) st (by have:n<=i:=hg;omega) fun h' eb=>⟨rfl,I.turned (t':=s.toks) (fun b o hb e=>eb b o hb e) f0 f1 f3 f4 f5⟩
  self:=fun _ _ _ _ _ st h=>wpAny_pyIter_rangeiter st h
section
variable {X:Cx}{tg:Expr}
def pf (K:PySem.W.Frag)(tl:TE):TI:=fun σ H R=>tl σ H fun x H1=>∃ a,x=.ref a/\(∃ xs,SqL K H1 a xs)/\R (Itl K a) H1
theorem cy {l:Expr}{tl:TE}(hl:PE X l tl):PI X tg l (pf X.K tl):=by
  intro pins s σ H R I h
  refine thn (hl pins s σ H _ I h) fun v s1 ⟨x,H1,I1,r1,q1⟩=>?_
  obtain⟨a,e,⟨xs,hq⟩,q⟩:=q1
  subst e
  cases r1
  obtain⟨its,rv,p,hz⟩:=I1.list hq
  refine wpAny_pyIter_list p.isList ?_
  refine⟨s1.heap.objs.size,[s1.heap.objs.size],_,_,H1,rfl,I1.kept (t':=s1.toks) fun b o e=>Heap.get?_push_of_some _ e,ky a _,⟨_,Heap.get?_push_size _ rfl,rfl,rfl⟩,fun b hb=>?_,q⟩
  have e:b=s1.heap.objs.size:=by simpa using hb
  subst e
  exact I1.fpOk (Nat.le_refl _) (I1.hok.fresh (Nat.le_refl _))
theorem lE {pins:List (Addr×Obj)}{σ:St}{H:Hp}{s:Shared}{R:It->Hp->Prop}{E:Value->Shared->Prop}{lo hi:Int}{t u v:Tok}{tk:Nat}(I:Inv X pins σ H s)(h1:-(2 ^ 62)<=lo)(h2:lo < 2 ^ 62)(h3:-(2 ^ 62)<=hi)(h4:hi < 2 ^ 62)
    (q:R (Itr lo (hi - lo).toNat) H):wpAny (model X.prog X.w) X.A (pyIter (.ref s.heap.objs.size)) (PIE X pins σ tg R) E { s with heap:=s.heap.push { cls:=.type "range",data:=.fields #[.int lo t,.int hi u,.int 1 v] },toks:=tk }:=by
  refine wpAny_pyIter_range (IsRange.new ..) (small_one h1 h2 h3 h4) ?_
  have I1:Inv X pins σ H { s with heap:=s.heap.push { cls:=.type "range",data:=.fields #[.int lo t,.int hi u,.int 1 v] },toks:=tk }:=I.kept fun b o e=>Heap.get?_push_of_some _ e
  refine⟨(s.heap.push { cls:=.type "range",data:=.fields #[.int lo t,.int hi u,.int 1 v] }).objs.size,[(s.heap.push { cls:=.type "range",data:=.fields #[.int lo t,.int hi u,.int 1 v] }).objs.size],_,_,H,rfl,
    I1.kept (t':=tk) fun b o e=>Heap.get?_push_of_some _ e,jy _ lo (hi - lo).toNat,?_,fun b hb=>?_,q⟩
  · have e1:lo+((0:Nat):Int) * 1=lo:=by simp
    have e2:(((hi - lo).toNat:Nat):Int) - ((0:Nat):Int)=Builtin.Range.rangeSize lo hi 1:=by rw [rangeSize_one];split<;>omega
    show IsRangeIter _ _ (lo+((0:Nat):Int) * 1) ((((hi - lo).toNat:Nat):Int) - ((0:Nat):Int)) 1
    rw [e1,e2]
    exact Heap.get?_push_size _ rfl
  · have e:b=(s.heap.push { cls:=.type "range",data:=.fields #[.int lo t,.int hi u,.int 1 v] }).objs.size:=by simpa using hb
    subst e
    exact I1.fpOk (Nat.le_refl _) (I1.hok.fresh (Nat.le_refl _))
def o7 (ta:TA):TI:=fun σ H R=>ta σ H fun vs H1=>∃ j:Int,vs=[.int j]/\-(2 ^ 62)<=j/\j < 2 ^ 62/\R (Itr 0 j.toNat) H1
theorem bz {a:Expr}{ta:TA}{p pos:Pos}(hg:Gl X "range")(hm:X.mg "range" = none)(ha:PA X [a] ta)(hs:starEach [a] X.env=[(false,eval a X.env)]:=by rfl):PI X tg (.Call (.Name "range" p) [a] [] pos) (o7 ta):=by
  intro pins s σ H R I h
  refine Call_ (jn I hg hm boot_range (PyProof.Rows.callWith_type1 (thn (ha pos pins s σ H _ I h) fun us s1 ⟨vs,H1,I1,r1,q1⟩=>?_) hs rfl))
  obtain⟨j,e,q1,q2,q⟩:=q1
  subst e
  cases r1 with
  | cons r rr =>
    cases rr
    obtain⟨t,rfl⟩:=r
    exact call_range_1 (lE I1 (by omega) (by omega) q1 q2 (by simpa using q))
def pT (wi:TI)(g:TG)(tb:TS):TS:=fun D σ H=>wi σ H fun J H1=>∃ W:Nat->Nat->St->Hp->Prop,(∃ m,W 0 m σ H1)/\∀ i m σ H,W i m σ H →
  (J.stop i H/\D.nx σ H)\/(J.go i H/\∃ N:St->Hp->Prop,(∀ σ' H',N σ' H'->∃ m',m' < m/\W (i+1) m' σ' H')/\∀ x H',J.yld i H x H'->g x σ H' fun σ2 H2=>tb { D with nx:=N,ct:=N,bk:=D.nx } σ2 H2)
def hC (fp:List Addr)(h:Heap):List (Addr×Obj):=fp.filterMap fun b=>(h.get? b).map fun o=>(b,o)
theorem dg {fp:List Addr}{h:Heap}{b:Addr}{o:Obj}(hb:b∈fp)(e:h.get? b=some o):(b,o)∈hC fp h:=List.mem_filterMap.mpr ⟨b,hb,by rw [e];rfl⟩
theorem kJ {fp:List Addr}{h:Heap}{p:Addr×Obj}(hp:p∈hC fp h):p.1∈fp/\h.get? p.1=some p.2:=by
  obtain⟨b,hb,e⟩:=List.mem_filterMap.mp hp
  cases q:h.get? b with
  | none=>rw [q] at e;cases e
  | some o =>
    rw [q] at e
    have e':(b,o)=p:=Option.some.inj e
    subst e'
    exact⟨hb,q⟩
theorem Inv.pinned {pins:List (Addr×Obj)}{σ:St}{H:Hp}{s:Shared}{fp:List Addr}(I:Inv X pins σ H s)(hf:∀ b∈fp,jQ X pins H b)(ho:∀ b∈fp,∃ o,s.heap.get? b=some o/\∀ v,o.data≠.cell v):Inv X (pins++hC fp s.heap) σ H s :=
  I.pins_of fun p hp=>(List.mem_append.mp hp).elim (fun z=>I.pin p (List.mem_append_right _ z)) fun z=>by
    obtain⟨hb,e⟩:=kJ z
    obtain⟨f0,f1,f2,_⟩:=hf p.1 hb
    obtain⟨o,e',d⟩:=ho p.1 hb
    rw [e] at e';cases e'
    exact⟨e,f0,f1,f2,d⟩
theorem Inv.unpinned {pins pl:List (Addr×Obj)}{σ:St}{H:Hp}{s:Shared}(I:Inv X (pins++pl) σ H s):Inv X pins σ H s:=I.pins_of fun p hp=>I.pin p (List.mem_append_right _ (List.mem_append_left _ hp))
theorem fi {iter:Expr}{body:List Stmt}{wi:TI}{g:TG}{tb:TS}{pos:Pos}(hp:PassesOwn (model X.prog X.w) X.A X.env X.xe)(hc:X.calm=true)(hi:PI X tg iter wi)(hg:PG X tg g)(hb:PSs X body tb)
    (hs:∀ x,foldedSetIterable iter X.env x=pure x:=by intro _;rfl):PS X (.For tg iter body [] pos) (pT wi g tb):=by
  intro pins s σ H D I h
  refine wpAny_For (thn (hi pins s σ H _ I h) fun v s1 h1=>thn h1 fun itv s2 h2=>?_) hs
  obtain⟨it,fp,tn,J,H2,e,I2,T,st2,f2,W,⟨m0,w0⟩,turn⟩:=h2
  subst e
  have stat:∀ {H':Hp},(∀ b∈fp,H' b=none)->∀ b∈fp,jQ X pins H' b:=fun hn b hb=>⟨hn b hb,(f2 b hb).2⟩
  refine codeAny_forLoop_any (fun n s'=>∃ i σ' H',Inv X pins σ' H' s'/\tn i s'.heap/\(∀ b∈fp,H' b=none)/\W i n σ' H') ?_ m0 ⟨0,σ,H2,I2,st2,fun b hb=>(f2 b hb).1,w0⟩
  rintro n s3 ⟨i,σ3,H3,I3,st3,fr3,w3⟩
  rcases turn i n σ3 H3 w3 with ⟨stop,qn⟩ | ⟨go,N,hN,step⟩
  · refine wpAny_passesOwn hp (thn (T.done X rfl rfl rfl hc i pins s3 σ3 H3 X.xe I3 (stat fr3) st3 stop) fun r s4 ⟨hr,I4⟩=>?_)
    subst hr
    exact wpAny_execs_nil ⟨σ3,H3,I4,qn⟩
  · refine wpAny_passesOwn hp (thn (T.item X rfl rfl rfl hc i pins s3 σ3 H3 X.xe I3 (stat fr3) st3 go) fun r s4 ⟨u,hr,h4⟩=>?_)
    subst hr
    refine wpAny_passesOwn hp (thn h4 fun _ s5 ⟨x,H5,I5,r5,y5,st5,fr5⟩=>?_)
    have I5':=I5.pinned (stat fr5) (T.obj _ _ st5)
    refine wpAny_passesOwn hp (thn (hg _ s5 σ3 H5 x u _ I5' r5 (step x H5 y5)) fun _ s6 ⟨σ6,H6,I6,q6⟩=>?_)
    refine wpAny_passesOwn hp (thn (hb _ s6 σ6 H6 _ I6 q6) fun f s7 q7=>?_)
    have again:∀ {σ7:St} {H7:Hp},Inv X (pins++hC fp s5.heap) σ7 H7 s7->N σ7 H7->∃ m,m < n/\∃ i σ' H',Inv X pins σ' H' s7/\tn i s7.heap/\(∀ b∈fp,H' b=none)/\W i m σ' H':=fun {σ7 H7} I7 n7=>by
      obtain⟨m',hm,w7⟩:=hN σ7 H7 n7
      refine⟨m',hm,i+1,σ7,H7,I7.unpinned,T.keep _ _ _ st5 fun b hb o e=>(I7.pin (b,o) (List.mem_append_right _ (List.mem_append_right _ (dg hb e)))).1,fun b hb=>?_,w7⟩
      obtain⟨o,e,d⟩:=T.obj _ _ st5 b hb
      exact (I7.pin (b,o) (List.mem_append_right _ (List.mem_append_right _ (dg hb e)))).2.1
    cases f with
    | next=>obtain⟨σ7,H7,I7,n7⟩:=q7;exact again I7 n7
    | cont=>obtain⟨σ7,H7,I7,n7⟩:=q7;exact again I7 n7
    | brk=>obtain⟨σ7,H7,I7,q7⟩:=q7;exact⟨σ7,H7,I7.unpinned,q7⟩
    | ret v=>obtain⟨x7,σ7,H7,I7,r7,q7⟩:=q7;exact⟨x7,σ7,H7,I7.unpinned,r7,q7⟩
end
theorem ja {K:PySem.W.Frag}{a:Addr}{xs:List V}{g:TG}{tb:TS}{D:nA}{σ:St}{H:Hp}(Pv:Nat->St->Hp->Prop)(h0:Pv 0 σ H)(hl:∀ i σ H,i<=xs.length->Pv i σ H->SqL K H a xs)
    (hs:∀ i x σ H,xs[i]? = some x->Pv i σ H->g x σ H fun σ2 H2=>tb { D with nx:=Pv (i+1),ct:=Pv (i+1),bk:=D.nx } σ2 H2)(hd:∀ σ H,Pv xs.length σ H->D.nx σ H) :
    ∃ W:Nat->Nat->St->Hp->Prop,(∃ m,W 0 m σ H)/\∀ i m σ H,W i m σ H →
      ((Itl K a).stop i H/\D.nx σ H)\/((Itl K a).go i H/\∃ N:St->Hp->Prop,(∀ σ' H',N σ' H'->∃ m',m' < m/\W (i+1) m' σ' H')/\∀ x H',(Itl K a).yld i H x H'->g x σ H' fun σ2 H2=>tb { D with nx:=N,ct:=N,bk:=D.nx } σ2 H2):=by
  refine⟨fun i m σ H=>m=xs.length - i/\i<=xs.length/\Pv i σ H,⟨xs.length,by simp,Nat.zero_le _,h0⟩,?_⟩
  rintro i m σ H ⟨rfl,hi,p⟩
  have q:=hl i σ H hi p
  by_cases hlt:i < xs.length
  · refine .inr ⟨⟨xs,xs[i],q,by simp [hlt]⟩,Pv (i+1),fun σ' H' p'=>⟨xs.length - (i+1),by omega,rfl,hlt,p'⟩,fun x H' y=>?_⟩
    obtain⟨e,y⟩:=y
    subst e
    exact hs i x σ _ (y xs q) p
  · have e:i=xs.length:=by omega
    subst e
    exact .inl ⟨⟨xs,q,Nat.le_refl _⟩,hd σ H p⟩
theorem cN {lo:Int}{n:Nat}{g:TG}{tb:TS}{D:nA}{σ:St}{H:Hp}(Pv:Nat->St->Hp->Prop)(h0:Pv 0 σ H)
    (hs:∀ i σ H,i < n->Pv i σ H->g (.int (lo+i)) σ H fun σ2 H2=>tb { D with nx:=Pv (i+1),ct:=Pv (i+1),bk:=D.nx } σ2 H2)(hd:∀ σ H,Pv n σ H->D.nx σ H) :
    ∃ W:Nat->Nat->St->Hp->Prop,(∃ m,W 0 m σ H)/\∀ i m σ H,W i m σ H →
      ((Itr lo n).stop i H/\D.nx σ H)\/((Itr lo n).go i H/\∃ N:St->Hp->Prop,(∀ σ' H',N σ' H'->∃ m',m' < m/\W (i+1) m' σ' H')/\∀ x H',(Itr lo n).yld i H x H'->g x σ H' fun σ2 H2=>tb { D with nx:=N,ct:=N,bk:=D.nx } σ2 H2):=by
  refine⟨fun i m σ H=>m=n - i/\i<=n/\Pv i σ H,⟨n,by simp,Nat.zero_le _,h0⟩,?_⟩
  rintro i m σ H ⟨rfl,hi,p⟩
  by_cases hlt:i < n
  · refine .inr ⟨hlt,Pv (i+1),fun σ' H' p'=>⟨n - (i+1),by omega,rfl,hlt,p'⟩,fun x H' y=>?_⟩
    obtain⟨e,y⟩:=y
    subst e y
    exact hs i σ _ hlt p
  · have e:i=n:=by omega
    subst e
    exact .inl ⟨Nat.le_refl _,hd σ H p⟩
abbrev R2:=V->V->Hp->VK->Prop
def OpR (X:Cx)(f:Value->Value->Sem Value)(r:R2):Prop :=
  ∀ (pins:List (Addr×Obj)) (s:Shared) (σ:St) (H:Hp) (x y:V) (v u:Value) (Q:VK),Inv X pins σ H s->RelV x v->RelV y u->r x y H Q →
    wpAny (model X.prog X.w) X.A (f v u) (EP X pins σ Q) X.xe s
def UnR (X:Cx)(f:Value->Sem Value)(r:V->Hp->VK->Prop):Prop :=
  ∀ (pins:List (Addr×Obj)) (s:Shared) (σ:St) (H:Hp) (x:V) (v:Value) (Q:VK),Inv X pins σ H s->RelV x v->r x H Q →
    wpAny (model X.prog X.w) X.A (f v) (EP X pins σ Q) X.xe s
def dv (X:Cx)(f:Value)(r:List V->Hp->VK->Prop):Prop :=
  ∀ (pins:List (Addr×Obj)) (s:Shared) (σ:St) (H:Hp) (xs:List V) (us:List Value) (Q:VK),Inv X pins σ H s->Vals xs us->r xs H Q →
    wpAny (model X.prog X.w) X.A (call f us) (EP X pins σ Q) X.xe s
def pO (X:Cx)(r:V->Hp->(Bool->Hp->Prop)->Prop):Prop :=
  ∀ (pins:List (Addr×Obj)) (s:Shared) (σ:St) (H:Hp) (x:V) (v:Value) (Q:Bool->Hp->Prop),Inv X pins σ H s->RelV x v->r x H Q →
    wpAny (model X.prog X.w) X.A (truthy v) (TP X pins σ Q) X.xe s
def tOp (r:R2)(ta tb:TE):TE:=fun σ H Q=>ta σ H fun x H1=>tb σ H1 fun y H2=>r x y H2 Q
def tUn (r:V->Hp->VK->Prop)(ta:TE):TE:=fun σ H Q=>ta σ H fun x H1=>r x H1 Q
def rI (C:Int->Int->Prop)(g:Int->Int->V):R2:=fun x y H Q=>∃ i j,x=.int i/\y=.int j/\C i j/\Q (g i j) H
def rI0 (g:Int->Int->V):R2:=fun x y H Q=>∃ i j,x=.int i/\y=.int j/\Q (g i j) H
def rU (g:Int->V):V->Hp->VK->Prop:=fun x H Q=>∃ i,x=.int i/\Q (g i) H
section
variable {X:Cx}{a b c:Expr}{ta tb tc:TE}{pos:Pos}
theorem oX (ha:PE X a ta)(hb:PE X b tb){pins:List (Addr×Obj)}{s:Shared}{σ:St}{H:Hp}{R:V->V->Hp->Prop}(I:Inv X pins σ H s)
    (h:ta σ H fun x H1=>tb σ H1 fun y H2=>R x y H2){Q:Value->Shared->Prop}{f:Value->Value->Sem Value}
    (hf:∀ v u s2 x y H2,Inv X pins σ H2 s2->RelV x v->RelV y u->R x y H2->wpAny (model X.prog X.w) X.A (f v u) Q X.xe s2) :
    wpAny (model X.prog X.w) X.A (eval a X.env) (fun v s₁=>wpAny (model X.prog X.w) X.A (eval b X.env) (fun u s₂=>wpAny (model X.prog X.w) X.A (f v u) Q X.xe s₂) X.xe s₁) X.xe s:=by
  refine thn (ha pins s σ H _ I h) fun v s1 ⟨x,H1,I1,r1,q1⟩=>?_
  refine thn (hb pins s1 σ H1 _ I1 q1) fun u s2 ⟨y,H2,I2,r2,q2⟩=>?_
  exact hf v u s2 x y H2 I2 r1 r2 q2
theorem aV {op:Operator}{r:R2}(ho:OpR X (binaryOp op) r)(ha:PE X a ta)(hb:PE X b tb):PE X (.BinOp a op b pos) (tOp r ta tb):=by
  intro pins s σ H Q I h
  exact wpAny_BinOp (oX ha hb I h fun v u s2 x y H2 I2 rx ry q=>ho pins s2 σ H2 x y v u Q I2 rx ry q)
theorem oe {op:UnaryOp}{r:V->Hp->VK->Prop}(ho:UnR X (unaryOp op) r)(ha:PE X a ta):PE X (.UnaryOp op a pos) (tUn r ta):=by
  intro pins s σ H Q I h
  exact UnaryOp_ (thn (ha pins s σ H _ I h) fun v s1 ⟨x,H1,I1,r1,q1⟩=>ho pins s1 σ H1 x v Q I1 r1 q1)
theorem opI {f:Value->Value->Sem Value}{C:Int->Int->Prop}{g:Int->Int->Int}
    (rule:∀ (i j:Int) (t u:Tok) (s:Shared) (Q:Value->Shared->Prop) (E:Value->Shared->Prop),C i j->Q (.int (g i j) s.toks) { s with toks:=s.toks+1 }->wpAny (model X.prog X.w) X.A (f (.int i t) (.int j u)) Q E s) :
    OpR X f (rI C fun i j=>.int (g i j)):=by
  intro pins s σ H x y v u Q I rx ry h
  obtain⟨i,j,rfl,rfl,hc,q⟩:=h
  obtain⟨t,rfl⟩:=rx
  obtain⟨t',rfl⟩:=ry
  exact rule i j t t' s _ _ hc ⟨.int (g i j),H,I.tok _,⟨_,rfl⟩,q⟩
theorem pU {f:Value->Value->Sem Value}{g:Int->Int->Int}
    (rule:∀ (i j:Int) (t u:Tok) (s:Shared) (Q:Value->Shared->Prop) (E:Value->Shared->Prop),Q (.int (g i j) s.toks) { s with toks:=s.toks+1 }->wpAny (model X.prog X.w) X.A (f (.int i t) (.int j u)) Q E s) :
    OpR X f (rI0 fun i j=>.int (g i j)):=by
  intro pins s σ H x y v u Q I rx ry h
  obtain⟨i,j,rfl,rfl,q⟩:=h
  obtain⟨t,rfl⟩:=rx
  obtain⟨t',rfl⟩:=ry
  exact rule i j t t' s _ _ ⟨.int (g i j),H,I.tok _,⟨_,rfl⟩,q⟩
theorem oD {f:Value->Value->Sem Value}{g:Int->Int->Bool}
    (rule:∀ (i j:Int) (t u:Tok) (s:Shared) (Q:Value->Shared->Prop) (E:Value->Shared->Prop),Q (.bool (g i j)) s->wpAny (model X.prog X.w) X.A (f (.int i t) (.int j u)) Q E s) :
    OpR X f (rI0 fun i j=>.bl (g i j)):=by
  intro pins s σ H x y v u Q I rx ry h
  obtain⟨i,j,rfl,rfl,q⟩:=h
  obtain⟨t,rfl⟩:=rx
  obtain⟨t',rfl⟩:=ry
  exact rule i j t t' s _ _ ⟨.bl (g i j),H,I,rfl,q⟩
def pN (i j:Int):Prop:=0 < j/\j < 1073741824
def pV (i j:Int):Prop:=0<=j/\j<=1000000/\i.natAbs < 2 ^ 64
def CMul (i j:Int):Prop:=(-(2 ^ 64) < i/\i < 2 ^ 64)\/(-(2 ^ 64) < j/\j < 2 ^ 64)
theorem CMul.ok {i j:Int}(h:CMul i j):IntMulOk i j:=by
  rcases h with ⟨h1,h2⟩ | ⟨h1,h2⟩
  · exact .of_left (intBits_le_64 h1 h2)
  · exact .of_right (intBits_le_64 h1 h2)
theorem cE:OpR X (binaryOp .Add) (rI0 fun i j=>.int (i+j)):=pU fun _ _ _ _ _ _ _ q=>add_int q
theorem gN:OpR X (binaryOp .Mult) (rI CMul fun i j=>.int (i * j)):=opI fun _ _ _ _ _ _ _ hc q=>mul_int q hc.ok
theorem gb:OpR X (binaryOp .FloorDiv) (rI pN fun i j=>.int (i / j)):=opI fun i j _ _ _ _ _ hc q=>by
  have h1:(0:Int) < j:=hc.1
  have h2:j < 1073741824:=hc.2
  exact floordiv_int (by omega) (by rw [Int.fdiv_eq_ediv_of_nonneg i (by omega)];exact q) (.inl (PyProof.noPylong_small (by omega)))
theorem cM:OpR X (binaryOp .Mod) (rI (fun _ j=>0 < j) fun i j=>.int (i % j)):=opI fun i j _ _ _ _ _ hc q=>by
  have h1:(0:Int) < j:=hc
  exact mod_int' (by omega) (by rw [Int.fmod_eq_emod_of_nonneg i (by omega)];exact q)
theorem og:OpR X (binaryOp .Pow) (rI pV fun i j=>.int (i ^ j.toNat)):=opI fun _ _ _ _ _ _ _ hc q=>pow_int_small hc.1 hc.2.1 hc.2.2 q
theorem unI {f:Value->Sem Value}{g:Int->Int}
    (rule:∀ (i:Int) (t:Tok) (s:Shared) (Q:Value->Shared->Prop) (E:Value->Shared->Prop),Q (.int (g i) s.toks) { s with toks:=s.toks+1 }->wpAny (model X.prog X.w) X.A (f (.int i t)) Q E s) :
    UnR X f (rU fun i=>.int (g i)):=by
  intro pins s σ H x v Q I rx h
  obtain⟨i,rfl,q⟩:=h
  obtain⟨t,rfl⟩:=rx
  exact rule i t s _ _ ⟨.int (g i),H,I.tok _,⟨_,rfl⟩,q⟩
theorem mB:UnR X (unaryOp .USub) (rU fun i=>.int (-i)):=unI fun _ _ _ _ _ q=>neg_int q
end
def pz:V->V->Bool
  | .non,.non=>true | .non,.int _=>true | .int _,.non=>true | .non,.bl _=>true | .bl _,.non=>true | .non,.str _=>true | .str _,.non=>true
  | .int _,.int _=>true | .bl _,.bl _=>true | .str _,.str _=>true | .byt _,.byt _=>true
  | .int _,.str _=>true | .str _,.int _=>true | .bl _,.str _=>true | .str _,.bl _=>true
  | _,_=>false
def rEq:R2:=fun x y H Q=>pz x y=true/\Q (.bl (decide (x=y))) H
def rNe:R2:=fun x y H Q=>pz x y=true/\Q (.bl (!decide (x=y))) H
theorem ki {i j:Int}:decide (V.int i=V.int j)=(i == j):=by
  rw [Bool.eq_iff_iff]
  simp
theorem mH {i j:Bool}:decide (V.bl i=V.bl j)=(i == j):=by
  rw [Bool.eq_iff_iff]
  simp
theorem kH {i j:Str}:decide (V.str i=V.str j)=(i == j):=by
  rw [Bool.eq_iff_iff]
  simp
theorem kj {i j:Array UInt8}:decide (V.byt i=V.byt j)=(i.toList == j.toList):=by
  rw [Bool.eq_iff_iff]
  cases i
  cases j
  simp
section
variable {X:Cx}{a b c:Expr}{ta tb tc:TE}{pos:Pos}
theorem aO {pins:List (Addr×Obj)}{σ:St}{H:Hp}{s:Shared}{Q:VK}{k k':Bool}(I:Inv X pins σ H s)(q:Q (.bl k) H)(e:k=k'):EP X pins σ Q (.bool k') s:=by
  subst e
  exact⟨.bl k,H,I,rfl,q⟩
theorem iy:OpR X (compareOp .Eq) rEq:=by
  intro pins s σ H x y v u Q I rx ry h
  obtain⟨hs,q⟩:=h
  cases x with
  | non =>
    cases rx
    cases y with
    | non=>cases ry;exact PySem.EqNone.eq_none_none (aO I q (by simp))
    | bl j=>cases ry;exact PySem.EqNone.eq_none_bool (aO I q (by simp))
    | int j=>obtain⟨t',rfl⟩:=ry;exact PySem.EqNone.eq_none_int (aO I q (by simp))
    | str j=>obtain⟨t',rfl⟩:=ry;exact PySem.EqNone.eq_none_str (aO I q (by simp))
    | _=>exact absurd (show false=true from hs) Bool.false_ne_true
  | bl i =>
    cases rx
    cases y with
    | non=>cases ry;exact PySem.EqNone.eq_bool_none (aO I q (by simp))
    | bl j=>cases ry;exact eq_bool (aO I q mH)
    | str j=>obtain⟨t',rfl⟩:=ry;exact PySem.EqMixed.eq_bool_str (aO I q (by simp))
    | _=>exact absurd (show false=true from hs) Bool.false_ne_true
  | int i =>
    obtain⟨t,rfl⟩:=rx
    cases y with
    | non=>cases ry;exact PySem.EqNone.eq_int_none (aO I q (by simp))
    | int j=>obtain⟨t',rfl⟩:=ry;exact eq_int (aO I q ki)
    | str j=>obtain⟨t',rfl⟩:=ry;exact PySem.EqMixed.eq_int_str (aO I q (by simp))
    | _=>exact absurd (show false=true from hs) Bool.false_ne_true
  | str i =>
    obtain⟨t,rfl⟩:=rx
    cases y with
    | non=>cases ry;exact PySem.EqNone.eq_str_none (aO I q (by simp))
    | bl j=>cases ry;exact PySem.EqMixed.eq_str_bool (aO I q (by simp))
    | int j=>obtain⟨t',rfl⟩:=ry;exact PySem.EqMixed.eq_str_int (aO I q (by simp))
    | str j=>obtain⟨t',rfl⟩:=ry;exact eq_str (aO I q kH)
    | _=>exact absurd (show false=true from hs) Bool.false_ne_true
  | byt i =>
    obtain⟨t,rfl⟩:=rx
    cases y with
    | byt j=>obtain⟨t',rfl⟩:=ry;exact PySem.W.eq_bytes (aO I q kj)
    | _=>exact absurd (show false=true from hs) Bool.false_ne_true
  | _=>cases y<;>exact absurd (show false=true from hs) Bool.false_ne_true
theorem gr:OpR X (compareOp .NotEq) rNe:=by
  intro pins s σ H x y v u Q I rx ry h
  obtain⟨hs,q⟩:=h
  cases x with
  | non =>
    cases rx
    cases y with
    | non=>cases ry;exact PySem.EqNone.ne_none_none (aO I q (by simp))
    | bl j=>cases ry;exact PySem.EqNone.ne_none_bool (aO I q (by simp))
    | int j=>obtain⟨t',rfl⟩:=ry;exact PySem.EqNone.ne_none_int (aO I q (by simp))
    | str j=>obtain⟨t',rfl⟩:=ry;exact PySem.EqNone.ne_none_str (aO I q (by simp))
    | _=>exact absurd (show false=true from hs) Bool.false_ne_true
  | bl i =>
    cases rx
    cases y with
    | non=>cases ry;exact PySem.EqNone.ne_bool_none (aO I q (by simp))
    | bl j=>cases ry;exact ne_bool (aO I q (congrArg not mH))
    | str j=>obtain⟨t',rfl⟩:=ry;exact PySem.EqMixed.ne_bool_str (aO I q (by simp))
    | _=>exact absurd (show false=true from hs) Bool.false_ne_true
  | int i =>
    obtain⟨t,rfl⟩:=rx
    cases y with
    | non=>cases ry;exact PySem.EqNone.ne_int_none (aO I q (by simp))
    | int j=>obtain⟨t',rfl⟩:=ry;exact ne_int (aO I q (congrArg not ki))
    | str j=>obtain⟨t',rfl⟩:=ry;exact PySem.EqMixed.ne_int_str (aO I q (by simp))
    | _=>exact absurd (show false=true from hs) Bool.false_ne_true
  | str i =>
    obtain⟨t,rfl⟩:=rx
    cases y with
    | non=>cases ry;exact PySem.EqNone.ne_str_none (aO I q (by simp))
    | bl j=>cases ry;exact PySem.EqMixed.ne_str_bool (aO I q (by simp))
    | int j=>obtain⟨t',rfl⟩:=ry;exact PySem.EqMixed.ne_str_int (aO I q (by simp))
    | str j=>obtain⟨t',rfl⟩:=ry;exact ne_str (aO I q (congrArg not kH))
    | _=>exact absurd (show false=true from hs) Bool.false_ne_true
  | byt i =>
    obtain⟨t,rfl⟩:=rx
    cases y with
    | byt j=>obtain⟨t',rfl⟩:=ry;exact PySem.W.ne_bytes (aO I q (congrArg not kj))
    | _=>exact absurd (show false=true from hs) Bool.false_ne_true
  | _=>cases y<;>exact absurd (show false=true from hs) Bool.false_ne_true
theorem oQ:OpR X (compareOp .Lt) (rI0 fun i j=>.bl (decide (i < j))):=oD fun _ _ _ _ _ _ _ q=>lt_int q
theorem kq:OpR X (compareOp .LtE) (rI0 fun i j=>.bl (decide (i<=j))):=oD fun _ _ _ _ _ _ _ q=>le_int q
theorem nw:OpR X (compareOp .Gt) (rI0 fun i j=>.bl (decide (j < i))):=oD fun _ _ _ _ _ _ _ q=>gt_int q
theorem oO:OpR X (compareOp .GtE) (rI0 fun i j=>.bl (decide (j<=i))):=oD fun _ _ _ _ _ _ _ q=>ge_int q
theorem kI:OpR X (compareOp .In) (fun x y H Q=>∃ i j,x=.str i/\y=.str j/\Q (.bl (!(Builtin.Str.occurrences j i 0 j.length 1).isEmpty)) H):=by
  intro pins s σ H x y v u Q I rx ry h
  obtain⟨i,j,rfl,rfl,q⟩:=h
  obtain⟨t,rfl⟩:=rx
  obtain⟨t',rfl⟩:=ry
  exact in_str (aO I q rfl)
theorem mG:OpR X (compareOp .Is) (fun x y H Q=>y=.non/\Q (.bl (decide (x=.non))) H):=by
  intro pins s σ H x y v u Q I rx ry h
  obtain⟨rfl,q⟩:=h
  cases ry
  refine is_none_gen (aO I q ?_)
  cases x<;>first
    | (cases rx;rfl)
    | (obtain⟨t,rfl⟩:=rx;rfl)
theorem aN (b:Expr){op:CmpOp}(h:op≠.In:=by decide)(h2:op≠.NotIn:=by decide):behindInMarks op b=false:=by
  have e1:(op == CmpOp.In)=false:=by cases op<;>first | rfl | exact absurd rfl h
  have e2:(op == CmpOp.NotIn)=false:=by cases op<;>first | rfl | exact absurd rfl h2
  cases b<;>simp [behindInMarks,e1,e2]
theorem b9 {op:CmpOp}{r:R2}(ho:OpR X (compareOp op) r)(ha:PE X a ta)(hb:PE X b tb)(hm:behindInMarks op b=false):PE X (.Compare a [op] [b] pos) (tOp r ta tb):=by
  intro pins s σ H Q I h
  exact wpAny_Compare1 (oX ha hb I h fun v u s2 x y H2 I2 rx ry q=>ho pins s2 σ H2 x y v u Q I2 rx ry q) hm
def nM (t:TE):TT:=fun σ H Q=>t σ H fun x H'=>∃ k,x=.bl k/\Q k H'
theorem aT {op:CmpOp}{r:R2}(ho:OpR X (compareOp op) r)(ha:PE X a ta)(hb:PE X b tb)(hm:behindInMarks op b=false):PT X (.Compare a [op] [b] pos) (nM (tOp r ta tb)):=by
  intro pins s σ H Q I h
  refine wpAny_isTrue_Compare1 (thn (ha pins s σ H _ I h) fun v s1 ⟨x,H1,I1,r1,q1⟩=>thn (hb pins s1 σ H1 _ I1 q1) fun u s2 ⟨y,H2,I2,r2,q2⟩ =>
    thn (ho pins s2 σ H2 x y v u _ I2 r1 r2 q2) fun c s3 ⟨z,H3,I3,r3,k,e,q3⟩=>?_) hm
  subst e
  cases r3
  exact wpAny_truthy_bool ⟨H3,I3,q3⟩
def my (r r':R2)(ta tb tc:TE):TE:=fun σ H Q=>ta σ H fun x H1=>tb σ H1 fun y H2=>r x y H2 fun z H3=>∃ k,z=.bl k ∧
  (if k=true then tc σ H3 fun w' H4=>r' y w' H4 Q else Q (.bl false) H3)
theorem mj {op op':CmpOp}{r r':R2}(ho:OpR X (compareOp op) r)(ho':OpR X (compareOp op') r')(ha:PE X a ta)(hb:PE X b tb)(hc:PE X c tc)
    (hm:lastMarks [op,op'] [b,c]=false:=by with_unfolding_all rfl):PE X (.Compare a [op,op'] [b,c] pos) (my r r' ta tb tc):=by
  intro pins s σ H Q I h
  refine Compare_chain (thn (ha pins s σ H _ I h) fun v s1 ⟨x,H1,I1,r1,q1⟩=>chain_link (thn (hb pins s1 σ H1 _ I1 q1) fun u s2 ⟨y,H2,I2,r2,q2⟩ =>
    thn (ho pins s2 σ H2 x y v u _ I2 r1 r2 q2) fun d s3 ⟨z,H3,I3,r3,k,e,q3⟩=>?_)) hm
  subst e
  cases r3
  refine wpAny_truthy_bool ?_
  cases k with
  | false=>exact ite_ff ⟨.bl false,H3,I3,rfl,q3⟩
  | true=>exact ite_tt (chain_last (thn (hc pins s3 σ H3 _ I3 q3) fun w' s4 ⟨z',H4,I4,r4,q4⟩=>ho' pins s4 σ H4 y z' u w' Q I4 r2 r4 q4))
theorem lQ {op op':CmpOp}{r r':R2}(ho:OpR X (compareOp op) r)(ho':OpR X (compareOp op') r')(ha:PE X a ta)(hb:PE X b tb)(hc:PE X c tc)
    (hm:lastMarks [op,op'] [b,c]=false:=by with_unfolding_all rfl):PT X (.Compare a [op,op'] [b,c] pos) (nM (my r r' ta tb tc)):=by
  intro pins s σ H Q I h
  refine isTrue_chain (thn (ha pins s σ H _ I h) fun v s1 ⟨x,H1,I1,r1,q1⟩=>test_link (thn (hb pins s1 σ H1 _ I1 q1) fun u s2 ⟨y,H2,I2,r2,q2⟩ =>
    thn (ho pins s2 σ H2 x y v u _ I2 r1 r2 q2) fun d s3 ⟨z,H3,I3,r3,k,e,q3⟩=>?_)) hm
  subst e
  cases r3
  refine wpAny_truthy_bool ?_
  cases k with
  | false =>
    obtain⟨k',e',q'⟩:=q3
    cases e'
    exact ite_ff ⟨H3,I3,q'⟩
  | true =>
    refine ite_tt (test_last (thn (hc pins s3 σ H3 _ I3 q3) fun w' s4 ⟨z',H4,I4,r4,q4⟩=>thn (ho' pins s4 σ H4 y z' u w' _ I4 r2 r4 q4) fun d' s5 ⟨z2,H5,I5,r5,k2,e2,q5⟩=>?_))
    subst e2
    cases r5
    exact wpAny_truthy_bool ⟨H5,I5,q5⟩
def pp (K:PySem.W.Frag)(x:V)(H:Hp)(k:Bool):Prop :=
  match x with
  | .non=>k=false
  | .bl b=>k=b
  | .int i=>k=(i != 0)
  | .str y=>y.length<=sizeLine/\k=((y.length:Int) != 0)
  | .byt y=>y.size<=sizeLine/\k=((y.size:Int) != 0)
  | .ref p=>(∃ xs,SqL K H p xs/\k=!xs.isEmpty)\/(∃ xs,SqT K H p xs/\k=!xs.isEmpty)\/∃ kvs,H p=some (.dK kvs)/\k=!kvs.isEmpty
  | _=>False
theorem jw {κ:Type}{kvs:List (κ×V)}{vs:List (κ×Value)}(r:KV kvs vs):(!vs.isEmpty)=!kvs.isEmpty:=by
  cases r<;>rfl
theorem fJ {xs:List V}{its:List Value}(r:Vals xs its):(!its.toArray.isEmpty)=!xs.isEmpty:=by
  cases r<;>simp
theorem fy:(sizeLine:Nat) < 2 ^ 63:=by rw [sizeLine_eq];decide
theorem nX:pO X (fun x H Q=>∃ k,pp X.K x H k/\Q k H):=by
  intro pins s σ H x v Q I rx h
  obtain⟨k,e,q⟩:=h
  have hl:=fy
  have hs:sizeLine=16777216:=sizeLine_eq
  cases x with
  | non =>
    cases rx
    have e':k=false:=e
    subst e'
    exact truthy_none ⟨H,I,q⟩
  | bl b =>
    cases rx
    have e':k=b:=e
    subst e'
    exact wpAny_truthy_bool ⟨H,I,q⟩
  | int i =>
    obtain⟨t,rfl⟩:=rx
    have e':k=(i != 0):=e
    subst e'
    exact PySem.P.truthy_int ⟨H,I,q⟩
  | str y =>
    obtain⟨t,rfl⟩:=rx
    obtain⟨hy,e'⟩:y.length<=sizeLine/\k=((y.length:Int) != 0):=e
    subst e'
    exact PySem.P.truthy_str (by omega) ⟨H,I.tok _,q⟩
  | byt y =>
    obtain⟨t,rfl⟩:=rx
    obtain⟨hy,e'⟩:y.size<=sizeLine/\k=((y.size:Int) != 0):=e
    subst e'
    exact PySem.W.truthy_bytes (by omega) ⟨H,I.tok _,q⟩
  | ref p =>
    cases rx
    have e':(∃ xs,SqL X.K H p xs/\k=!xs.isEmpty)\/(∃ xs,SqT X.K H p xs/\k=!xs.isEmpty)\/∃ kvs,H p=some (.dK kvs)/\k=!kvs.isEmpty:=e
    rcases e' with ⟨xs,hx,e'⟩ | ⟨xs,hx,e'⟩ | ⟨kvs,hx,e'⟩
    · subst e'
      obtain⟨its,r,pl,hz⟩:=I.list hx
      have hlen:=r.length
      exact wpAny_truthy_list pl.isList (by simp only [List.size_toArray];omega) ⟨H,I.tok _,by rw [fJ r];exact q⟩
    · subst e'
      obtain⟨its,r,pl,hz⟩:=I.tuple hx
      have hlen:=r.length
      exact truthy_tuple pl (by simp only [List.size_toArray];omega) ⟨H,I.tok _,by rw [fJ r];exact q⟩
    · subst e'
      obtain⟨hz,hS,vs,r,m⟩:kvs.length<=sizeLine/\(p == sysModules)=false/\∃ vs,KV kvs vs/\s.heap.DictOf (iA X.prog X.w) p vs:=I.hok p _ hx
      have hlen:kvs.length=vs.length:=Paired.length r
      exact wpAny_truthy_dict hS m (by omega) ⟨H,I.tok _,by rw [jw r];exact q⟩
  | _=>exact (show False from e).elim
theorem lZ (ha:PE X a ta)(he:∀ whole,isTrue a X.env whole=(do let v ← whole;standAt a.pos;holding [v] (truthy v))) :
    PT X a (fun σ H Q=>ta σ H fun x H'=>∃ k,pp X.K x H' k/\Q k H'):=by
  intro pins s σ H Q I h
  exact isTrue_plain (thn (ha pins s σ H _ I h) fun v s1 ⟨x,H1,I1,r1,q1⟩=>nX pins s1 σ H1 x v Q I1 r1 q1) (he _)
theorem cp:OpR X (binaryOp .Add) (fun x y H Q=>∃ i j,x=.str i/\y=.str j/\i.length+j.length<=sizeLine/\Q (.str (i++j)) H):=by
  intro pins s σ H x y v u Q I rx ry h
  obtain⟨i,j,rfl,rfl,hz,q⟩:=h
  obtain⟨t,rfl⟩:=rx
  obtain⟨t',rfl⟩:=ry
  exact add_str (fun t' tk=>⟨.str (i++j),H,I.tok _,⟨_,rfl⟩,q⟩) hz
theorem gP {x:V}{us:List Value}(r:Vals [x] us):∃ u,us=[u]/\RelV x u:=by
  cases r with
  | cons r1 r2=>cases r2;exact⟨_,rfl,r1⟩
theorem nu {x y:V}{us:List Value}(r:Vals [x,y] us):∃ u w',us=[u,w']/\RelV x u/\RelV y w':=by
  cases r with
  | cons r1 r2 =>
    cases r2 with
    | cons r3 r4=>cases r4;exact⟨_,_,rfl,r1,r3⟩
theorem kP (hc:X.calm=true):dv X (.builtin "max") (fun xs H Q=>∃ i j,xs=[.int i,.int j]/\Q (.int (if j > i then j else i)) H):=by
  intro pins s σ H xs us Q I r h
  obtain⟨i,j,rfl,q⟩:=h
  obtain⟨u,w',rfl,⟨t,rfl⟩,⟨t',rfl⟩⟩:=nu r
  refine max_two_ints (I.ok.hd hc) fun h' tk k=>⟨_,H,I.kept k,?_,q⟩
  by_cases hj:j > i
  · rw [if_pos hj,if_pos hj];exact⟨_,rfl⟩
  · rw [if_neg hj,if_neg hj];exact⟨_,rfl⟩
theorem kW (hc:X.calm=true):dv X (.builtin "min") (fun xs H Q=>∃ i j,xs=[.int i,.int j]/\Q (.int (if j < i then j else i)) H):=by
  intro pins s σ H xs us Q I r h
  obtain⟨i,j,rfl,q⟩:=h
  obtain⟨u,w',rfl,⟨t,rfl⟩,⟨t',rfl⟩⟩:=nu r
  refine min_two_ints (I.ok.hd hc) fun h' tk k=>⟨_,H,I.kept k,?_,q⟩
  by_cases hj:j < i
  · rw [if_pos hj,if_pos hj];exact⟨_,rfl⟩
  · rw [if_neg hj,if_neg hj];exact⟨_,rfl⟩
theorem eC:dv X (.type "int") (fun xs H Q=>(∃ i,xs=[.int i]/\Q (.int i) H)\/∃ k,xs=[.bl k]/\Q (.int (if k then 1 else 0)) H):=by
  intro pins s σ H xs us Q I r h
  rcases h with ⟨i,rfl,q⟩ | ⟨k,rfl,q⟩
  · obtain⟨u,rfl,t,rfl⟩:=gP r
    exact call_int_int ⟨.int i,H,I,⟨_,rfl⟩,q⟩
  · obtain⟨u,rfl,r1⟩:=gP r
    cases r1
    exact call_int_bool ⟨.int (if k then 1 else 0),H,I.tok _,⟨_,rfl⟩,q⟩
end
structure ObjM (h:Heap)(x dx C:Addr)(mA:Str->Option Value):Prop where
  obj:h.get? x=some (PySem.W.instObj C dx)
  ns:h.Ns1 dx mA
  ne:dx≠x
theorem kn {h:Heap}{dx:Addr}{mA:Str->Option Value}(n:h.Ns1 dx mA):∃ od,h.get? dx=some od/\∀ name,PySem.W.lookIn name od=some (mA name):=by
  obtain⟨o,es,ep,ho,hd,hk,_,hm⟩:=n
  refine⟨o,ho,fun name=>?_⟩
  have e:=hm name
  unfold nsFind findBy at e
  rw [← Array.find?_toList] at e
  unfold PySem.W.lookIn
  rw [hd]
  dsimp only
  split
  · rename_i y q
    rw [q] at e
    exact congrArg some e
  · rename_i q
    rw [q] at e
    have a:es.toList.any (·.refKey)=false:=by
      rw [List.any_eq_false]
      intro y hy
      obtain⟨z,t,hkey⟩:=hk y (Array.mem_toList_iff.mp hy)
      simp [DictEntry.refKey,hkey]
    have a':¬ es.toList.any (·.refKey)=true:=by rw [a];exact Bool.false_ne_true
    rw [if_neg a']
    exact congrArg some e
theorem ObjM.look {h:Heap}{x dx C:Addr}{mA:Str->Option Value}(I:ObjM h x dx C mA):∃ od,PySem.W.InstAt h x (PySem.W.instObj C dx) C (some od)/\∀ name,PySem.W.lookIn name od=some (mA name) :=
  let ⟨od,ho,hl⟩:=kn I.ns
  ⟨od,⟨I.obj,rfl,rfl,ho⟩,hl⟩
section
variable {prog:Program}{w:World}{A:Around}{E:Value->Shared->Prop}{s:Shared}{K:PySem.W.Frag}{x dx C f:Addr}{mA:Str->Option Value}{name:Str}{v:Value}
end
section
variable {P:Program}{w:World}{H H':Hp}{h h':Heap}{a C dx:Addr}{fs fs':List (Str×V)}
theorem mT (hok:HOk P w H h)(e:H a=some (.ins C dx fs)):∃ mA,ObjM h a dx C mA/\(∀ f,o0 (fs.lookup f) (mA f))/\PySem.Within mA (fs.map (·.1))/\fs.length<=1000/\H dx=some (.own a):=by
  obtain⟨d,z,ne,ob,mA,n,r,q⟩:=(show ObjOk P w H h a (.ins C dx fs) from hok a _ e)
  exact⟨mA,⟨ob,n,ne⟩,r,q,z,d⟩
end
structure Cls (K:PySem.W.Frag)(C:Addr):Prop where
  pg:PySem.W.plainGet K C Str.empty=true
  hd:PySem.W.hasDictIn K C=true
  po:PySem.W.plainOver K C=true
  sa:PySem.W.findIn K (.ref C) "__setattr__" = some (some (.builtin "object.__setattr__"))
theorem Cls.get {K:PySem.W.Frag}{C:Addr}(c:Cls K C)(f:Str):PySem.W.plainGet K C f=true:=c.pg
section
variable {X:Cx}{pins:List (Addr×Obj)}{σ:St}{H:Hp}{s:Shared}{a C dx:Addr}{fs:List (Str×V)}{f:Str}{v:V}{A:Around}{E:Value->Shared->Prop}
end
section
variable {X:Cx}{o e value:Expr}{f:Str}{pos pos' tpos:Pos}{ta tv:TE}
end
section
variable {X:Cx}{pins:List (Addr×Obj)}{σ:St}{H:Hp}{s:Shared}{A:Around}{E:Value->Shared->Prop}{Q:Value->Shared->Prop}{c:Value}{b:Bool}
inductive jC (K:PySem.W.Frag)(H:Hp):V->Value->Prop where
  | non:jC K H .non (.type "NoneType")
  | bl (x:Bool):jC K H (.bl x) (.type "bool")
  | int (i:Int):jC K H (.int i) (.type "int")
  | str (x:Str):jC K H (.str x) (.type "str")
  | flt (x:UInt64):jC K H (.flt x) (.type "float")
  | lst {a:Addr} {xs:List V} (e:H a=some (.lst xs)):jC K H (.ref a) (.type "list")
  | frz {a:Addr} {o:Obj} {xs:List V} (e:H a=some (.frz o (.lst xs))):jC K H (.ref a) (.type "list")
  | tup {a:Addr} {xs:List V} (e:H a=some (.tup xs)):jC K H (.ref a) (.type "tuple")
  | dK {a:Addr} {kvs:List (Key×V)} (e:H a=some (.dK kvs)):jC K H (.ref a) (.type "dict")
  | dT {a:Addr} {kvs:List (List Key×V)} (e:H a=some (.dT kvs)):jC K H (.ref a) (.type "dict")
  | ins {a C dx:Addr} {fs:List (Str×V)} (e:H a=some (.ins C dx fs)) (cl:Cls K C) (ha:PySem.W.findIn K (.ref C) "__class__" = some (some (.builtin "object.__class__")))
      (hn:PySem.W.specialIn K (.builtin "object.__class__") "__get__" = some (some (.builtin "getset_descriptor.__get__"))) (htk:PySem.W.takesIn K (.builtin "object.__class__")=some true)
      (hm:PySem.W.mroIn K C (.type "object")=some true):jC K H (.ref a) (.ref C)
theorem kf {x:V}{u t:Value}(I:Inv X pins σ H s)(rx:RelV x u)(ty:jC X.K H x t)(e:PySem.W.kitOne X.K t c=some b)(h:∀ tk,Q (.bool b) { s with toks:=tk }) :
    wpAny (model X.prog X.w) A (call (.builtin "isinstance") [u,c]) Q E s:=by
  cases ty with
  | non=>cases (show u=Value.none from rx);exact PySem.W.kia_one PySem.W.kitx_none I.kIn True.intro e (fun z=>nomatch z) h
  | bl y=>cases (show u=Value.bool y from rx);exact PySem.W.kia_one PySem.W.kitx_bool I.kIn True.intro e (fun z=>nomatch z) h
  | int i=>obtain⟨t,q⟩:=(show ∃ t,u=Value.int i t from rx);cases q;exact PySem.W.kia_one PySem.W.kitx_int I.kIn True.intro e (fun z=>nomatch z) h
  | str y=>obtain⟨t,q⟩:=(show ∃ t,u=Value.str y t from rx);cases q;exact PySem.W.kia_one PySem.W.kitx_str I.kIn True.intro e (fun z=>nomatch z) h
  | flt y=>obtain⟨t,q⟩:=(show ∃ t,u=Value.float y t from rx);cases q;exact PySem.W.kia_one PySem.W.kitx_float I.kIn True.intro e (fun z=>nomatch z) h
  | @lst a xs ea =>
    cases (show u=Value.ref a from rx)
    obtain⟨_,_,n,_,h1⟩:=(show ObjOk X.prog X.w H s.heap a (.lst xs) from I.hok a _ ea)
    exact PySem.W.kia_one PySem.W.kitx_list I.kIn ⟨_,h1,rfl⟩ e (fun z=>nomatch z) h
  | @frz a ob xs ea =>
    cases (show u=Value.ref a from rx)
    obtain⟨_,_,_,n,_,h1⟩:=(show ObjOk X.prog X.w H s.heap a (.frz ob (.lst xs)) from I.hok a _ ea)
    exact PySem.W.kia_one PySem.W.kitx_list I.kIn ⟨_,h1,rfl⟩ e (fun z=>nomatch z) h
  | @tup a xs ea =>
    cases (show u=Value.ref a from rx)
    obtain⟨_,_,_,p⟩:=(show ObjOk X.prog X.w H s.heap a (.tup xs) from I.hok a _ ea)
    obtain⟨o,h1,h2,_⟩:=p
    exact PySem.W.kia_one PySem.W.kitx_tuple I.kIn ⟨o,h1,h2⟩ e (fun z=>nomatch z) h
  | @dK a kvs ea =>
    cases (show u=Value.ref a from rx)
    obtain⟨_,_,vs,_,p⟩:=(show ObjOk X.prog X.w H s.heap a (.dK kvs) from I.hok a _ ea)
    obtain⟨o,es,ep,h1,h2,_⟩:=p
    exact PySem.W.kia_one PySem.W.kitx_dict I.kIn ⟨o,h1,h2.1⟩ e (fun z=>nomatch z) h
  | @dT a kvs ea =>
    cases (show u=Value.ref a from rx)
    obtain⟨_,_,xs,_,o,es,ep,h1,h2,_⟩:=(show ObjOk X.prog X.w H s.heap a (.dT kvs) from I.hok a _ ea)
    exact PySem.W.kia_one PySem.W.kitx_dict I.kIn ⟨o,h1,h2.1⟩ e (fun z=>nomatch z) h
  | @ins a C dx fs ea cl ha hn htk hm =>
    cases (show u=Value.ref a from rx)
    obtain⟨mA,O,_⟩:=mT I.hok ea
    obtain⟨od,J,_⟩:=O.look
    exact PySem.W.kia_one (PySem.W.kitx_own (cl.get _) cl.hd ha hn htk hm) I.kIn J e (fun z=>nomatch z) h
end
structure Room (k:Nat)(A:Around):Prop where
  hd:A.handled=none
  dp:A.depth+3 * k+5 < recursionLimit
  un:A.units+16 * k+200 < cLine
theorem Room.mono {j k:Nat}{A:Around}(r:Room k A)(h:j<=k):Room j A:=⟨r.hd,by have:=r.dp;omega,by have:=r.un;omega⟩
theorem Room.deeper {k:Nat}{A:Around}(r:Room (k+1) A)(env:Env):Room k (A.deeper env) :=
  ⟨r.hd,by have:=r.dp;show A.depth+1+3 * k+5 < _;omega,by have:=r.un;show A.units+3+16 * k+200 < _;omega⟩
theorem Room.depth {k:Nat}{A:Around}(r:Room k A):A.depth < recursionLimit:=by have:=r.dp;omega
theorem Room.units {k:Nat}{A:Around}(r:Room k A):A.units+64 < cLine:=by have:=r.un;omega
def lc:TA:=fun _ H Q=>Q [] H
def fm (ta:TE)(tr:TA):TA:=fun σ H Q=>ta σ H fun x H1=>tr σ H1 fun xs H2=>Q (x::xs) H2
section
variable {X:Cx}{e:Expr}{es:List Expr}{te:TE}{t:TA}{pos:Pos}
theorem ae:PA X [] lc:=fun _ _ _ _ H Q I h=>Calls.spliced_nil ⟨[],H,I,.nil,h⟩
theorem ad (ha:PE X e te)(hr:PA X es t)(hs:starEach (e::es) X.env=(false,eval e X.env)::starEach es X.env:=by rfl):PA X (e::es) (fm te t):=by
  intro pos pins s σ H Q I h
  rw [hs]
  show wpAny _ _ (spliced ((false,eval e X.env)::backTo pos (starEach es X.env))) _ _ s
  refine Calls.spliced_cons (thn (ha pins s σ H _ I h) fun u s1 ⟨x,H1,I1,r1,q1⟩=>?_)
  exact thn (hr pos pins s1 σ H1 _ I1 q1) fun us s2 ⟨xs,H2,I2,r2,q2⟩=>⟨x::xs,H2,I2,.cons r1 r2,q2⟩
def pI (t:TA):TE:=fun σ H Q=>t σ H fun xs H1=>xs.length<=sizeLine/\∀ p,H1 p=none->Q (.ref p) (upd H1 p (.tup xs))
def pk (t:TA):TE:=fun σ H Q=>t σ H fun xs H1=>xs.length<=sizeLine/\∀ p,H1 p=none->Q (.ref p) (upd H1 p (.lst xs))
theorem cD {x1}(h:PA X es t):PE X (.Tuple es x1 pos) (pI t):=by
  intro pins s σ H Q I hq
  refine wpAny_Tuple_spliced (thn (h pos pins s σ H _ I hq) fun us s1 ⟨xs,H1,I1,r,z,q⟩=>⟨by rw [← r.length];exact z,?_⟩)
  have hf:H1 s1.heap.objs.size=none:=I1.hok.fresh (Nat.le_refl _)
  refine⟨.ref s1.heap.objs.size,upd H1 s1.heap.objs.size (.tup xs),I1.laid (t':=s1.toks) (fun b u e=>Heap.get?_push_of_some _ e) (Nat.le_refl _) ?_,rfl,q _ hf⟩
  exact⟨z,us,r,⟨_,Heap.get?_push_size _ rfl,rfl,_,rfl⟩⟩
theorem bT (h:PA X es t):PE X (.List es pos) (pk t):=by
  intro pins s σ H Q I hq
  refine wpAny_List_spliced (thn (h pos pins s σ H _ I hq) fun us s1 ⟨xs,H1,I1,r,z,q⟩=>⟨by rw [← r.length];exact z,?_⟩)
  have hf:H1 s1.heap.objs.size=none:=I1.hok.fresh (Nat.le_refl _)
  refine⟨.ref s1.heap.objs.size,upd H1 s1.heap.objs.size (.lst xs),I1.laid (t':=s1.toks) (fun b u e=>Heap.get?_push_of_some _ e) (Nat.le_refl _) ?_,rfl,q _ hf⟩
  exact⟨z,us,0,r,Heap.get?_push_size _ rfl⟩
end
abbrev Sp:=List V->Hp->VK->XK->Prop
abbrev CXT:=List Env->Hp->Shared->XK->Value->Shared->Prop
structure oK (P:Program)(w:World)(K:PySem.W.Frag)(mg:Str->Option Value)(base:Heap)(A:Around)(outer:List Env)(s:Shared)(H:Hp):Prop where
  frames:A.frames=some outer
  mod:Mod K mg base
  bs:∀ b o,base.get? b=some o->s.heap.get? b=some o/\H b=none
  bsz:base.objs.size<=s.heap.objs.size
  funs:s.heap.FunFrames base outer
  frf:∀ b∈frs outer,H b=none
  hok:HOk P w H s.heap
  bare:AllBare s.gens
def CE (outer:List Env)(P:Program)(w:World)(H:Hp)(s:Shared)(Q:VK)(u:Value)(s':Shared):Prop :=
  ∃ v H',s'.os=s.os/\AllBare s'.gens/\Un (frs outer) [] H H' s.heap s'.heap/\HOk P w H' s'.heap/\RelV v u/\Q v H'
def CR (CX:CXT)(outer:List Env)(P:Program)(w:World)(H:Hp)(s:Shared)(Q:VK)(E:XK)(r:Result)(s':Shared):Prop :=
  match r with
  | .ok (.ret u)=>CE outer P w H s Q u s'
  | .ok _=>False
  | .error e=>CX outer H s E e s'
structure FnOk (P:Program)(w:World)(K:PySem.W.Frag)(mg:Str->Option Value)(base:Heap)(CX:CXT)(k:Nat)(f:Addr)(fd:FuncData)(ps:List Str)(sp:Sp):Prop where
  len:∀ vs H Q E,sp vs H Q E->vs.length=ps.length
  run:∀ (A:Around) (outer:List Env) (s:Shared) (H:Hp) (args:Args) (us:List Value) (vs:List V) (Q:VK) (E:XK),Room k A->oK P w K mg base A outer s H->BindsTo s fd args (ps.zip us)->Vals vs us->sp vs H Q E →
    codeAny (model P w) A (.call (.ref f) args) (CR CX outer P w H s Q E) s
theorem FnOk.mono {P:Program}{w:World}{K:PySem.W.Frag}{mg:Str->Option Value}{base:Heap}{CX:CXT}{j k:Nat}{f:Addr}{fd:FuncData}{ps:List Str}{sp:Sp}(F:FnOk P w K mg base CX j f fd ps sp)(h:j<=k) :
    FnOk P w K mg base CX k f fd ps sp:=⟨F.len,fun A outer s H args us vs Q E hr=>F.run A outer s H args us vs Q E (hr.mono h)⟩
section
variable {X:Cx}{pins:List (Addr×Obj)}{σ:St}{H:Hp}{s s':Shared}
theorem Inv.env0 (I:Inv X pins σ H s):oK X.prog X.w X.K X.mg X.base X.A X.stack s H :=
  ⟨I.ok.frames,I.ok.mod,I.bs,Nat.le_trans I.ok.bsz I.sz,I.stack,I.stkFree,I.hok,I.bare⟩
theorem Inv.after {Q:VK}{u:Value}(I:Inv X pins σ H s)(h:CE X.stack X.prog X.w H s Q u s'):EP X pins σ Q u s':=by
  obtain⟨v,H',os,bare,un,hok,r,q⟩:=h
  obtain⟨hh,g,d,t,os'⟩:=s'
  obtain rfl:os'=s.os:=os
  exact⟨v,H',I.call (h':=hh) (g':=g) (d':=d) (t':=t) (ch:=[]) un hok bare (fun b z=>absurd z (by simp)),r,q⟩
end
def o1 (sp:Sp)(dvs:List V)(E:XK)(t:TA):TE:=fun σ H Q=>t σ H fun vs H1=>sp (vs++dvs) H1 Q E
def Binds (K:PySem.W.Frag)(fd:FuncData)(ps:List Str)(ds:List Value):Prop :=
  ∀ (s:Shared) (us:List Value),K.In s.heap->(us++ds).length=ps.length->BindsTo s fd ⟨us,[]⟩ (ps.zip (us++ds))
theorem Binds.all {K:PySem.W.Frag}{fd:FuncData}{ps:List Str}(h:∀ us:List Value,us.length=ps.length->bindArgs fd ⟨us,[]⟩=pure (ps.zip us)):Binds K fd ps []:=fun s us _ hl=>by
  rw [List.append_nil] at hl ⊢
  exact .of_eq (h us hl)
def kS (CX:CXT)(X:Cx)(E:XK):Prop:=∀ (pins:List (Addr×Obj)) (σ:St) (H:Hp) (s:Shared) (e:Value) (s':Shared),Inv X pins σ H s->CX X.stack H s E e s'->X.xe e s'
section
variable {X:Cx}{CX:CXT}{k:Nat}{f C:Addr}{fd:FuncData}{ps:List Str}{sp:Sp}{dvs:List V}{ds:List Value}{E:XK}{x m:Str}{p pos apos:Pos}{e o:Expr}{es:List Expr}{ta:TE}{t:TA}
theorem nJ {pins:List (Addr×Obj)}{σ:St}{H:Hp}{s:Shared}{Q:VK}{us:List Value}{vs:List V}(F:FnOk X.prog X.w X.K X.mg X.base CX k f fd ps sp)(hr:Room k X.A)(hb:Binds X.K fd ps ds)(hd:Vals dvs ds)(hx:kS CX X E)
    (I:Inv X pins σ H s)(r:Vals vs us)(h:sp (vs++dvs) H Q E):wpAny (model X.prog X.w) X.A (call (.ref f) us) (EP X pins σ Q) X.xe s:=by
  have r2:Vals (vs++dvs) (us++ds):=r.append hd
  have hl:(us++ds).length=ps.length:=by rw [← r2.length];exact F.len _ _ _ _ h
  refine wpAny_call (codeAny_mono (F.run X.A X.stack s H ⟨us,[]⟩ (us++ds) (vs++dvs) Q E hr I.env0 (hb s us I.kIn hl) r2 h) fun r s' hq=>?_)
  cases r with
  | error e=>exact hx pins σ H s e s' I hq
  | ok fl =>
    cases fl with
    | ret u=>exact I.after hq
    | next=>exact False.elim hq
    | brk=>exact False.elim hq
    | cont=>exact False.elim hq
theorem al (F:FnOk X.prog X.w X.K X.mg X.base CX k f fd ps sp)(hr:Room k X.A)(hg:Gl X x)(hm:X.mg x=some (.ref f))(hk:PySem.W.keepIn X.K (.ref f)=true)(hb:Binds X.K fd ps ds)(hd:Vals dvs ds)(hx:kS CX X E)
    (ha:PA X (e::es) t)(hdb:(x == ("__debug__" : Str))=false:=by decide)(he:starEach (e::es) X.env=(false,eval e X.env)::starEach es X.env:=by rfl)(hpl:(backTo pos (starEach es X.env)).any (·.1)=false:=by rfl) :
    PE X (.Call (.Name x p) (e::es) [] pos) (o1 sp dvs E t):=by
  intro pins s σ H Q I h
  refine wpAny_Call_Name_kw (jV I hg hm ?_ hdb)
  refine PySem.W.callWith_K (h₀:=X.base) I.ok.mod.kin hk (thn (ha pos pins s σ H _ I h) fun us s1 ⟨vs,H1,I1,r,q⟩=>⟨I1.kIn,?_⟩) he hpl
  exact nJ F hr hb hd hx I1 r q
end
section
variable {X:Cx}{CX:CXT}{k:Nat}{f C:Addr}{fd:FuncData}{ps ks:List Str}{sp:Sp}{E:XK}{x m:Str}{p pos apos kpos:Pos}{e o:Expr}{es:List Expr}{kws:List Keyword}{te ta:TE}{t tk:TA}{nm:Option Str}
variable {g:List Value->List Value->List Value}{gV:List V->List V->List V}
end
structure aB (N P:List Str)(sc:Scope):Prop where
  kind:sc.kind=.function
  co:sc.isCoroutine=false
  gen:sc.isGenerator=false
  nd:N.Nodup
  pre:N.take P.length=P
  par:∀ x∈P,sc.names.lookup x=some .local\/sc.names.lookup x=some .cell
  nofree:∀ y∈sc.names,y.2≠.free
theorem hU {kindOf:Str->Option NameKind}{x:Str}:∀ {binds:List (Str×Value)} {m:Str->Option Value},(∀ v,(x,v) ∉ binds)->bindL kindOf binds m x=m x
  | [],_,_=>rfl
  | (n,v)::r,m,h=>by
    unfold bindL
    rw [hU fun w hw=>h w (List.mem_cons_of_mem _ hw)]
    split
    · have:x≠n:=by rintro rfl;exact h v List.mem_cons_self
      simp [this]
    · rfl
theorem io {kindOf:Str->Option NameKind}{x:Str}:∀ {binds:List (Str×Value)} {m:Str->Option Value},(∀ v,(x,v) ∉ binds)->bindC kindOf binds m x=m x
  | [],_,_=>rfl
  | (n,v)::r,m,h=>by
    unfold bindC
    rw [io fun w hw=>h w (List.mem_cons_of_mem _ hw)]
    split
    · rfl
    · have:x≠n:=by rintro rfl;exact h v List.mem_cons_self
      simp [this]
theorem ij {kindOf:Str->Option NameKind}{x:Str}{v:Value}:∀ {P:List Str} {vs:List Value} {i:Nat} {m:Str->Option Value},P.Nodup->P[i]? = some x->vs[i]? = some v->kindOf x=some .local →
    bindL kindOf (P.zip vs) m x=some v
  | [],_,_,_,_,h,_,_=>by simp at h
  | _::_,[],_,_,_,_,h,_=>by simp at h
  | p::P,w::vs,0,m,nd,h1,h2,hk=>by
    simp at h1 h2;subst h1;subst h2
    show bindL kindOf ((p,w)::P.zip vs) m p=_
    unfold bindL
    rw [hU fun v hv=>(List.nodup_cons.mp nd).1 (List.of_mem_zip hv).1,if_pos hk]
    simp
  | p::P,w::vs,i+1,m,nd,h1,h2,hk=>by
    show bindL kindOf ((p,w)::P.zip vs) m x=_
    unfold bindL
    exact ij (i:=i) (List.nodup_cons.mp nd).2 (by simpa using h1) (by simpa using h2) hk
theorem ie {kindOf:Str->Option NameKind}{x:Str}{v:Value}:∀ {P:List Str} {vs:List Value} {i:Nat} {m:Str->Option Value},P.Nodup->P[i]? = some x->vs[i]? = some v->kindOf x≠some .local →
    bindC kindOf (P.zip vs) m x=some v
  | [],_,_,_,_,h,_,_=>by simp at h
  | _::_,[],_,_,_,_,h,_=>by simp at h
  | p::P,w::vs,0,m,nd,h1,h2,hk=>by
    simp at h1 h2;subst h1;subst h2
    show bindC kindOf ((p,w)::P.zip vs) m p=_
    unfold bindC
    rw [io fun v hv=>(List.nodup_cons.mp nd).1 (List.of_mem_zip hv).1,if_neg hk]
    simp
  | p::P,w::vs,i+1,m,nd,h1,h2,hk=>by
    show bindC kindOf ((p,w)::P.zip vs) m x=_
    unfold bindC
    exact ie (i:=i) (List.nodup_cons.mp nd).2 (by simpa using h1) (by simpa using h2) hk
def gO (N:List Str)(vs:List V):St:=vs.map some++List.replicate (N.length - vs.length) none
def ld (CX:CXT)(P:Program)(w:World)(K:PySem.W.Frag)(mg:Str->Option Value)(base:Heap)(N:List Str)(qual:Str)(scope:Scope)(f:Addr)(cd:Value)(A:Around)(outer:List Env)(s:Shared)(H:Hp)(E:XK):Cx where
  prog:=P
  w:=w
  K:=K
  mg:=mg
  base:=base
  A:=A.deeper (envOfC qual scope s.heap.objs.size f cd)
  N:=N
  s₀:=s
  H₀:=H
  env:=envOfC qual scope s.heap.objs.size f cd
  outer:=outer
  stack:=envOfC qual scope s.heap.objs.size f cd::outer
  ex:=[]
  calm:=true
  fn:=fun _=>true
  pn:=[]
  xe:=fun e s'=>wpAny (model P w) (A.deeper (envOfC qual scope s.heap.objs.size f cd)) (leaving (envOfC qual scope s.heap.objs.size f cd) e) (fun _ s''=>CX outer H s E e s'') (fun e' s''=>CX outer H s E e' s'') s'
theorem jq {sc:Scope}{n:Nat}{x:Str}(h:sc.names.lookup x=some .cell):∃ c,(cellsFrom n sc.names []).lookup x=some c:=by
  have q:=PySem.W.cellsFrom_some sc.names n [] (.inl h)
  exact Option.isSome_iff_exists.mp q
theorem kO {CX:CXT}{P:Program}{w:World}{K:PySem.W.Frag}{mg:Str->Option Value}{base:Heap}{N ps:List Str}{qual:Str}{scope:Scope}{f:Addr}{cd:Value}{A:Around}{outer:List Env}{s s1:Shared}{H:Hp}{E:XK}{us:List Value}{vs:List V}
    (S:aB N ps scope)(hd:A.handled=none)(e0:oK P w K mg base A outer s H)(hl:vs.length=ps.length)(r:Vals vs us)
    (x:InCallC s s.heap.objs.size (bindL (envOfC qual scope s.heap.objs.size f cd).kindOf (ps.zip us) fun _=>none) (cellsFrom (s.heap.objs.size+1) scope.names []) (bindC (envOfC qual scope s.heap.objs.size f cd).kindOf (ps.zip us) fun _=>none) s1) :
    Inv (ld CX P w K mg base N qual scope f cd A outer s H E) [] (gO N vs) H s1:=by
  have hpl:ps.length<=N.length:=by have:=congrArg List.length S.pre;rw [List.length_take] at this;omega
  obtain⟨h1,tk,rfl,hk⟩:=x.done
  have noA:∀ b:Addr,b ∉ (ld CX P w K mg base N qual scope f cd A outer s H E).ex:=fun b z=>absurd (show b∈([]:List Addr) from z) (by simp)
  refine⟨⟨e0.mod,S.kind,rfl,rfl,Nat.le_refl _,fun y z c h1 h2=>?_,fun y hy=>?_,fun y c _ h=>?_,fun _=>hd,Around.frames_deeper e0.frames,.inr ⟨rfl,rfl⟩,fun b z=>absurd z (noA b),e0.bs,e0.bsz,fun b _ _=>noA b,fun b z=>absurd z (noA b),e0.funs,e0.frf⟩,
    rfl,e0.bare,Un.kept hk,⟨_,x.toInCall.ns,fun i y v h1 h2 h3=>?_⟩,fun y c h=>⟨_,x.cell y c h⟩,e0.hok.fresh (Nat.le_refl _),fun y c h=>?_,fun p hp=>absurd (show p∈([]:List (Addr×Obj)) from hp) (by simp),e0.hok.kept hk,?_⟩
  · exact name_of_addr x.apart (PySem.mem_of_lookup h1) (PySem.mem_of_lookup h2)
  · have hy:scope.names.lookup y=some .cell\/scope.names.lookup y=some .free:=hy
    rcases hy with hy | hy
    · exact jq hy
    · exact absurd rfl (S.nofree _ (PySem.mem_of_lookup hy))
  · exact Nat.le_of_lt (x.above y c (PySem.mem_of_lookup h))
  · have hi:i < vs.length:=by
      unfold gO at h2
      by_cases hi:i < vs.length
      · exact hi
      · rw [List.getElem?_append_right (by simpa using hi)] at h2
        rw [List.getElem?_replicate] at h2
        split at h2<;>cases h2
    have ha:vs[i]? = some v:=by
      unfold gO at h2
      rw [List.getElem?_append_left (by simpa using hi),List.getElem?_map] at h2
      cases e:vs[i]? with
      | none=>rw [e] at h2;cases h2
      | some a=>rw [e] at h2;cases h2;rfl
    obtain⟨u,hu,rv⟩:=r.get ha
    have hp:ps[i]? = some y:=by
      rw [← S.pre,List.getElem?_take_of_lt (by omega)];exact h1
    have ndP:ps.Nodup:=by rw [← S.pre];exact S.nd.sublist (List.take_sublist _ _)
    refine⟨u,rv,?_⟩
    rcases S.par y (List.mem_of_getElem? hp) with k | k
    · exact .inl ⟨k,ij ndP hp hu k⟩
    · obtain⟨c,e⟩:=jq (n:=s.heap.objs.size+1) k
      refine .inr ⟨.inl k,c,e,?_⟩
      have q:=x.cell y c e
      rw [ie ndP hp hu (by show scope.names.lookup y≠_;rw [k];decide)] at q
      exact q
  · exact e0.hok.fresh (Nat.le_of_lt (x.above y c (PySem.mem_of_lookup h)))
  · unfold gO
    show _=N.length
    rw [List.length_append,List.length_map,List.length_replicate]
    omega
theorem o5 {CX:CXT}{P:Program}{w:World}{K:PySem.W.Frag}{mg:Str->Option Value}{base:Heap}{k:Nat}{f:Addr}{name qual:Str}{params:Arguments}{body:List Stmt}{scope:Scope}{dV kV doc pm cdv ct oc:Value}{an od:Option Addr}
    {osl:Array (Option Value)}{N ps:List Str}{sp:Sp}(lk:K.lookup f=some ⟨oc,od,.func (PySem.W.fnOf name qual params body scope dV kV doc pm an cdv ct),osl⟩)(hcd:PySem.W.codeIn K cdv qual=true)(S:aB N ps scope)
    (len:∀ vs H Q E,sp vs H Q E->vs.length=ps.length)
    (hbody:∀ (A:Around) (outer:List Env) (s:Shared) (H:Hp) (vs:List V) (Q:VK) (E:XK),Room k (A.deeper (envOfC qual scope s.heap.objs.size f cdv))->sp vs H Q E →
      ∃ t,PSs (ld CX P w K mg base N qual scope f cdv A outer s H E) body t/\t { nx:=fun _ H'=>Q .non H',rt:=Q } (gO N vs) H) :
    FnOk P w K mg base CX (k+1) f (PySem.W.fnOf name qual params body scope dV kV doc pm an cdv ct) ps sp:=by
  refine⟨len,fun A outer s H args us vs Q E hr e0 hb r hsp=>?_⟩
  have hl:=len _ _ _ _ hsp
  have KX:K.In s.heap:=e0.mod.kin.keeps fun b o e=>(e0.bs b o e).1
  have lim:s.heap.NoLimit:=e0.mod.nolimit.keeps fun b o e=>(e0.bs b o e).1
  have hkind:∀ y∈ps.zip us,scope.names.lookup y.1=some .local\/(scope.names.lookup y.1=some .cell/\((cellsFrom (s.heap.objs.size+1) scope.names []).lookup y.1).isSome=true):=fun ⟨n,v⟩ hy=>by
    rcases S.par n (List.of_mem_zip hy).1 with q | q
    · exact .inl q
    · exact .inr ⟨q,PySem.W.cellsFrom_some _ _ _ (.inl q)⟩
  refine codeAny_call_function hr.depth (KX _ _ lk) rfl S.co S.gen rfl (PySem.W.codeRec_of KX hcd) (hb _ _ _ _ ?_)
  refine wpAny_newFunctionEnv_cells S.kind hkind fun env he s1 x=>?_
  subst he
  refine⟨lim.keeps x.toInCall.keep,codeAny_func ?_⟩
  obtain⟨t,ht,hq⟩:=hbody A outer s H vs Q E (hr.deeper _) hsp
  have I:Inv (ld CX P w K mg base N qual scope f cdv A outer s H E) [] (gO N vs) H s1:=kO S hr.hd e0 hl r x
  refine wpAny_mono (ht [] s1 (gO N vs) H _ I hq) (fun fl s' hs=>?_) fun e s' hs=>hs
  have fin:∀ {σ':St} {H':Hp} {v:V} {u:Value},Inv (ld CX P w K mg base N qual scope f cdv A outer s H E) [] σ' H' s'->RelV v u->Q v H'->CE outer P w H s Q u s' :=
    fun {σ' H' v u} J rv q=>⟨v,H',J.os,J.bare,J.base,J.hok,rv,q⟩
  cases fl with
  | ret u =>
    obtain⟨v,σ',H',J,rv,q⟩:=hs
    exact fin J rv q
  | next =>
    obtain⟨σ',H',J,q⟩:=hs
    exact fin (v:=V.non) (u:=Value.none) J rfl q
  | brk =>
    obtain⟨_,_,_,q⟩:=hs
    exact False.elim q
  | cont =>
    obtain⟨_,_,_,q⟩:=hs
    exact False.elim q
section
variable {X:Cx}{x:Str}{p pos:Pos}{e:Expr}{es:List Expr}{t:TA}{id T:String}{r:List V->Hp->VK->Prop}
def tCB (r:List V->Hp->VK->Prop)(t:TA):TE:=fun σ H Q=>t σ H fun vs H1=>r vs H1 Q
theorem ao (hc:dv X (.builtin id) r)(hg:Gl X x)(hm:X.mg x=none)(hv:bootBuiltins x=some (.builtin id))(ha:PA X (e::es) t)(hn:x ≠ "__name__" := by decide)(hdb:(x == ("__debug__" : Str))=false:=by decide)
    (he:starEach (e::es) X.env=(false,eval e X.env)::starEach es X.env:=by rfl)(hpl:(backTo pos (starEach es X.env)).any (·.1)=false:=by rfl):PE X (.Call (.Name x p) (e::es) [] pos) (tCB r t):=by
  intro pins s σ H Q I h
  refine wpAny_Call_Name_kw (jn I hg hm hv ?_ hn hdb)
  exact PyProof.Rows.callWith_builtin1 (thn (ha pos pins s σ H _ I h) fun us s1 ⟨vs,H1,I1,r1,q1⟩=>hc pins s1 σ H1 vs us Q I1 r1 q1) he hpl
theorem bR (hc:dv X (.type T) r)(hg:Gl X x)(hm:X.mg x=none)(hv:bootBuiltins x=some (.type T))(ha:PA X (e::es) t)(hn:x ≠ "__name__" := by decide)(hdb:(x == ("__debug__" : Str))=false:=by decide)
    (he:starEach (e::es) X.env=(false,eval e X.env)::starEach es X.env:=by rfl)(hpl:(backTo pos (starEach es X.env)).any (·.1)=false:=by rfl):PE X (.Call (.Name x p) (e::es) [] pos) (tCB r t):=by
  intro pins s σ H Q I h
  refine wpAny_Call_Name_kw (jn I hg hm hv ?_ hn hdb)
  exact PyProof.Rows.callWith_type1 (thn (ha pos pins s σ H _ I h) fun us s1 ⟨vs,H1,I1,r1,q1⟩=>hc pins s1 σ H1 vs us Q I1 r1 q1) he hpl
end
end L2
namespace HT
open PySem PyProof.Rows
section
open PySem.SeqAt
open PySem.AutoSeq1 (wpAny_loadPart')
open PySem.MeetsSeq PySem.MeetsSeq2 PySem.MeetsSeq3
end
section
variable {prog:Program}{w:World}{A:Around}{E:Value->Shared->Prop}{s:Shared}
def sIx (n d:Nat):Option Int->Nat
  | none=>d
  | some v=>if v < 0 then (v+(n:Int)).toNat else min v.toNat n
theorem sIx_none (n d:Nat):sIx n d none=d:=rfl
theorem sIx_nat (n d k:Nat):sIx n d (some (k:Int))=min k n:=by
  show (if (k:Int) < 0 then ((k:Int)+(n:Int)).toNat else min (k:Int).toNat n)=min k n
  rw [if_neg (by omega),Int.toNat_natCast]
end
end HT
namespace L2
open PySem PySem.Spec PyProof.Rows
abbrev TO:=St->Hp->(Option Int->Hp->Prop)->Prop
def PO (X:Cx)(e:Option Expr)(t:TO):Prop :=
  ∀ (pins:List (Addr×Obj)) (s:Shared) (σ:St) (H:Hp) (Q:Option Int->Hp->Prop),Inv X pins σ H s->t σ H Q →
    wpAny (model X.prog X.w) X.A (evalPart e X.env) (fun u s'=>∃ o H',Inv X pins σ H' s'/\IsPart u o/\Q o H') X.xe s
def mN:TO:=fun _ H Q=>Q none H
def o8 (t:TE):TO:=fun σ H Q=>t σ H fun x H1=>∃ i,x=.int i/\Q (some i) H1
section
variable {X:Cx}{e:Expr}{te:TE}{lo hi:Option Expr}{tl th:TO}{pos p2:Pos}
theorem iP:PO X none mN:=by
  intro pins s σ H Q I h
  rw [evalPart_none]
  exact wpAny_pure ⟨none,H,I,.none,h⟩
theorem iI (h:PE X e te):PO X (some e) (o8 te):=by
  intro pins s σ H Q I hw
  rw [evalPart_some]
  refine thn (h pins s σ H _ I hw) fun u s1 ⟨x,H1,I1,r1,q1⟩=>?_
  obtain⟨i,rfl,q⟩:=q1
  obtain⟨t,rfl⟩:=r1
  exact⟨some i,H1,I1,.int i t,q⟩
def SlR (X:Cx)(r:V->Option Int->Option Int->Hp->VK->Prop):Prop :=
  ∀ (pins:List (Addr×Obj)) (s:Shared) (σ:St) (H:Hp) (x:V) (v vl vu:Value) (lo hi:Option Int) (sl:Addr) (Q:VK),Inv X pins σ H s->RelV x v->s.heap.IsSliceOf sl vl vu .none->IsPart vl lo->IsPart vu hi->r x lo hi H Q →
    ∃ T id,typeLookup (.type T) "__getitem__" = pure (some (.builtin id))/\s.TypeIs v T/\wpAny (model X.prog X.w) X.A (getItem v (.ref sl)) (EP X pins σ Q) X.xe s
def tSl (r:V->Option Int->Option Int->Hp->VK->Prop)(te:TE)(tl th:TO):TE:=fun σ H Q=>te σ H fun x H1=>tl σ H1 fun l H2=>th σ H2 fun u H3=>r x l u H3 Q
theorem gk {r:V->Option Int->Option Int->Hp->VK->Prop}(hr:SlR X r)(he:PE X e te)(hl:PO X lo tl)(hu:PO X hi th):PE X (.Subscript e (.Slice lo hi none p2) pos) (tSl r te tl th):=by
  intro pins s σ H Q I h
  refine Subscript_ (thn (he pins s σ H _ I h) fun v s1 ⟨x,H1,I1,r1,q1⟩=>?_)
  refine wpAny_Slice (thn (hl pins s1 σ H1 _ I1 q1) fun vl s2 ⟨l,H2,I2,pl,q2⟩=>thn (hu pins s2 σ H2 _ I2 q2) fun vu s3 ⟨u,H3,I3,pu,q3⟩=>?_)
  rw [evalPart_none]
  refine wpAny_pure ?_
  have I4:Inv X pins σ H3 { s3 with heap:=s3.heap.push { cls:=.type "slice",data:=.fields #[vl,vu,.none] } }:=I3.kept (t':=s3.toks) fun b ob q=>Heap.get?_push_of_some _ q
  obtain⟨T,id,hT,ht,hg⟩:=hr pins { s3 with heap:=s3.heap.push { cls:=.type "slice",data:=.fields #[vl,vu,.none] } } σ H3 x v vl vu l u s3.heap.objs.size Q I4 r1 (Heap.IsSliceOf.new ..) pl pu q3
  show wpAny (model X.prog X.w) X.A (subscriptTail e (.Slice lo hi none p2) v (.ref s3.heap.objs.size)) (EP X pins σ Q) X.xe { s3 with heap:=s3.heap.push { cls:=.type "slice",data:=.fields #[vl,vu,.none] } }
  exact tail_any (ops:=[.ref s3.heap.objs.size,v]) ht hT hg (by with_unfolding_all rfl)
def mn (xs:List V)(lo hi:Option Int):List V:=(xs.drop (HT.sIx xs.length 0 lo)).take (HT.sIx xs.length xs.length hi - HT.sIx xs.length 0 lo)
theorem iu (xs:List V)(lo hi:Option Int):(mn xs lo hi).length<=xs.length:=by
  unfold mn
  rw [List.length_take,List.length_drop]
  omega
end
def ixN (n:Nat)(i:Int):Option Nat:=if 0<=i then (if i < n then some i.toNat else none) else if -(n:Int)<=i then some (i+n).toNat else none
def atI {α:Type}(xs:List α)(i:Int):Option α:=(ixN xs.length i).bind fun j=>xs[j]?
theorem ng {n:Nat}{i:Int}{j:Nat}(h:ixN n i=some j):seqIndex? i n=some j/\j < n/\-(n:Int)<=i/\i < n:=by
  unfold ixN at h
  by_cases h0:0<=i
  · rw [if_pos h0] at h
    by_cases h1:i < n
    · rw [if_pos h1] at h
      have e:i.toNat=j:=Option.some.inj h
      exact⟨by rw [seqIndex_of h0 h1,e],by omega,by omega,h1⟩
    · rw [if_neg h1] at h;cases h
  · rw [if_neg h0] at h
    by_cases h1:-(n:Int)<=i
    · rw [if_pos h1] at h
      have e:(i+n).toNat=j:=Option.some.inj h
      exact⟨by rw [seqIndex_neg (by omega) h1,e],by omega,h1,by omega⟩
    · rw [if_neg h1] at h;cases h
theorem iJ {α:Type}{xs:List α}{i:Int}{v:α}(h:atI xs i=some v):∃ j,seqIndex? i xs.length=some j/\xs[j]? = some v/\j < xs.length/\-(xs.length:Int)<=i/\i < xs.length:=by
  unfold atI at h
  cases e:ixN xs.length i with
  | none=>rw [e] at h;cases h
  | some j =>
    rw [e] at h
    obtain⟨h1,h2,h3,h4⟩:=ng e
    exact⟨j,h1,h,h2,h3,h4⟩
theorem bN {α:Type}{xs:List α}{j:Nat}{v:α}(h:xs[j]? = some v):atI xs (j:Int)=some v:=by
  have hj:j < xs.length:=(List.getElem?_eq_some_iff.mp h).1
  have e:ixN xs.length (j:Int)=some j:=by
    unfold ixN
    rw [if_pos (by omega),if_pos (by omega)];simp
  unfold atI;rw [e];exact h
theorem lR {α:Type}(xs:List α)(v:α):atI (xs++[v]) (-1)=some v:=by
  have hl:(xs++[v]).length=xs.length+1:=by simp
  have e:ixN (xs++[v]).length (-1)=some xs.length:=by
    unfold ixN
    rw [hl,if_neg (by decide),if_pos (by omega)]
    congr 1
    omega
  unfold atI
  rw [e]
  show (xs++[v])[xs.length]? = some v
  simp
def ni (b:Expr):Prop:=∀ o i,subscripted b false o i=operate [o,i] (getItem o i)
def IxR (X:Cx)(r:R2):Prop :=
  ∀ (value slice:Expr) (pins:List (Addr×Obj)) (s:Shared) (σ:St) (H:Hp) (x y:V) (v u:Value) (Q:VK),Inv X pins σ H s->RelV x v->RelV y u->r x y H Q →
    subscripted slice false v u=operate [v,u] (getItem v u)->wpAny (model X.prog X.w) X.A (subscriptTail value slice v u) (EP X pins σ Q) X.xe s
def MtR (X:Cx)(id:String)(r:V->List V->Hp->VK->Prop):Prop :=
  ∀ (pins:List (Addr×Obj)) (s:Shared) (σ:St) (H:Hp) (x:V) (xs:List V) (v:Value) (us:List Value) (Q:VK),Inv X pins σ H s->RelV x v->Vals xs us->r x xs H Q →
    wpAny (model X.prog X.w) X.A (call (.builtin id) (v::us)) (EP X pins σ Q) X.xe s
section
variable {X:Cx}{a b:Expr}{ta tb:TE}{pos:Pos}
theorem bv {r:R2}(hr:IxR X r)(ha:PE X a ta)(hb:PE X b tb)(hs:ni b):PE X (.Subscript a b pos) (tOp r ta tb):=by
  intro pins s σ H Q I h
  exact Subscript_ (oX ha hb I h fun v u s2 x y H2 I2 rx ry q=>hr a b pins s2 σ H2 x y v u Q I2 rx ry q (hs _ _))
def oS (K:PySem.W.Frag):R2:=fun x y H Q=>∃ p xs i v,x=.ref p/\y=.int i/\SqL K H p xs/\atI xs i=some v/\Q v H
def pq (K:PySem.W.Frag):R2:=fun x y H Q=>∃ p xs i v,x=.ref p/\y=.int i/\SqT K H p xs/\atI xs i=some v/\Q v H
def pW:R2:=fun x y H Q=>∃ z i c,x=.str z/\y=.int i/\z.length<=sizeLine/\atI z.cps.toList i=some c/\Q (.str ⟨#[c]⟩) H
theorem bO:IxR X (oS X.K):=by
  intro value slice pins s σ H x y v u Q I rx ry h hs
  obtain⟨p,xs,i,z,rfl,rfl,hq,he,q⟩:=h
  cases rx
  obtain⟨t,rfl⟩:=ry
  obtain⟨its,r,pl,hz⟩:=I.list hq
  obtain⟨j,h1,h2,h3,h4,h5⟩:=iJ he
  obtain⟨w,ew,rw'⟩:=r.get h2
  have hl:=r.length
  have hn:=fy
  have fin:EP X pins σ Q w s:=⟨z,H,I,rw',q⟩
  by_cases h0:0<=i
  · have hj:i.toNat=j:=by
      rw [seqIndex_of h0 h5] at h1
      exact Option.some.inj h1
    exact item_listR pl.isList h0 (by omega) (by rw [hj];simpa using ew) fin hs
  · have hj:(i+(its.toArray.size:Int)).toNat=j:=by
      rw [seqIndex_neg (by omega) h4] at h1
      rw [List.size_toArray,← hl]
      exact Option.some.inj h1
    exact subscriptTail_builtinR (x:=w) pl.isList.typeIs slot_list_getitem.lookup
      (wpAny_getItem_list_neg (Q:=fun r s'=>r=w/\EP X pins σ Q r s') pl.isList (by omega) (by rw [List.size_toArray]<;>omega) (by omega) (by rw [hj];simpa using ew) ⟨rfl,fin⟩) hs
theorem b6:IxR X (pq X.K):=by
  intro value slice pins s σ H x y v u Q I rx ry h hs
  obtain⟨p,xs,i,z,rfl,rfl,hq,he,q⟩:=h
  cases rx
  obtain⟨t,rfl⟩:=ry
  obtain⟨its,r,pl,hz⟩:=I.tuple hq
  obtain⟨j,h1,h2,h3,h4,h5⟩:=iJ he
  obtain⟨w,ew,rw'⟩:=r.get h2
  have hl:=r.length
  have hn:=fy
  have fin:EP X pins σ Q w s:=⟨z,H,I,rw',q⟩
  exact subscriptTail_builtinR (x:=w) pl.typeIs slot_tuple_getitem.lookup
    (getItem_tuple (j:=j) (Q:=fun r s'=>r=w/\EP X pins σ Q r s') pl (by omega) (by omega) (by rw [List.size_toArray,← hl];exact h1) (by simpa using ew) ⟨rfl,fin⟩) hs
theorem nF:IxR X pW:=by
  intro value slice pins s σ H x y v u Q I rx ry h hs
  obtain⟨z,i,c,rfl,rfl,hz,he,q⟩:=h
  obtain⟨t,rfl⟩:=rx
  obtain⟨t',rfl⟩:=ry
  obtain⟨j,h1,h2,h3,h4,h5⟩:=iJ he
  have hl:z.cps.toList.length=z.length:=by simp [Str.length]
  rw [hl] at h1 h4 h5
  have hn:=fy
  exact tail_any (typeIs_str s z t) slot_str_getitem.lookup (getItem_str (c:=c) (by
    have e1:decide (i < -(2 ^ 63:Int))=false:=decide_eq_false (by omega)
    have e2:decide (i ≥ 2 ^ 63)=false:=decide_eq_false (by omega)
    rw [e1,e2,Bool.or_false]) (by rw [h1];simpa using h2) ⟨.str ⟨#[c]⟩,H,I.tok _,⟨_,rfl⟩,q⟩) hs
theorem gS (lo hi:Option Int)(n:Nat):(sliceBounds lo hi none n).1=((HT.sIx n 0 lo:Nat):Int)/\(sliceBounds lo hi none n).2.1=((HT.sIx n n hi:Nat):Int)/\(sliceBounds lo hi none n).2.2=1:=by
  refine⟨?_,?_,rfl⟩
  · cases lo with
    | none=>simp [sliceBounds,HT.sIx]
    | some i =>
      simp only [sliceBounds,HT.sIx,Option.getD_none,show (1:Int) > 0 by decide,if_true]
      by_cases h:i < 0
      · simp only [h,if_true]<;>omega
      · simp only [h,if_false]<;>omega
  · cases hi with
    | none=>simp [sliceBounds,HT.sIx]
    | some i =>
      simp only [sliceBounds,HT.sIx,Option.getD_none,show (1:Int) > 0 by decide,if_true]
      by_cases h:i < 0
      · simp only [h,if_true]<;>omega
      · simp only [h,if_false]<;>omega
theorem gt (its:List Value)(lo hi:Option Int):slicePick its.toArray lo hi none=((its.drop (HT.sIx its.length 0 lo)).take (HT.sIx its.length its.length hi - HT.sIx its.length 0 lo)).toArray:=by
  obtain⟨h1,h2,h3⟩:=gS lo hi its.toArray.size
  unfold slicePick
  rw [h1,h2,h3]
  simp only [sliceRange_one,pick_run,List.size_toArray]<;>rfl
def pJ (K:PySem.W.Frag):V->Option Int->Option Int->Hp->VK->Prop:=fun x lo hi H Q=>∃ a xs,x=.ref a/\SqL K H a xs/\∀ p,H p=none->Q (.ref p) (upd H p (.lst (mn xs lo hi)))
theorem iC:SlR X (pJ X.K):=by
  intro pins s σ H x v vl vu lo hi sl Q I rx hs pl pu h
  obtain⟨a,xs,rfl,hx,q⟩:=h
  cases rx
  obtain⟨its,r,ht,hz⟩:=I.list hx
  have hlen:=r.length
  refine⟨"list",_,slot_list_getitem.lookup,ht.isList.typeIs,?_⟩
  refine wpAny_getItem_list_slice ht.isList hs pl pu .none (by simp) ?_ (by rw [List.size_toArray]<;>omega)
  rw [gt,← hlen]
  refine⟨.ref s.heap.objs.size,_,I.laid (t':=s.toks) (o:=.lst (mn xs lo hi)) (fun b ob q=>Heap.get?_push_of_some _ q) (Nat.le_refl _) ?_,rfl,q _ (I.hok.fresh (Nat.le_refl _))⟩
  exact⟨Nat.le_trans (iu xs lo hi) hz,_,0,(r.drop (HT.sIx xs.length 0 lo)).take (HT.sIx xs.length xs.length hi - HT.sIx xs.length 0 lo),Heap.get?_push_size _ rfl⟩
theorem aC:dv X (.builtin "len") (fun xs H Q=>∃ p ys,xs=[.ref p]/\(SqL X.K H p ys\/SqT X.K H p ys)/\Q (.int ys.length) H):=by
  intro pins s σ H xs us Q I r h
  obtain⟨p,ys,rfl,hq,q⟩:=h
  obtain⟨u,rfl,rx⟩:=gP r
  cases rx
  have hn:=fy
  rcases hq with hq | hq
  · obtain⟨its,r',pl,hz⟩:=I.list hq
    have hlen:=r'.length
    exact Calls.call_len_list pl.isList (by simp only [List.size_toArray]<;>omega) ⟨.int ys.length,H,I.tok _,⟨s.toks+1,by rw [List.size_toArray,hlen]⟩,q⟩
  · obtain⟨its,r',pl,hz⟩:=I.tuple hq
    have hlen:=r'.length
    exact len_tuple pl (by simp only [List.size_toArray]<;>omega) ⟨.int ys.length,H,I.tok _,⟨s.toks+1,by rw [List.size_toArray,hlen]⟩,q⟩
theorem dZ:dv X (.builtin "len") (fun xs H Q=>∃ z,xs=[.str z]/\z.length<=sizeLine/\Q (.int z.length) H):=by
  intro pins s σ H xs us Q I r h
  obtain⟨z,rfl,hz,q⟩:=h
  obtain⟨u,rfl,t,rfl⟩:=gP r
  have hn:=fy
  exact len_str (by omega) ⟨.int z.length,H,I.tok _,⟨_,rfl⟩,q⟩
theorem dW:dv X (.type "list") (fun xs H Q=>∃ p ys,xs=[.ref p]/\(SqL X.K H p ys\/SqT X.K H p ys)/\∀ l,H l=none->Q (.ref l) (upd H l (.lst ys))):=by
  intro pins s σ H xs us Q I r h
  obtain⟨p,ys,rfl,hq,q⟩:=h
  obtain⟨u,rfl,rx⟩:=gP r
  cases rx
  have fin:∀ (its:List Value),Vals ys its->ys.length<=sizeLine->∀ (h':Heap) (c':Nat),(∀ b o',s.heap.get? b=some o'->h'.get? b=some o') →
      h'.get? s.heap.objs.size=some { cls:=.type "list",dict:=none,data:=.seq its.toArray c',slots:=#[] }->EP X pins σ Q (.ref s.heap.objs.size) { s with heap:=h' }:=fun its r' hz h' c' kp e =>
    ⟨.ref s.heap.objs.size,_,I.laid (t':=s.toks) kp (Nat.le_refl _) (show ObjOk X.prog X.w _ h' _ (.lst ys) from ⟨hz,its,c',r',e⟩),rfl,q _ (I.hok.fresh (Nat.le_refl _))⟩
  rcases hq with hq | hq
  · obtain⟨its,r',pl,hz⟩:=I.list hq
    have hlen:=r'.length
    obtain⟨o,ho,hc,n,hd⟩:=pl.isList
    exact call_list_seq p (.inl rfl) ho hc hd (fun h' c' kp e=>fin its r' hz h' c' kp e) (by simp only [List.size_toArray]<;>omega)
  · obtain⟨its,r',pl,hz⟩:=I.tuple hq
    have hlen:=r'.length
    obtain⟨o,ho,hc,n,hd⟩:=pl
    exact call_list_seq p (.inr rfl) ho hc hd (fun h' c' kp e=>fin its r' hz h' c' kp e) (by simp only [List.size_toArray]<;>omega)
def tyV (K:PySem.W.Frag)(T:String)(x:V)(H:Hp):Prop:=match x with
  | .str _=>T = "str"
  | .int _=>T = "int"
  | .ref p=>(T = "list" ∧ ∃ xs,SqL K H p xs)\/(T = "tuple" ∧ ∃ o,K.lookup p=some o/\o.cls=.type "tuple" ∧ o.dict=none) ∨
      (T = "dict" ∧ ((∃ kvs,H p=some (.dK kvs))\/∃ kvs,H p=some (.dT kvs)))\/(T = "set" ∧ ∃ S n,H p=some (.set S n))
  | _=>False
theorem mC {pins:List (Addr×Obj)}{σ:St}{H:Hp}{s:Shared}{T:String}{x:V}{v:Value}(I:Inv X pins σ H s)(r:RelV x v)(ty:tyV X.K T x H) :
    s.TypeIs v T/\∀ a,v=.ref a->∃ ob,s.heap.get? a=some ob/\ob.dict=none:=by
  cases x with
  | str z =>
    obtain⟨t,rfl⟩:=r
    cases (show T = "str" from ty)
    exact⟨typeIs_str s z t,fun _ e=>nomatch e⟩
  | int i =>
    obtain⟨t,rfl⟩:=r
    cases (show T = "int" from ty)
    exact⟨typeIs_int s i t,fun _ e=>nomatch e⟩
  | ref p =>
    cases r
    rcases ty with ⟨rfl,xs,hq⟩ | ⟨rfl,o,hk,hc,hd⟩ | ⟨rfl,hk⟩ | ⟨rfl,S,n,hk⟩
    · obtain⟨its,_,pl,_⟩:=I.list hq
      refine⟨pl.isList.typeIs,fun a e=>?_⟩
      cases e
      obtain⟨o,n,e,c,hd,_⟩:=pl
      exact⟨o,e,hd⟩
    · refine⟨⟨o,I.kIn p o hk,hc⟩,fun a e=>?_⟩
      cases e
      exact⟨o,I.kIn _ o hk,hd⟩
    · have z:∃ o,s.heap.get? p=some o/\o.ExactDict:=by
        rcases hk with ⟨kvs,hk⟩ | ⟨kvs,hk⟩
        · obtain⟨_,_,_,_,o,_,_,e,ex,_⟩:=I.hok p _ hk
          exact⟨o,e,ex⟩
        · obtain⟨_,_,_,_,o,_,_,e,ex,_⟩:=I.hok p _ hk
          exact⟨o,e,ex⟩
      obtain⟨o,e,ex⟩:=z
      refine⟨⟨o,e,ex.1⟩,fun a e2=>?_⟩
      cases e2
      exact⟨o,e,ex.2.1⟩
    · obtain⟨o,_,_,_,e,ex,_⟩:=I.hok p _ hk
      refine⟨⟨o,e,ex.1⟩,fun a e2=>?_⟩
      cases e2
      exact⟨o,e,ex.2.1⟩
  | _=>exact False.elim ty
def pX (K:PySem.W.Frag)(T:String)(r:V->List V->Hp->VK->Prop)(to:TE):TE:=fun σ H Q=>to σ H fun x H1=>tyV K T x H1/\r x [] H1 Q
def tBM (K:PySem.W.Frag)(T:String)(r:V->List V->Hp->VK->Prop)(to:TE)(t:TA):TE:=fun σ H Q=>to σ H fun x H1=>tyV K T x H1/\t σ H1 fun xs H2=>r x xs H2 Q
variable {o e:Expr}{es:List Expr}{to:TE}{t:TA}{name:Str}{apos cpos:Pos}{T id:String}{r:V->List V->Hp->VK->Prop}
theorem nH (pa:PlainAttrs T)(slot:Slot T name id)(hty:typeOf (.builtin id)=pure (.type "method_descriptor"))(hm:MtR X id r)(ho:PE X o to)
    (hbase:attributeBase o name X.env (eval o X.env)=eval o X.env:=by rfl)(hline:(apos.endLine == cpos.line)=true:=by rfl):PE X (.Call (.Attribute o name apos) [] [] cpos) (pX X.K T r to):=by
  intro pins s σ H Q I h
  refine wpAny_Call_method0_late hbase hline (thn (ho pins s σ H _ I h) fun v s1 ⟨x,H1,I1,r1,ty,q1⟩=>?_)
  obtain⟨h1,h2⟩:=mC I1 r1 ty
  exact⟨T,id,pa,slot,hty,h1,h2,Calls.callWith_builtin rfl (PySem.evalArgs_none (hm pins s1 σ H1 x [] v [] Q I1 r1 .nil q1))⟩
theorem dt (pa:PlainAttrs T)(slot:Slot T name id)(hty:typeOf (.builtin id)=pure (.type "method_descriptor"))(hm:MtR X id r)(ho:PE X o to)(ha:PA X (e::es) t)
    (hbase:attributeBase o name X.env (eval o X.env)=eval o X.env:=by rfl)
    (hfew:((backTo cpos (starEach (e::es) X.env)).all (fun x=>!x.1) && (backToKw cpos (keywordEach [] X.env)).all (fun x=>x.1.isSome)
      && decide ((e::es).length+([]:List Keyword).length+(if ([]:List Keyword).isEmpty then 0 else 1) < 30))=true:=by rfl)
    (hline:(apos.endLine == cpos.line)=true:=by rfl)(hs:starEach (e::es) X.env=(false,eval e X.env)::starEach es X.env:=by rfl)(hplain:(backTo cpos (starEach es X.env)).any (·.1)=false:=by rfl) :
    PE X (.Call (.Attribute o name apos) (e::es) [] cpos) (tBM X.K T r to t):=by
  intro pins s σ H Q I h
  refine wpAny_Call_method_late hbase hfew hline rfl (thn (ho pins s σ H _ I h) fun v s1 ⟨x,H1,I1,r1,ty,q1⟩=>?_)
  obtain⟨h1,h2⟩:=mC I1 r1 ty
  refine⟨T,id,pa,slot,hty,h1,h2,?_⟩
  have hA:=ha cpos pins s1 σ H1 _ I1 q1
  rw [hs] at hA ⊢
  refine Calls.callWith_builtin (by show (false || (backTo cpos (starEach es X.env)).any (·.1))=false;rw [hplain]<;>rfl) (Calls.evalArgs_plain ?_)
  exact thn hA fun us s2 ⟨vs,H2,I2,r2,q2⟩=>hm pins s2 σ H2 x vs v us Q I2 r1 r2 q2
end
def MtM (X:Cx)(id:String)(r:V->List V->Hp->VK->Prop):Prop :=
  ∀ (pins:List (Addr×Obj)) (s:Shared) (σ:St) (H:Hp) (x:V) (xs:List V) (v:Value) (us:List Value) (Q:VK),Inv X pins σ H s->RelV x v->Vals xs us->r x xs H Q →
    wpAny (model X.prog X.w) X.A (call (.builtin id) (v::us)) (EP X pins σ Q) X.xe s
theorem Vals.one:∀ {x:V} {us:List Value},Vals [x] us->∃ u,us=[u]/\RelV x u
  | _,_,.cons r .nil=>⟨_,rfl,r⟩
theorem Vals.zero:∀ {us:List Value},Vals [] us->us=[]
  | _,.nil=>rfl
theorem Vals.dropLast {xs:List V}{us:List Value}(h:Vals xs us):Vals xs.dropLast us.dropLast:=by
  induction h with
  | nil=>exact .nil
  | cons r t ih =>
    cases t with
    | nil=>exact .nil
    | cons q t'=>exact .cons r ih
theorem Vals.rep {xs:List V}{us:List Value}(h:Vals xs us):∀ k:Nat,Vals (List.replicate k xs).flatten (List.replicate k us).flatten
  | 0=>.nil
  | k+1=>by
    rw [List.replicate_succ,List.replicate_succ,List.flatten_cons,List.flatten_cons]
    exact Vals.append h (Vals.rep h k)
theorem jH {α:Type}(l:List α):l.eraseIdx (l.length - 1)=l.dropLast:=by
  induction l with
  | nil=>rfl
  | cons a r ih =>
    cases r with
    | nil=>rfl
    | cons b r =>
      have e:(a::b::r).length - 1=((b::r).length - 1)+1:=by
        have h1:(a::b::r).length=r.length+2:=rfl
        have h2:(b::r).length=r.length+1:=rfl
        omega
      rw [e,List.eraseIdx_cons_succ,ih]
      all_goals rfl
theorem ii (its:List Value):∀ (k:Nat) (acc:List Value),
    List.foldl (fun x1 x2=>x1++x2) acc.toArray (List.replicate k its.toArray)=(acc++(List.replicate k its).flatten).toArray
  | 0,acc=>by simp
  | k+1,acc=>by
    have e:acc.toArray++its.toArray=(acc++its).toArray:=by simp
    have e2:(acc++its)++(List.replicate k its).flatten=acc++(List.replicate (k+1) its).flatten:=by
      rw [List.replicate_succ,List.flatten_cons,List.append_assoc]
    rw [← e2,← ii its k (acc++its),← e,List.replicate_succ,List.foldl_cons]
section
variable {X:Cx}{pins:List (Addr×Obj)}{σ:St}{H:Hp}{s:Shared}{l b:Addr}{xs ys zs:List V}
theorem Inv.lset {its its':List Value}{n:Nat}{f:Array Value->Array Value}{t':Nat}(I:Inv X pins σ H s)(hH:H l=some (.lst xs))
    (e:s.heap.get? l=some { cls:=.type "list",data:=.seq its.toArray n })(hf:f its.toArray=its'.toArray)(hv:Vals ys its')(hz:ys.length<=sizeLine) :
    Inv X pins σ (upd H l (.lst ys)) { s with heap:=s.heap.update l (Obj.mapSeq f),toks:=t' }:=by
  have q:=PySem.IsL.update e f
  rw [hf] at q
  refine I.write (x:=l) (e:=l) (by rw [hH];exact trivial) (.inl rfl) (fun b' u hb hu=>(Heap.get?_update_other s.heap (Obj.mapSeq f) (Ne.symm hb)).trans hu) ⟨_,q⟩ ?_
  exact⟨hz,its',_,hv,q⟩
theorem Inv.lnew {its:List Value}{t':Nat}(I:Inv X pins σ H s)(hv:Vals ys its)(hz:ys.length<=sizeLine) :
    Inv X pins σ (upd H s.heap.objs.size (.lst ys)) { s with heap:=s.heap.push { cls:=.type "list",data:=.seq its.toArray },toks:=t' } :=
  I.laid (fun _ _ q=>Heap.get?_push_of_some _ q) (Nat.le_refl _) ⟨hz,its,0,hv,Heap.get?_push_size _ rfl⟩
theorem Inv.fresh (I:Inv X pins σ H s):H s.heap.objs.size=none:=I.hok.fresh (Nat.le_refl _)
theorem Inv.lstM (I:Inv X pins σ H s)(hH:H l=some (.lst xs)):xs.length<=sizeLine/\∃ (its:List Value) (n:Nat),Vals xs its/\xs.length=its.length/\s.heap.get? l=some { cls:=.type "list",data:=.seq its.toArray n }:=by
  obtain⟨z,its,n,r,e⟩:=I.hok l _ hH
  exact⟨z,its,n,r,r.length,e⟩
theorem jj {n:Nat}(h:n<=sizeLine):Builtin.List.listTooLong n=false:=by
  unfold Builtin.List.listTooLong
  exact decide_eq_false (by omega)
end
section
variable {X:Cx}
def nj:V->List V->Hp->VK->Prop:=fun x vs H Q=>∃ l xs y,x=.ref l/\vs=[y]/\H l=some (.lst xs)/\xs.length < sizeLine/\Q .non (upd H l (.lst (xs++[y])))
theorem cn:MtM X "list.append" nj:=by
  intro pins s σ H x vs v us Q I rx rv h
  obtain⟨l,xs,y,rfl,rfl,hH,hz,q⟩:=h
  cases rx
  obtain⟨u,rfl,ru⟩:=rv.one
  obtain⟨z,its,n,r,hl,e⟩:=I.lstM hH
  refine call_meets F.slot_list_append ⟨_,e,rfl⟩ F.entry_list_append (F.args_list_append_2 _ _) (PySem.list_append l its.toArray n u (by rw [List.size_toArray];omega)) ⟨e,?_⟩
  refine⟨.non,_,I.lset (its':=its++[u]) hH e (by simp) (r.append (.cons ru .nil)) ?_,rfl,q⟩
  rw [List.length_append,List.length_singleton]
  omega
def nc:V->List V->Hp->VK->Prop:=fun x vs H Q=>∃ l b xs zs,x=.ref l/\vs=[.ref b]/\H l=some (.lst xs)/\H b=some (.lst zs)/\xs.length+zs.length<=sizeLine/\Q .non (upd H l (.lst (xs++zs)))
theorem ov:MtM X "list.extend" nc:=by
  intro pins s σ H x vs v us Q I rx rv h
  obtain⟨l,b,xs,zs,rfl,rfl,hH,hB,hz,q⟩:=h
  cases rx
  obtain⟨u,rfl,ru⟩:=rv.one
  cases ru
  obtain⟨z,its,n,r,hl,e⟩:=I.lstM hH
  obtain⟨z2,its2,n2,r2,hl2,e2⟩:=I.lstM hB
  have hsz:its.toArray.size+its2.toArray.size<=sizeLine:=by rw [List.size_toArray,List.size_toArray];omega
  have hlong:¬ (!its.toArray.isEmpty && Builtin.List.listTooLong (its.toArray.size+its2.toArray.size))=true:=by
    rw [jj hsz,Bool.and_false]
    exact Bool.false_ne_true
  refine call_meets F.slot_list_extend ⟨_,e,rfl⟩ F.entry_list_extend (F.args_list_extend_2 _ _)
    (AutoSeq1.list_extend_list_list_0 l its.toArray n b its2.toArray n2 hlong (by rw [List.size_toArray];omega) (by omega)) ⟨e,e2,?_⟩
  refine⟨.non,_,I.lset (its':=its++its2) hH e (by simp) (r.append r2) ?_,rfl,q⟩
  rw [List.length_append]
  omega
def pR:V->List V->Hp->VK->Prop:=fun x vs H Q=>∃ l xs y,x=.ref l/\vs=[]/\H l=some (.lst xs)/\xs[xs.length - 1]? = some y/\Q y (upd H l (.lst xs.dropLast))
theorem oA:MtM X "list.pop" pR:=by
  intro pins s σ H x vs v us Q I rx rv h
  obtain⟨l,xs,y,rfl,rfl,hH,hy,q⟩:=h
  cases rx
  have hus:=rv.zero
  subst hus
  obtain⟨z,its,n,r,hl,e⟩:=I.lstM hH
  obtain⟨u,hu,ru⟩:=r.get hy
  have hy':its.toArray[its.toArray.size - 1]? = some u:=by
    show its.toArray[its.length - 1]? = some u
    rw [← Array.getElem?_toList,← hl]
    exact hu
  refine call_meets F.slot_list_pop ⟨_,e,rfl⟩ F.entry_list_pop (F.args_list_pop_1 _) (MeetsSeq.list_pop_last l its.toArray n u hy' (by rw [List.size_toArray];omega)) ⟨e,?_⟩
  refine⟨y,_,I.lset (its':=its.dropLast) hH e ?_ r.dropLast ?_,ru,q⟩
  · show its.toArray.eraseIdxIfInBounds (its.toArray.size - 1)=its.dropLast.toArray
    rw [List.size_toArray,List.eraseIdxIfInBounds_toArray,jH]
  · rw [List.length_dropLast]
    omega
def pH:R2:=fun x y H Q=>∃ l b xs zs,x=.ref l/\y=.ref b/\H l=some (.lst xs)/\H b=some (.lst zs)/\xs.length+zs.length<=sizeLine/\∀ p,H p=none->Q (.ref p) (upd H p (.lst (xs++zs)))
theorem fI:OpR X (binaryOp .Add) pH:=by
  intro pins s σ H x y v u Q I rx ry h
  obtain⟨l,b,xs,zs,rfl,rfl,hH,hB,hz,q⟩:=h
  cases rx
  cases ry
  obtain⟨z,its,n,r,hl,e⟩:=I.lstM hH
  obtain⟨z2,its2,n2,r2,hl2,e2⟩:=I.lstM hB
  refine PySem.P.add_list e e2 ?_ (by rw [List.size_toArray,List.size_toArray];omega)
  have ea:its.toArray++its2.toArray=(its++its2).toArray:=by simp
  rw [ea]
  exact⟨.ref _,_,I.lnew (t':=s.toks) (r.append r2) (by rw [List.length_append];omega),rfl,q _ I.fresh⟩
def pE:R2:=fun x y H Q=>∃ l k xs,x=.ref l/\y=.int k/\H l=some (.lst xs)/\-(2 ^ 63)<=k/\k < 2 ^ 63/\xs.length * k.toNat<=sizeLine ∧
  ∀ p,H p=none->Q (.ref p) (upd H p (.lst (List.replicate k.toNat xs).flatten))
theorem mL {α:Type}(xs:List α)(k:Nat):(List.replicate k xs).flatten.length=k * xs.length:=by
  induction k with
  | zero=>simp
  | succ k ih=>rw [List.replicate_succ,List.flatten_cons,List.length_append,ih,Nat.succ_mul,Nat.add_comm]
theorem oh:OpR X (binaryOp .Mult) pE:=by
  intro pins s σ H x y v u Q I rx ry h
  obtain⟨l,k,xs,rfl,rfl,hH,h1,h2,hz,q⟩:=h
  cases rx
  obtain⟨t,rfl⟩:=ry
  obtain⟨z,its,n,r,hl,e⟩:=I.lstM hH
  have hlen:its.toArray.size * k.toNat<=sizeLine:=by rw [List.size_toArray,← hl];exact hz
  have hcap:¬ its.toArray.size * k.toNat > (2 ^ 63 - 1) / 8:=by
    have:(sizeLine:Nat)<=(2 ^ 63 - 1) / 8:=by decide
    omega
  have hfit:¬ (!Builtin.List.listFitsIndex k)=true:=by
    rw [fitsIndex_both h1 h2]
    exact Bool.false_ne_true
  have hlong:¬ Builtin.List.listTooLong (its.toArray.size * k.toNat)=true:=by
    rw [jj hlen]
    exact Bool.false_ne_true
  have hnew:List.foldl (fun x1 x2=>x1++x2) #[] (List.replicate (if its.toArray.isEmpty=true then 0 else k.toNat) its.toArray)=(List.replicate k.toNat its).flatten.toArray:=by
    have f0:∀ m:Nat,List.foldl (fun x1 x2=>x1++x2) #[] (List.replicate m its.toArray)=(List.replicate m its).flatten.toArray:=fun m=>by
      have:=ii its m []
      rw [List.nil_append] at this
      exact this
    rw [f0]
    cases its with
    | nil=>simp
    | cons a r'=>rw [if_neg (by simp)]
  refine wpAny_binaryOp_repeat_ref (T := "list") (U := "int") (by decide) ⟨_,e,rfl⟩ (fun s'=>typeIs_int s' k t) noFill_list_mul F.fills_int_mul F.slot_int_rmul repeat_list F.slot_int_index.lookup
    (call_meets F.slot_int_rmul (typeIs_int s k t) F.entry_int_rmul (F.args_int_rmul_2 _ _) (int___rmul___int_list k t l its.toArray n)
      ⟨e,rfl,⟨_,e,rfl⟩,call_meets F.slot_list_mul ⟨_,e,rfl⟩ F.entry_list_mul (F.args_list_mul_2 _ _) (AutoListH.list___mul___list_int_3 l its.toArray n k t hfit hcap hlong) ⟨e,?_⟩⟩)
  rw [hnew]
  exact⟨.ref _,_,I.lnew (t':=s.toks) (r.rep k.toNat) (by rw [mL,Nat.mul_comm];exact hz),rfl,q _ I.fresh⟩
end
section
variable {prog:Program}{w:World}{A:Around}{E:Value->Shared->Prop}{s:Shared}
end
section
variable {X:Cx}
end
end L2
namespace Att
open PySem PySem.W PySem.Calls PyProof.Rows
theorem eJ {P:Params}{h:Heap}:∀ (ns:List Int) (vs:List Value),WellAll P h vs (ns.map WData.int)->IntsAre vs ns:=by
  intro ns
  induction ns with
  | nil =>
    intro vs w
    rw [List.map_nil] at w
    cases w
    exact .nil
  | cons n ns ih =>
    intro vs w
    rw [List.map_cons] at w
    cases w with
    | cons a b =>
      cases a
      exact .cons _ _ (ih _ b)
theorem ke {l:OpenLaw}{n:Nat}(hn:l.most=some n){P:Params}{h:Heap}{args:List WData}{vals:List Value}
    (hpre:l.row.toRowW.claim.pre args=true)(hwl:WellAll P h vals args) :
    ∃ a vs ns,vals=[Value.ref a]/\args=[WData.list (ns.map WData.int)]/\h.get? a=some { cls:=.type "list",data:=.seq vs.toArray }/\IntsAre vs ns/\ns.length<=n:=by
  have hsh:WShape.hasAll [] args [.list .int]=true:=(pre_splitW hpre).1
  have hc:l.pre.holds [] { args:=args }=true:=(pre_splitW hpre).2
  obtain⟨d,r,rfl,h1,h2⟩:=hasAllW_cons hsh
  obtain rfl:=hasAllW_nil h2
  obtain⟨xs,rfl,h3⟩:=hasW_list h1
  obtain⟨ns,rfl⟩:=items_int h3
  have hlen:ns.length<=n:=by
    unfold OpenLaw.pre at hc
    have h4:(WTm.not (.lt (.lit (.int (n:Int))) (.len (.arg 0)))).holds [] { args:=[.list (ns.map .int)] }=true:=by
      have h4:=(holds_andW hc).1
      rw [hn] at h4
      exact h4
    have h5:=condW_of h4 (w_not (w_lt w_lit (w_len_list (w_arg rfl))))
    rw [List.length_map] at h5
    refine Nat.le_of_not_lt fun q=>?_
    have q':(n:Int) < ((ns.length:Nat):Int):=by omega
    first
      | (rw [decide_eq_true q'] at h5;exact absurd h5 (by decide))
      | (simp at h5;omega)
  cases hwl with
  | cons w1 w2 =>
    cases w2
    cases w1 with
    | list ho hall=>exact⟨_,_,ns,rfl,rfl,ho,eJ ns _ hall,hlen⟩
theorem kN (l:OpenLaw)(args:List WData):l.row.toRowW.claim.post args (.bool true) args=true :=
  postW_of (r:=l.row.toRowW) (X:=(true == true))
    (show WShape.has [] (.bool true) .bool=true by first | rfl | decide | simp [WShape.has,WShape.arms,WShape.armsAll])
    (show (WTm.eq .res (.lit (.bool true))).value [] { args:=args,res:=some (.bool true),after:=args }=some (.bool (true == true)) from w_eq_bool (w_res rfl) w_lit) rfl
theorem attach_call {l:OpenLaw}{n:Nat}{q:Program}{loose:List Str}{XP:(Str->Option Value)->Heap->Prop}{YP:World->Heap->Prop}{d:DefRec}
    (hn:l.most=some n)(hdf:d.params.defaults=[])
    (call:∀ (w:World) (s₀ s₁:Shared) (mg mb:Str->Option Value) (fa:Addr) (o:Obj) (pm cd doc:Value) (a:Addr) (vs:List Value) (ns:List Int),
      Ground q loose [] XP w s₀ mg mb s₁.heap->YP w s₁.heap →
      s₁.heap.get? fa=some o->o.data=.func (docDef d.name d.params d.body d.scope pm cd doc)->s₁.heap.CodeRec cd d.name->mg d.name=some (.ref fa) →
      s₁.heap.get? a=some { cls:=.type "list",data:=.seq vs.toArray }->IntsAre vs ns->ns.length<=n->s₁.gens=#[] →
      codeAny (model l.prog w) callerA (.call (.ref fa) ⟨[.ref a],[]⟩) (fun r s'=>r=.ok (.ret (.bool true))/\OldK s₁.heap s'.heap/\s'.os=s₁.os/\AllBare s'.gens) s₁) :
    WalkO q loose XP YP l.row.toRowW d [] (fun f vs=>PySem.call f vs):=by
  intro w s₀ s₁ mg mb G Y fa o pm cd doc dV kV ho hd hcd hD hmg hg args vals as hpre hlay hrd hwl hlo
  obtain rfl:dV=.none:=Dflts.none hD hdf
  obtain rfl:kV=.none:=Dflts.noKw hD
  obtain⟨a,vs,ns,rfl,rfl,hobj,hints,hlen⟩:=ke hn hpre hwl
  refine enter_call (codeAny_mono (call w s₀ s₁ mg mb fa o pm cd doc a vs ns G Y ho (fd_plain hd) hcd hmg hobj hints hlen hg) fun r s' hq=>?_)
  obtain⟨rfl,h2,h3,h4⟩:=hq
  exact⟨.inl ⟨.bool true,.bool true,[],rfl,fun _=>rfl,.bool true,kN l _,fun _=>⟨List.Pairwise.nil,fun _ hm=>(nomatch hm)⟩⟩,h2,h3,h4⟩
section
variable {prog:Program}{w:World}{A:Around}{E:Value->Shared->Prop}{s:Shared}{K:Frag}
end
end Att
namespace L2
open PySem PySem.Spec PyProof.Rows
theorem g9:∀ {vs:List Value} {ns:List Int},IntsAre vs ns->Vals (ns.map V.int) vs
  | _,_,.nil=>.nil
  | _,_,.cons n t h=>.cons ⟨t,rfl⟩ (g9 h)
def o2 (H:Hp):Prop:=∀ b,H b=none\/∃ o xs,H b=some (.frz o (.lst xs))
theorem lL {P:Program}{w:World}{K:PySem.W.Frag}{mg mb:Str->Option Value}{CX:CXT}{k:Nat}{fa a:Addr}{fd:FuncData}{x:Str}{sp:Sp}{s₁:Shared}{vs:List Value}{ns:List Int}
    (KX:K.In s₁.heap)(hns:s₁.heap.Ns mainGlobals mg)(hb:s₁.heap.Ns builtinsNs mb)(hbb:∀ x:Str,x ≠ "__name__" → mb x=bootBuiltins x)(hlim:s₁.heap.NoLimit)(hg:s₁.gens=#[])
    (ha:s₁.heap.get? a=some { cls:=.type "list",data:=.seq vs.toArray })(hi:IntsAre vs ns)(hl:ns.length<=sizeLine)(hr:Room k callerA)
    (F:∀ base:Heap,K.In base->base.Ns mainGlobals mg->FnOk P w K mg base CX k fa fd [x] sp)(hbind:∀ (s:Shared) (u:Value),BindsTo s fd ⟨[u],[]⟩ [(x,u)])
    (hsp:∀ H:Hp,o2 H->SqL K H a (ns.map V.int)->sp [.ref a] H (fun v _=>v=.bl true) fun _ _ _=>False)
    (hCX:∀ H e s',CX [] H s₁ (fun _ _ _=>False) e s'->False) :
    codeAny (model P w) callerA (.call (.ref fa) ⟨[.ref a],[]⟩) (fun r s'=>r=.ok (.ret (.bool true))/\OldK s₁.heap s'.heap/\s'.os=s₁.os/\AllBare s'.gens) s₁:=by
  have rv:=g9 hi
  have lenV:=hi.length
  have core:∀ H:Hp,o2 H->SqL K H a (ns.map V.int)->HOk P w H s₁.heap->(∀ b,H b≠none->b=a)->(H a≠none->K.lookup a=none) →
      codeAny (model P w) callerA (.call (.ref fa) ⟨[.ref a],[]⟩) (fun r s'=>r=.ok (.ret (.bool true))/\OldK s₁.heap s'.heap/\s'.os=s₁.os/\AllBare s'.gens) s₁:=by
    intro H hO hS hok hA hK
    have base_of:∀ {b:Addr} {o:Obj},s₁.heap.get? b=some o->H b=none->(lr s₁.heap H).get? b=some o:=fun e n=>lT e n
    have noA:∀ {b:Addr} {o:Obj} {es:Array DictEntry} {ep:Nat},s₁.heap.get? b=some o->o.data=.dict es ep->H b=none:=fun {b o es ep} e d=>by
      cases q:H b with
      | none=>rfl
      | some u =>
        have e':b=a:=hA b (by rw [q];simp)
        subst e'
        rw [ha] at e;cases e
        have d':Data.seq vs.toArray _=Data.dict es ep:=d
        cases d'
    have nsK:∀ {b:Addr} {m:Str->Option Value},s₁.heap.Ns b m->(lr s₁.heap H).Ns b m:=fun {b m} ⟨o,es,ep,e,d,r⟩=>⟨o,es,ep,base_of e (noA e d),d,r⟩
    have hKb:K.In (lr s₁.heap H):=fun b o e=>base_of (KX b o e) (by
      cases q:H b with
      | none=>rfl
      | some u =>
        have e':b=a:=hA b (by rw [q];simp)
        subst e'
        rw [hK (by rw [q];simp)] at e;cases e)
    have hM:Mod K mg (lr s₁.heap H):=⟨hKb,nsK hns,⟨mb,nsK hb,hbb⟩,let ⟨mc,h1,h2⟩:=hlim;⟨mc,nsK h1,h2⟩⟩
    have e0:oK P w K mg (lr s₁.heap H) callerA [] s₁ H:=⟨rfl,hM,fun b o e=>mJ e,Nat.le_of_eq (kR _ _),trivial,fun b hb=>absurd (show b∈([]:List Addr) from hb) (by simp),hok,.of_eq hg⟩
    refine codeAny_mono ((F _ hKb (nsK hns)).run callerA [] s₁ H ⟨[.ref a],[]⟩ [.ref a] [.ref a] _ _ hr e0 (hbind s₁ (.ref a)) (.cons rfl .nil) (hsp H hO hS)) fun r s' h=>?_
    cases r with
    | error e=>exact (hCX H e s' h).elim
    | ok fl =>
      cases fl with
      | next=>exact False.elim h
      | brk=>exact False.elim h
      | cont=>exact False.elim h
      | ret u =>
        obtain⟨v,H',os,bare,un,hok',r',q⟩:=h
        have q':v=.bl true:=q
        subst q'
        obtain rfl:u=Value.bool true:=r'
        refine⟨rfl,OldK.of_keep fun b o e=>?_,os,bare⟩
        cases q:H b with
        | none=>exact un.keep b o e q (by intro z;exact absurd (show b∈([]:List Addr) from z) (by simp)) (by simp)
        | some u =>
          rcases hO b with z | ⟨ob,xs,z⟩
          · rw [q] at z;cases z
          · have z2:=un.frzs b ob _ z
            obtain⟨e1,_⟩:=hok b _ z
            obtain⟨e2,_⟩:=hok' b _ z2
            rw [e] at e1;cases e1
            exact e2
  cases hk:K.lookup a with
  | some o =>
    have e:=KX a o hk
    rw [ha] at e
    cases e
    refine core (fun _=>none) (fun _=>.inl rfl) (.inr ⟨_,vs.toArray,_,hk,rfl,rfl,rfl,by rw [List.size_toArray,lenV];exact hl,by simpa using rv⟩) (fun b u z=>by have z':(none:Option HO)=some u:=z;cases z') (fun b z=>absurd rfl z) fun z=>absurd rfl z
  | none =>
    refine core (fun b=>if b=a then some (.frz { cls:=.type "list",data:=.seq vs.toArray } (.lst (ns.map V.int))) else none) (fun b=>?_) (.inl (.inr ⟨{ cls:=.type "list",data:=.seq vs.toArray },if_pos rfl⟩)) (fun b u z=>?_) (fun b z=>?_) fun _=>hk
    · by_cases hb:b=a
      · exact .inr ⟨_,_,if_pos hb⟩
      · exact .inl (if_neg hb)
    · by_cases hb:b=a
      · have z':=(if_pos hb).symm.trans z
        cases z'
        subst hb
        exact⟨ha,by rw [List.length_map];exact hl,vs,_,rv,ha⟩
      · have z':=(if_neg hb).symm.trans z
        cases z'
    · by_cases hb:b=a
      · exact hb
      · exact absurd (if_neg hb) z
theorem walk_of {l:PySem.W.OpenLaw}{n k:Nat}{q:Program}{loose:List Str}{XP:(Str->Option Value)->Heap->Prop}{YP:World->Heap->Prop}{d:DefRec}{K:Params->PySem.W.Frag}{CX:World->CXT}{sp:World->Sp}{x:Str}
    (hn:l.most=some n)(hn2:n<=sizeLine)(hdf:d.params.defaults=[])(hr:Room k callerA)
    (hY:∀ (w:World) (h:Heap),YP w h->(K w.params).In h)
    (F:∀ (w:World) (mg:Str->Option Value) (fa:Addr) (h:Heap),(K w.params).In h->h.Ns mainGlobals mg->mg d.name=some (.ref fa) →
      ∃ fd:FuncData,(∀ (s:Shared) (u:Value),BindsTo s fd ⟨[u],[]⟩ [(x,u)]) ∧
        ∀ base:Heap,(K w.params).In base->base.Ns mainGlobals mg->FnOk l.prog w (K w.params) mg base (CX w) k fa fd [x] (sp w))
    (hsp:∀ (w:World) (H:Hp) (a:Addr) (ns:List Int),ns.length<=n->o2 H->SqL (K w.params) H a (ns.map V.int)->sp w [.ref a] H (fun v _=>v=.bl true) fun _ _ _=>False)
    (hCX:∀ (w:World) (H:Hp) (s:Shared) (e:Value) (s':Shared),CX w [] H s (fun _ _ _=>False) e s'->False) :
    PySem.W.WalkO q loose XP YP l.row.toRowW d [] (fun f vs=>PySem.call f vs):=by
  refine Att.attach_call hn hdf fun w s₀ s₁ mg mb fa o pm cd doc a vs ns G Y ho hd hcd hmg hobj hints hlen hg=>?_
  have KX:=hY w _ Y
  obtain⟨fd,hb,hF⟩:=F w mg fa _ KX G.T.g hmg
  exact lL KX G.T.g G.T.b G.T.builtins G.T.nolimit hg hobj hints (Nat.le_trans hlen hn2) hr hF hb (fun H hO hS=>hsp w H a ns hlen hO hS) fun H e s'=>hCX w H s₁ e s'
def az (s:Stmt):Arguments:=match s with
  | .FunctionDef _ a _ _ _ _ _ _ _ _=>a
  | _=>{ posonlyargs:=[],args:=[],vararg:=none,kwonlyargs:=[],kw_defaults:=[],kwarg:=none,defaults:=[] }
def av (s:Stmt):List Stmt:=match s with
  | .FunctionDef _ _ b _ _ _ _ _ _ _=>b
  | _=>[]
def ag (s:Stmt):Scope:=match s with
  | .FunctionDef _ _ _ _ _ _ sc _ _ _=>sc
  | _=>{ kind:=.function,names:=[],isGenerator:=false,isCoroutine:=false }
abbrev CX0:CXT:=fun _ _ _ _ _ _=>False
abbrev E0:XK:=fun _ _ _=>False
theorem aG {X:Cx}:kS CX0 X E0:=fun _ _ _ _ _ _ _ h=>h.elim
structure Fun (K:PySem.W.Frag)(x qual:Str)(st:Stmt)(f:Addr)(fd:FuncData):Prop where
  ex:∃ (oc:Value) (od:Option Addr) (kV doc pm:Value) (an:Option Addr) (cdv ct:Value) (osl:Array (Option Value)),
    fd=PySem.W.fnOf x qual (az st) (av st) (ag st) .none kV doc pm an cdv ct/\K.lookup f=some ⟨oc,od,.func fd,osl⟩/\PySem.W.codeIn K cdv qual=true
  kp:PySem.W.keepIn K (.ref f)=true
section
variable {P:Program}{w:World}{K:PySem.W.Frag}{mg:Str->Option Value}{base:Heap}
theorem Fun.ok {x qual:Str}{st:Stmt}{f:Addr}{fd:FuncData}{N ps:List Str}{k:Nat}{sp:Sp}(F:Fun K x qual st f fd)(S:aB N ps (ag st))(len:∀ vs H Q E,sp vs H Q E->vs.length=ps.length)
    (hbody:∀ (cdv:Value) (A:Around) (outer:List Env) (s:Shared) (H:Hp) (vs:List V) (Q:VK) (E:XK),Room k (A.deeper (envOfC qual (ag st) s.heap.objs.size f cdv))->sp vs H Q E →
      ∃ t,PSs (ld CX0 P w K mg base N qual (ag st) f cdv A outer s H E).nox (av st) t/\t { nx:=fun _ H'=>Q .non H',rt:=Q } (gO N vs) H):FnOk P w K mg base CX0 (k+1) f fd ps sp:=by
  obtain⟨oc,od,kV,doc,pm,an,cdv,ct,osl,rfl,lk,hcd⟩:=F.ex
  refine o5 lk hcd S len fun A outer s H vs Q E hr hsp=>?_
  obtain⟨t,h,q⟩:=hbody cdv A outer s H vs Q E hr hsp
  exact⟨t,h.nox,q⟩
theorem Fun.binds {x qual:Str}{st:Stmt}{f:Addr}{fd:FuncData}{ps:List Str}(F:Fun K x qual st f fd)
    (h:∀ (kV doc pm:Value) (an:Option Addr) (cdv ct:Value) (us:List Value),us.length=ps.length->bindArgs (PySem.W.fnOf x qual (az st) (av st) (ag st) .none kV doc pm an cdv ct) ⟨us,[]⟩=pure (ps.zip us)):Binds K fd ps []:=by
  obtain⟨oc,od,kV,doc,pm,an,cdv,ct,osl,rfl,lk,hcd⟩:=F.ex
  exact .all (h kV doc pm an cdv ct)
theorem bd {x qual:Str}{st:Stmt}{f:Addr}{oc:Value}{od an:Option Addr}{osl:Array (Option Value)}{kV doc pm cdv ct:Value}(l:K.lookup f=some ⟨oc,od,.func (PySem.W.fnOf x qual (az st) (av st) (ag st) .none kV doc pm an cdv ct),osl⟩)
    (c:PySem.W.codeIn K cdv qual=true)(k:PySem.W.keepIn K (.ref f)=true):Fun K x qual st f (PySem.W.fnOf x qual (az st) (av st) (ag st) .none kV doc pm an cdv ct):=⟨⟨oc,od,kV,doc,pm,an,cdv,ct,osl,rfl,l,c⟩,k⟩
end
theorem jx {A:Around}{k:Nat}(hr:Room k A):A.units+1 < cLine:=Nat.lt_of_le_of_lt (Nat.add_le_add_left (by decide:1<=64) _) hr.units
theorem bt {n:Nat}(h:n<=1000):n < sizeLine:=Nat.lt_of_le_of_lt h (by decide)
section
variable {X:Cx}
theorem pv (i:Nat){x:Str}{pos:Pos}(hN:X.N[i]? = some x:=by rfl)(hv:Vis X.env.scope x:=by first | exact Or.inl rfl | exact Or.inr (Or.inl rfl) | exact Or.inr (Or.inr rfl))(hd:(x == ("__debug__" : Str))=false:=by decide)
    (hcd:(x == ("__classdict__" : Str))=false:=by decide):PE X (.Name x pos) (px i):=ot hN hv hd hcd
end
theorem dM {A B:Prop}(h:B):if false=true then A else B:=by
  rw [if_neg Bool.false_ne_true]
  exact h
theorem ip {A B:Prop}(h:A):if true=true then A else B:=by
  rw [if_pos rfl]
  exact h
theorem jR {c A B:Prop}[Decidable c](h1:c->A)(h2:¬ c->B):if c then A else B:=by
  by_cases h:c
  · rw [if_pos h]
    exact h1 h
  · rw [if_neg h]
    exact h2 h
def Same (H H':Hp):Prop:=∀ b o,H b=some o->H' b=some o
theorem Same.refl (H:Hp):Same H H:=fun _ _ h=>h
theorem Same.trans {H H1 H2:Hp}(a:Same H H1)(b:Same H1 H2):Same H H2:=fun c o h=>b c o (a c o h)
theorem Same.free {H H':Hp}(e:Same H H'){l:Addr}(h:H' l=Option.none):H l=Option.none:=by
  cases q:H l with
  | none=>rfl
  | some o =>
    rw [e l o q] at h
    cases h
theorem Same.seq {K:PySem.W.Frag}{H H':Hp}{a:Addr}{xs:List V}(e:Same H H')(h:SqL K H a xs):SqL K H' a xs:=by
  rcases h with (h | ⟨o,h⟩) | h
  · exact .inl (.inl (e _ _ h))
  · exact .inl (.inr ⟨o,e _ _ h⟩)
  · exact .inr h
section
variable {κ:Type}[DecidableEq κ]
end
section
variable {P:Program}{w:World}{H:Hp}{h:Heap}{a:Addr}
end
section
variable {X:Cx}{pins:List (Addr×Obj)}{σ:St}{H:Hp}{s:Shared}{a:Addr}{y v:V}{u r:Value}{o:Option V}{A:Around}{E:Value->Shared->Prop}
end
section
variable {X:Cx}{pins:List (Addr×Obj)}{σ:St}{H:Hp}{s:Shared}{a:Addr}{kvs:List (Key×V)}{k:Key}{u:Value}{A:Around}{E:Value->Shared->Prop}
end
section
variable {X:Cx}{o i e value:Expr}{pos pos' tpos:Pos}{td ty tv:TE}
end
section
variable {X:Cx}{pos:Pos}
end
structure M1 (X:Cx)(o:Expr)(m:Str)(apos:Pos)(e:Expr)(cpos:Pos):Prop where
  base:attributeBase o m X.env (eval o X.env)=eval o X.env
  few:((backTo cpos (starEach [e] X.env)).all (fun x=>!x.1) && (backToKw cpos (keywordEach [] X.env)).all (fun x=>x.1.isSome)
    && decide (([e]:List Expr).length+([]:List Keyword).length+(if ([]:List Keyword).isEmpty then 0 else 1) < 30))=true
  line:(apos.endLine == cpos.line)=true
  trees:backTo cpos (starEach [e] X.env)=[(false,eval e X.env)]
structure M2 (X:Cx)(o:Expr)(m:Str)(apos:Pos)(e f:Expr)(cpos:Pos):Prop where
  base:attributeBase o m X.env (eval o X.env)=eval o X.env
  few:((backTo cpos (starEach [e,f] X.env)).all (fun x=>!x.1) && (backToKw cpos (keywordEach [] X.env)).all (fun x=>x.1.isSome)
    && decide (([e,f]:List Expr).length+([]:List Keyword).length+(if ([]:List Keyword).isEmpty then 0 else 1) < 30))=true
  line:(apos.endLine == cpos.line)=true
  trees:backTo cpos (starEach [e,f] X.env)=[(false,eval e X.env),(false,eval f X.env)]
section
variable {X:Cx}{pins:List (Addr×Obj)}{σ:St}{H:Hp}{s:Shared}{a:Addr}{y d:V}{u r:Value}{o:Option V}{A:Around}{E:Value->Shared->Prop}
end
section
variable {X:Cx}{o e f:Expr}{apos cpos:Pos}{td ty tx:TE}
end
section
variable {X:Cx}{pins:List (Addr×Obj)}{σ:St}{H:Hp}{s:Shared}{a:Addr}{kvs:List (Key×V)}{A:Around}{E:Value->Shared->Prop}
end
section
variable {X:Cx}{pins:List (Addr×Obj)}{σ:St}{H:Hp}{s:Shared}{a:Addr}{y:V}{u:Value}{A:Around}{E:Value->Shared->Prop}
end
def ju (env:Env):List (Str×NameKind)->List (Str×Addr)->List (Str×Addr)
  | [],cs=>cs
  | (n,k)::r,cs=>ju env r (if k=.free then (n,(env.cells.lookup n).getD 0)::cs else cs)
theorem kh {env:Env}:∀ (ns:List (Str×NameKind)) (cs:List (Str×Addr)),(∀ x∈ns,x.2=.free->∃ c,env.cells.lookup x.1=some c) →
    (forIn (m:=Sem) ns cs fun (x:Str×NameKind) (r:List (Str×Addr))=>(if (x.2 == .free)=true then (do let a ← cellOf env x.1;pure (ForInStep.yield ((x.1,a)::r))) else pure (ForInStep.yield r)))=pure (ju env ns cs)
  | [],cs,_=>by simp [ju]
  | (n,k)::r,cs,h=>by
    have ih:=fun cs=>kh r cs fun x hx=>h x (List.mem_cons_of_mem _ hx)
    rw [List.forIn_cons]
    by_cases hk:k=.free
    · subst hk
      obtain⟨c,hc⟩:=h (n,.free) List.mem_cons_self rfl
      have e1:cellOf env n=pure c:=by unfold cellOf;rw [hc]
      have hb:(NameKind.free == NameKind.free)=true:=rfl
      simp only [hb,if_true,e1,pure_bind,ju,hc,Option.getD_some]
      exact ih _
    · have hb:(k == NameKind.free)=false:=by simpa using hk
      simp only [hb,Bool.false_eq_true,if_false,pure_bind,ju,if_neg hk]
      exact ih _
theorem jm {env:Env}:∀ (ns:List (Str×NameKind)) (cs:List (Str×Addr)) (x:Str) (c:Addr),(∀ x∈ns,x.2=.free->∃ c,env.cells.lookup x.1=some c)->(ju env ns cs).lookup x=some c->cs.lookup x=some c\/env.cells.lookup x=some c
  | [],cs,x,c,_,e=>.inl e
  | (n,k)::r,cs,x,c,h,e=>by
    have ih:=jm r (if k=.free then (n,(env.cells.lookup n).getD 0)::cs else cs) x c (fun x hx=>h x (List.mem_cons_of_mem _ hx)) e
    rcases ih with ih | ih
    · by_cases hk:k=.free
      · subst hk
        rw [if_pos rfl] at ih
        obtain⟨d,hd⟩:=h (n,.free) List.mem_cons_self rfl
        have hd':env.cells.lookup n=some d:=hd
        rw [hd'] at ih
        rw [List.lookup_cons] at ih
        cases hx:x == n with
        | true =>
          rw [hx] at ih
          have:x=n:=by simpa using hx
          subst this
          right
          rw [hd']
          exact ih
        | false =>
          rw [hx] at ih
          exact .inl ih
      · rw [if_neg hk] at ih
        exact .inl ih
    · exact .inr ih
theorem g8 {env:Env}:∀ (ns:List (Str×NameKind)) (cs:List (Str×Addr)) (x:Str),(∃ c,cs.lookup x=some c)->∃ c,(ju env ns cs).lookup x=some c
  | [],_,_,h=>h
  | (n,k)::r,cs,x,h=>by
    refine g8 r _ x ?_
    split
    · rw [List.lookup_cons]
      split
      · exact⟨_,rfl⟩
      · exact h
    · exact h
theorem gc {env:Env}:∀ (ns:List (Str×NameKind)) (cs:List (Str×Addr)) (x:Str),(x,NameKind.free)∈ns->∃ c,(ju env ns cs).lookup x=some c
  | [],_,_,h=>nomatch h
  | (n,k)::r,cs,x,h=>by
    rcases List.mem_cons.mp h with e | h
    · cases e
      refine g8 r _ _ ⟨(env.cells.lookup n).getD 0,?_⟩
      rw [if_pos rfl,List.lookup_cons,beq_self_eq_true]
    · exact gc r _ x h
theorem jO {scope:Scope}{env:Env}(h:∀ x∈scope.names,x.2=.free->∃ c,env.cells.lookup x.1=some c):closureFor scope env=pure (ju env scope.names []):=by
  have e:=kh scope.names [] h
  unfold closureFor
  simp only [] at e ⊢
  rw [e]
  rfl
theorem eO {scope:Scope}{env:Env}{x:Str}{k:NameKind}:(relabel scope env).names.lookup x=some k->∃ k',(x,k')∈scope.names/\(k=k'\/(k'=.free/\k=.cell)):=by
  intro h
  have all:∀ (ns:List (Str×NameKind)),(ns.map fun (n,k)=>if (k == NameKind.free && env.scope.kind == .function && env.kindOf n == some .cell) then (n,NameKind.cell) else (n,k)).lookup x=some k->∃ k',(x,k')∈ns/\(k=k'\/(k'=.free/\k=.cell)):=by
    intro ns
    induction ns with
    | nil=>intro h;simp at h
    | cons y r ih =>
      obtain⟨n,k'⟩:=y
      intro h
      rw [List.map_cons,List.lookup_cons] at h
      by_cases hc:(k' == NameKind.free && env.scope.kind == .function && env.kindOf n == some .cell)=true
      · simp only [hc,if_true] at h
        cases hx:x == n with
        | true =>
          rw [hx] at h
          have e:x=n:=by simpa using hx
          subst e
          have hk:k'=.free:=by
            simp only [Bool.and_eq_true] at hc
            simpa using hc.1.1
          exact⟨k',List.mem_cons_self,.inr ⟨hk,(Option.some.inj h).symm⟩⟩
        | false =>
          rw [hx] at h
          obtain⟨k2,h1,h2⟩:=ih h
          exact⟨k2,List.mem_cons_of_mem _ h1,h2⟩
      · simp only [hc,Bool.false_eq_true,if_false] at h
        cases hx:x == n with
        | true =>
          rw [hx] at h
          have e:x=n:=by simpa using hx
          subst e
          exact⟨k',List.mem_cons_self,.inl (Option.some.inj h).symm⟩
        | false =>
          rw [hx] at h
          obtain⟨k2,h1,h2⟩:=ih h
          exact⟨k2,List.mem_cons_of_mem _ h1,h2⟩
  exact all scope.names h
def Cx.comp (X:Cx)(scope:Scope)(N':List Str)(C:Addr)(fp:List Addr)(s₀:Shared)(H₀:Hp):Cx :=
  { X with N:=N',s₀:=s₀,H₀:=H₀,env:=compEnvC scope (ju X.env scope.names []) C X.env,outer:=X.stack,stack:=X.stack,ex:=fp,fn:=fun _=>false,pn:=[],xe:=fun _ _=>False }
structure CompScope (X:Cx)(scope:Scope):Prop where
  kind:scope.kind=.function
  nocell:∀ x∈scope.names,x.2≠.cell
  loc:∀ x∈scope.names,x.2=.local->scope.names.lookup x.1=some .local
  free:∀ x∈scope.names,x.2=.free->X.env.kindOf x.1=some .cell
section
variable {X:Cx}{pins:List (Addr×Obj)}{σ:St}{H:Hp}{s:Shared}{scope:Scope}{N':List Str}{fp:List Addr}
theorem CompScope.cells (S:CompScope X scope)(ok:X.Ok):∀ x∈scope.names,x.2=.free->∃ c,X.env.cells.lookup x.1=some c:=fun x hx hk=>ok.has x.1 (.inl (S.free x hx hk))
theorem CompScope.sub (S:CompScope X scope)(ok:X.Ok){x:Str}{c:Addr}(e:(ju X.env scope.names []).lookup x=some c):X.env.cells.lookup x=some c:=by
  rcases jm scope.names [] x c (S.cells ok) e with h | h
  · cases h
  · exact h
theorem CompScope.ok (S:CompScope X scope)(I:Inv X pins σ H s)(hf:∀ b∈fp,jQ X pins H b)(ho:∀ b∈fp,b < s.heap.objs.size):(X.comp scope N' s.heap.objs.size fp s H).Ok where
  mod:=I.ok.mod
  kind:=S.kind
  glob:=I.ok.glob
  blt:=I.ok.blt
  above:=Nat.le_refl _
  inj:=fun x y c e1 e2=>I.ok.inj x y c (S.sub I.ok e1) (S.sub I.ok e2)
  has:=fun x hx=>by
    have hx':(relabel scope X.env).names.lookup x=some .cell\/(relabel scope X.env).names.lookup x=some .free:=hx
    have fr:(x,NameKind.free)∈scope.names:=by
      rcases hx' with h | h
      · obtain⟨k',h1,h2⟩:=eO h
        rcases h2 with h2 | ⟨h2,_⟩
        · subst h2;exact absurd rfl (S.nocell _ h1)
        · subst h2;exact h1
      · obtain⟨k',h1,h2⟩:=eO h
        rcases h2 with h2 | ⟨h2,h3⟩
        · subst h2;exact h1
        · cases h3
    exact gc scope.names [] x fr
  cab:=fun x c h _=>by cases h
  hd:=I.ok.hd
  frames:=I.ok.frames
  stk:=.inl rfl
  exf:=fun b hb=>⟨Nat.ne_of_lt (ho b hb),fun x c e=>(hf b hb).2.2.2.2.1 x c (S.sub I.ok e)⟩
  bs:=I.bs
  bsz:=Nat.le_trans I.ok.bsz I.sz
  noex:=fun b o e hb=>by
    rcases (hf b hb).2.2.2.1 with h | h
    · exact I.ok.noex b o e h
    · exact absurd (Nat.lt_of_lt_of_le (Heap.lt_size e) (Nat.le_trans I.ok.bsz h)) (Nat.lt_irrefl _)
  exfs:=fun b hb hs=>by
    rcases List.mem_cons.mp (I.stkSub b hs) with h | h
    · exact (hf b hb).2.1 h
    · exact (hf b hb).2.2.1 h
  funs:=I.stack
  frf:=I.stkFree
def d6 (nl:Nat)(ix:List Nat)(σ:St):St:=List.replicate nl none++ix.map fun j=>(σ[j]?).join
structure oR (X:Cx)(scope:Scope)(N':List Str)(nl:Nat)(ix:List Nat):Prop where
  len:N'.length=nl+ix.length
  at':∀ (k j:Nat),ix[k]? = some j->∃ x,X.N[j]? = some x/\N'[nl+k]? = some x/\X.env.kindOf x=some .cell/\(relabel scope X.env).names.lookup x=some .cell/\(x,NameKind.free)∈scope.names
theorem lO {nl:Nat}{ix:List Nat}{h1:Heap}{tk:Nat}(S:CompScope X scope)(Cp:oR X scope N' nl ix)(I:Inv X pins σ H s)(hf:∀ b∈fp,jQ X pins H b)(ho:∀ b∈fp,b < s.heap.objs.size)
    (hn:h1.Ns s.heap.objs.size (fun _=>none))(hk:∀ b o,s.heap.get? b=some o->h1.get? b=some o):Inv (X.comp scope N' s.heap.objs.size fp s H) [] (d6 nl ix σ) H { s with heap:=h1,toks:=tk }:=by
  have ok:=S.ok (N':=N') I hf ho
  refine⟨ok,rfl,I.bare,Un.kept hk,⟨_,hn,fun i x v e1 e2 e3=>?_⟩,fun x c e=>?_,I.hok.fresh (Nat.le_refl _),fun x c e=>I.freeC x c (S.sub I.ok e),fun p hp=>by simp [Cx.comp] at hp,I.hok.kept hk,?_⟩
  · unfold d6 at e2
    rw [List.getElem?_append] at e2
    split at e2
    · rw [List.getElem?_replicate] at e2
      split at e2<;>simp at e2
    · rename_i hi
      rw [List.length_replicate] at hi e2
      rw [List.getElem?_map] at e2
      cases ej:ix[i - nl]? with
      | none=>rw [ej] at e2;simp at e2
      | some j =>
        rw [ej] at e2
        have e2':(σ[j]?).join=some v:=by simpa using e2
        have e2'':σ[j]? = some (some v):=by
          cases q:σ[j]? with
          | none=>rw [q] at e2';simp at e2'
          | some z=>rw [q] at e2';simp at e2';rw [e2']
        obtain⟨x',a1,a2,a3,a4,a5⟩:=Cp.at' _ _ ej
        have hi2:nl+(i - nl)=i:=by omega
        rw [hi2] at a2
        have e1':N'[i]? = some x:=e1
        rw [a2] at e1'
        cases e1'
        obtain⟨m,hm,hl⟩:=I.loc
        obtain⟨u,r,l⟩:=hl j x v a1 e2'' (.inr (.inl a3))
        refine⟨u,r,?_⟩
        rcases l with ⟨k,_⟩ | ⟨_,c,ec,z⟩
        · rw [k] at a3;cases a3
        · obtain⟨c',hc'⟩:=gc (env:=X.env) scope.names [] x a5
          have ec':=S.sub I.ok hc'
          rw [ec] at ec'
          cases ec'
          obtain⟨o,ho',hd⟩:=z
          exact .inr ⟨.inl a4,c,hc',o,hk _ _ ho',hd⟩
  · obtain⟨v,o,ho',hd⟩:=I.cell x c (S.sub I.ok e)
    exact⟨v,o,hk _ _ ho',hd⟩
  · show (d6 nl ix σ).length=N'.length
    unfold d6
    rw [List.length_append,List.length_replicate,List.length_map,Cp.len]
theorem j9 {H':Hp}{σ':St}{pins':List (Addr×Obj)}{s':Shared}{h':Heap}(I:Inv X pins σ H s)(hf:∀ b∈fp,jQ X pins H b)
    (I':Inv (X.comp scope N' s.heap.objs.size fp s H) pins' σ' H' s')(hs:Heap.SameBut s.heap.objs.size s'.heap h'):Inv X pins σ H' { s' with heap:=h' }:=by
  have lo:∀ b o,s.heap.get? b=some o->b≠s.heap.objs.size:=fun b o e=>Nat.ne_of_lt (Heap.lt_size e)
  have B:=I'.base
  refine I.call' (ch:=fp) (show s'.os=s.os from I'.os) ⟨fun b o e n hb hx=>?_,fun b o e n hb hx=>?_,fun b o e n hx=>B.free b o e n hx,fun b o e hx=>?_,B.tups,B.frzs,B.tbls⟩ (fun b u e=>?_) I'.bare fun b hb=>⟨(hf b hb).2.2.2.1,(hf b hb).2.1,(hf b hb).2.2.2.2.1,(hf b hb).2.2.2.2.2⟩
  · exact (hs.2 b (lo b o e)).trans (B.keep b o e n hb hx)
  · obtain⟨sl,q⟩:=B.slot b o e n hb hx
    exact⟨sl,(hs.2 b (lo b o e)).trans q⟩
  · obtain⟨o',q⟩:=B.there b o e hx
    exact⟨o',(hs.2 b (lo b o e)).trans q⟩
  · have nl:H' s.heap.objs.size=none:=I'.free
    refine (I'.hok b u e).stay (fun c v hc q=>(hs.2 c ?_).trans q) (fun _ q=>q) fun _ _ q=>q
    rintro rfl
    rcases hc with z | z
    · rw [← z,nl] at e;cases e
    · rw [nl] at z;cases z
end
def PIf (X:Cx)(ifs:List Expr)(t:TT):Prop :=
  ∀ (pins:List (Addr×Obj)) (s:Shared) (σ:St) (H:Hp) (Q:Bool->Hp->Prop),Inv X pins σ H s->t σ H Q →
    wpAny (model X.prog X.w) X.A (forIn ifs true fun c r=>if r=true then do let ok ← isTrue c X.env (eval c X.env);pure (ForInStep.yield ok) else pure (ForInStep.yield r)) (TP X pins σ Q) X.xe s
def mE:TT:=fun _ H Q=>Q true H
theorem b5 {X:Cx}:PIf X [] mE:=fun _ _ _ H _ I h=>wpAny_tests_nil ⟨H,I,h⟩
theorem kt {X:Cx}{c:Expr}{t:TT}(h:PT X c t):PIf X [c] t:=fun pins s σ H Q I hw=>wpAny_tests_one (h pins s σ H Q I hw)
section
variable {prog:Program}{w:World}{A:Around}{R:Result->Shared->Prop}{s:Shared}
theorem jz {elt target iter:Expr}{ifs:List Expr}{scope:Scope}{pos:Pos}{it acc:Value}{env:Env}(I:Nat->Shared->Prop)
    (turn:∀ n s,I n s->wpAny (model prog w) A (pyNext it) (fun r s₁=>match r with
      | none=>R (.ok .next) s₁
      | some v=>wpAny (model prog w) A (letOwnedTupleGo target it v) (fun _ s₁'=>wpAny (model prog w) A (assign target env v) (fun _ s₂ =>
          wpAny (model prog w) A (forIn ifs true fun c r=>if r=true then do let ok ← isTrue c env (eval c env);pure (ForInStep.yield ok) else pure (ForInStep.yield r)) (fun ok s₃ =>
            if ok=true then wpAny (model prog w) A (eval elt env) (fun x s₄ =>
              wpAny (model prog w) A (call (.builtin "list.append") [acc,x]) (fun _ s₅=>∃ m,m < n/\I m s₅) (fun _ _=>False) s₄) (fun _ _=>False) s₃
            else ∃ m,m < n/\I m s₃) (fun _ _=>False) s₂) (fun _ _=>False) s₁') (fun _ _=>False) s₁) (fun _ _=>False) s)
    (n:Nat)(h:I n s) :
    codeAny (model prog w) A (.compLoop (.ListComp elt [⟨target,iter,ifs,0⟩] scope pos) 0 it acc env) R s:=by
  have no:∀ {E:Value->Shared->Prop} (x:Value) (s:Shared),False->E x s:=fun _ _ z=>z.elim
  refine codeAny_loop rfl I (fun n s hI=>?_) n h
  show wpAny _ A ((compTurn (.ListComp elt [⟨target,iter,ifs,0⟩] scope pos) 0 it acc env).onRaise (fun x=>do noteFrame x env;theTreesLotGoes x)) _ _ s
  refine wpAny_noted ?_
  rw [compTurn_list]
  refine wpAny_bind (wpAny_standAt (wpAny_bind (wpAny_mono (turn n s hI) (fun r s₁ h₁=>?_) no)))
  cases r with
  | none=>exact wpAny_pure h₁
  | some v =>
    refine wpAny_bind (wpAny_mono h₁ (fun _ s₁' h₁'=>wpAny_bind (wpAny_mono h₁' (fun _ s₂ h₂=>wpAny_bind (wpAny_mono h₂ (fun ok s₃ h₃=>?_) no)) no)) no)
    cases ok with
    | false=>exact wpAny_pure ⟨rfl,h₃⟩
    | true =>
      exact wpAny_bind (wpAny_bind (wpAny_mono h₃ (fun x s₄ h₄=>wpAny_bind (wpAny_mono h₄ (fun _ s₅ h₅=>wpAny_pure (wpAny_pure ⟨rfl,h₅⟩)) no)) no))
end
def kD (nl:Nat)(ix:List Nat)(wi:TI)(g:TG)(tf:TT)(te:TE):TE:=fun σ H Q=>wi σ H fun J H1=>∀ D,H1 D=none->∃ W:Nat->Nat->List V->Hp->Prop,(∃ m,W 0 m [] (upd H1 D (.lst []))) ∧
  ∀ i m ys H2,W i m ys H2->H2 D=some (.lst ys)/\((J.stop i H2/\Q (.ref D) H2)\/(J.go i H2/\∀ x H3,J.yld i H2 x H3->g x (d6 nl ix σ) H3 fun σ4 H4=>(σ4.length=(d6 nl ix σ).length/\σ4.drop nl=ix.map fun j=>(σ[j]?).join)/\tf σ4 H4 fun b H5 =>
    if b=true then te σ4 H5 fun y H6=>H6 D=some (.lst ys)/\ys.length < sizeLine/\∃ m',m' < m/\W (i+1) m' (ys++[y]) (upd H6 D (.lst (ys++[y]))) else ∃ m',m' < m/\W (i+1) m' ys H5))
theorem kT {X:Cx}{pins:List (Addr×Obj)}{σ σ4:St}{H:Hp}{s:Shared}{nl:Nat}{ix:List Nat}(I:Inv X pins σ4 H s)(hl:σ4.length=(d6 nl ix σ).length)(hd:σ4.drop nl=ix.map fun j=>(σ[j]?).join):Inv X pins (d6 nl ix σ) H s:=by
  refine I.weak hl.symm fun i v e=>?_
  unfold d6 at e
  rw [List.getElem?_append] at e
  split at e
  · rw [List.getElem?_replicate] at e
    split at e<;>simp at e
  · rename_i hi
    rw [List.length_replicate] at hi e
    rw [← hd,List.getElem?_drop] at e
    have hi2:nl+(i - nl)=i:=by omega
    rw [hi2] at e
    exact e
section
variable {X:Cx}
theorem dB {elt tg iter:Expr}{ifs:List Expr}{scope:Scope}{pos:Pos}{N':List Str}{nl:Nat}{ix:List Nat}{wi:TI}{g:TG}{tf:TT}{te:TE}(hc:X.calm=true)(S:CompScope X scope)(Cp:oR X scope N' nl ix)(hi:PI X tg iter wi)
    (hg:∀ C fp s₀ H₀,PG (X.comp scope N' C fp s₀ H₀) tg g)(hf:∀ C fp s₀ H₀,PIf (X.comp scope N' C fp s₀ H₀) ifs tf)(he:∀ C fp s₀ H₀,PE (X.comp scope N' C fp s₀ H₀) elt te)
    (hs:∀ x,foldedSetIterable iter X.env x=pure x:=by intro _;rfl):PE X (.ListComp elt [⟨tg,iter,ifs,0⟩] scope pos) (kD nl ix wi g tf te):=by
  intro pins s σ H Q I h
  rw [eval_ListComp]
  refine wpAny_comprehension_free (use:=none) (cl:=ju X.env scope.names []) rfl hs (jO (S.cells I.ok)) S.kind S.loc ?_
  refine thn (hi pins s σ H _ I h) fun v s1 h1=>thn h1 fun itv s2 h2=>?_
  obtain⟨it,fp,tn,J,H2,rfl,I2,T,st2,f2,h2⟩:=h2
  obtain⟨W,⟨m0,w0⟩,turn⟩:=h2 s2.heap.objs.size I2.fresh
  refine wpAny_newObj_type (wpAny_newFunctionEnv S.nocell (by intro y hy;simp at hy) (fun h₁ hns₁ hsb₁=>?_) S.kind)
  dsimp only at hns₁ hsb₁ ⊢
  have fpo:∀ b∈fp,b < s2.heap.objs.size:=fun b hb=>by
    obtain⟨o,e,_⟩:=T.obj 0 _ st2 b hb
    exact Heap.lt_size e
  have I3:Inv X pins σ (upd H2 s2.heap.objs.size (.lst [])) { s2 with heap:=s2.heap.push { cls:=.type "list",data:=.seq ([]:List Value).toArray },toks:=s2.toks }:=I2.lnew .nil (Nat.zero_le _)
  have hD:(upd H2 s2.heap.objs.size (.lst [])) s2.heap.objs.size=some (.lst []):=af
  have f3:∀ b∈fp,jQ X pins (upd H2 s2.heap.objs.size (.lst [])) b:=fun b hb=>by
    refine⟨?_,(f2 b hb).2⟩
    rw [au (Nat.ne_of_lt (fpo b hb))]
    exact (f2 b hb).1
  generalize hS3:s2.heap.push { cls:=.type "list",dict:=none,data:=.seq ([]:List Value).toArray }=g3 at hns₁ hsb₁ I3 ⊢
  have sz3:g3.objs.size=s2.heap.objs.size+1:=by rw [← hS3,Heap.size_push]
  have fpo3:∀ b∈fp,b < ({ s2 with heap:=g3,toks:=s2.toks }:Shared).heap.objs.size:=fun b hb=>by
    show b < g3.objs.size
    rw [sz3]
    exact Nat.lt_succ_of_lt (fpo b hb)
  have old:∀ b o,g3.get? b=some o->h₁.get? b=some o:=fun b o e=>hsb₁.extBut b o (Nat.ne_of_lt (Heap.lt_size e)) (Heap.get?_push_of_some _ e)
  have I4:=lO (tk:=s2.toks+([]:List (Str×Value)).length) S Cp I3 f3 fpo3 hns₁ old
  generalize hX:X.comp scope N' g3.objs.size fp { s2 with heap:=g3,toks:=s2.toks } (upd H2 s2.heap.objs.size (.lst []))=X' at *
  have hPr:X'.prog=X.prog:=by rw [← hX];rfl
  have hWr:X'.w=X.w:=by rw [← hX];rfl
  have hKr:X'.K=X.K:=by rw [← hX];rfl
  have hAr:X'.A=X.A:=by rw [← hX];rfl
  have hCa:X'.calm=true:=by rw [← hX];exact hc
  have hXe:X'.xe=fun _ _=>False:=by rw [← hX];rfl
  have hEx:X'.ex=fp:=by rw [← hX];rfl
  have hPn:X'.pn=[]:=by rw [← hX];rfl
  have hLo:X'.env.locals=g3.objs.size:=by rw [← hX];rfl
  have hEn:X'.env=compEnvC scope (ju X.env scope.names []) g3.objs.size X.env:=by rw [← hX];rfl
  have hg':=hg g3.objs.size fp { s2 with heap:=g3,toks:=s2.toks } (upd H2 s2.heap.objs.size (.lst []))
  have hf':=hf g3.objs.size fp { s2 with heap:=g3,toks:=s2.toks } (upd H2 s2.heap.objs.size (.lst []))
  have he':=he g3.objs.size fp { s2 with heap:=g3,toks:=s2.toks } (upd H2 s2.heap.objs.size (.lst []))
  rw [hX] at hg' hf' he'
  have I4':Inv X' [] (d6 nl ix σ) (upd H2 s2.heap.objs.size (.lst [])) { s2 with heap:=h₁,toks:=s2.toks+([]:List (Str×Value)).length }:=I4
  have back:∀ {H':Hp} {σ':St} {pins':List (Addr×Obj)} {s':Shared} {h':Heap},Inv X' pins' σ' H' s'->Heap.SameBut g3.objs.size s'.heap h'->Inv X pins σ H' { s' with heap:=h' }:=fun I' sb=>by
    subst hX
    exact j9 I3 f3 I' sb
  have stat:∀ {H':Hp},(∀ b∈fp,H' b=none)->∀ b∈fp,jQ X' [] H' b:=fun hn b hb=>by
    refine⟨hn b hb,?_,?_,.inl (by rw [hEx];exact hb),?_,fun p hp=>by rw [hPn] at hp;cases hp⟩
    · rw [hLo];exact Nat.ne_of_lt (fpo3 b hb)
    · exact I4'.ok.exfs b (by rw [hEx];exact hb)
    · exact (I4'.ok.exf b (by rw [hEx];exact hb)).2
  have loop:codeAny (model X.prog X.w) X.A (.compLoop (.ListComp elt [⟨tg,iter,ifs,0⟩] scope pos) 0 (.ref it) (.ref s2.heap.objs.size) X'.env)
      (compPost (model X.prog X.w) X.A X.xe none (EP X pins σ Q) (.ref s2.heap.objs.size) g3.objs.size) { s2 with heap:=h₁,toks:=s2.toks+([]:List (Str×Value)).length }:=by
    rw [← hPr,← hWr,← hAr]
    refine jz (fun n s'=>∃ i ys H',Inv X' [] (d6 nl ix σ) H' s'/\tn i s'.heap/\(∀ b∈fp,H' b=none)/\W i n ys H') ?_ m0
      ⟨0,[],_,I4',T.keep _ _ _ st2 (fun b hb o e=>old b o (by rw [← hS3];exact Heap.get?_push_of_some _ e)),fun b hb=>(f3 b hb).1,w0⟩
    rintro n s5 ⟨i,ys,H5,I5,st5,fr5,w5⟩
    obtain⟨hD5,alt⟩:=turn i n ys H5 w5
    rcases alt with ⟨stop,qn⟩ | ⟨go,step⟩
    · rw [hPr,hWr]
      refine thn (T.done X' hPr hWr hKr hCa i [] s5 _ H5 _ I5 (stat fr5) st5 stop) fun r s6 ⟨hr,I6⟩=>?_
      subst hr
      obtain⟨m,hn,_⟩:=I6.loc
      rw [hLo] at hn
      exact⟨m,hn,fun h' sb=>⟨.ref s2.heap.objs.size,H5,back I6 sb,rfl,qn⟩⟩
    · have it5:=T.item X' hPr hWr hKr hCa i [] s5 _ H5 (fun _ _=>False) I5 (stat fr5) st5 go
      rw [← hPr,← hWr] at it5
      refine thn it5 fun r s6 ⟨u,hr,h6⟩=>?_
      subst hr
      refine thn h6 fun _ s7 ⟨x,H7,I7,r7,y7,st7,fr7⟩=>?_
      have I7':=I7.pinned (stat fr7) (T.obj _ _ st7)
      have g7:=hg' _ s7 _ H7 x u _ I7' r7 (step x H7 y7)
      rw [hXe] at g7
      refine thn g7 fun _ s8 ⟨σ8,H8,I8,⟨hl8,hd8⟩,q8⟩=>?_
      have f8:=hf' _ s8 σ8 H8 _ I8 q8
      rw [hXe] at f8
      refine thn f8 fun ok s9 ⟨H9,I9,q9⟩=>?_
      have again:∀ {H10:Hp} {s10:Shared} {ys':List V},Inv X' ([]++hC fp s7.heap) σ8 H10 s10->(∃ m',m' < n/\W (i+1) m' ys' H10)->∃ m,m < n/\∃ i ys H',Inv X' [] (d6 nl ix σ) H' s10/\tn i s10.heap/\(∀ b∈fp,H' b=none)/\W i m ys H':=fun {H10 s10 ys'} I10 ⟨m',hm,w'⟩=>by
        refine⟨m',hm,i+1,ys',H10,kT I10.unpinned hl8 hd8,T.keep _ _ _ st7 fun b hb o e=>(I10.pin (b,o) (List.mem_append_right _ (List.mem_append_right _ (dg hb e)))).1,fun b hb=>?_,w'⟩
        obtain⟨o,e,d⟩:=T.obj _ _ st7 b hb
        exact (I10.pin (b,o) (List.mem_append_right _ (List.mem_append_right _ (dg hb e)))).2.1
      cases ok with
      | false =>
        rw [if_neg Bool.false_ne_true] at q9 ⊢
        exact again I9 q9
      | true =>
        rw [if_pos rfl] at q9 ⊢
        have e9:=he' _ s9 σ8 H9 _ I9 q9
        rw [hXe] at e9
        refine thn e9 fun xv s10 ⟨y,H10,I10,r10,hD10,hz,mw⟩=>?_
        have a10:=cn (X:=X') _ s10 σ8 H10 (.ref s2.heap.objs.size) [y] _ [xv] (fun _ H'=>H'=upd H10 s2.heap.objs.size (.lst (ys++[y]))) I10 rfl (.cons r10 .nil) ⟨_,ys,y,rfl,rfl,hD10,hz,rfl⟩
        rw [hXe] at a10
        refine thn a10 fun _ s11 ⟨_,H11,I11,_,e11⟩=>?_
        subst e11
        exact again I11 mw
  rw [hEn] at loop
  exact codeAny_compStart_list loop (T.self _ 0 _ _ _ (T.keep _ _ _ st2 (fun b hb o e=>old b o (by rw [← hS3];exact Heap.get?_push_of_some _ e))) loop)
end
theorem cU:∀ {ss:List Str} {us:List Value},Vals (ss.map V.str) us->StrsAre us ss
  | [],_,.nil=>.nil
  | _::_,_,.cons r t=>by
    obtain⟨k,rfl⟩:=r
    exact .cons _ k (cU t)
theorem dN:∀ {ss:List Str} {us:List Value},StrsAre us ss->Vals (ss.map V.str) us
  | _,_,.nil=>.nil
  | _,_,.cons y t h=>.cons ⟨t,rfl⟩ (dN h)
theorem iX:∀ bs:List Bool,(List.range bs.length).all (fun i=>bs.getD i false)=bs.all id
  | []=>rfl
  | b::r=>by
    rw [List.length_cons,List.range_succ_eq_map,List.all_cons,List.all_map,List.all_cons,← iX r]
    rfl
section
variable {X:Cx}
theorem gC (hc:X.calm=true):dv X (.builtin "all") (fun xs H Q=>∃ (p:Addr) (bs:List Bool),xs=[.ref p]/\SqL X.K H p (bs.map V.bl)/\Q (.bl (bs.all id)) H):=by
  intro pins s σ H xs us Q I r h
  obtain⟨p,bs,rfl,hq,q⟩:=h
  obtain⟨u,rfl,rx⟩:=gP r
  cases rx
  obtain⟨its,rv,pl,hz⟩:=I.list hq
  have hh:X.A.in1.handled=none:=I.ok.hd hc
  have hlt:p < s.heap.objs.size:=by obtain⟨o,e,_⟩:=pl.isList;exact Heap.lt_size e
  have hlen:=rv.length
  rw [List.length_map] at hlen
  refine call_all_walk (wpAny_pyIter_list pl.isList ?_)
  refine⟨s.heap.objs.size,_,_,_,_,_,fun i=>bs.getD i false,rfl,Walks.list hh s.heap.objs.size p (Nat.ne_of_lt hlt) its.toArray,⟨⟨_,Heap.get?_push_size _ rfl,rfl,rfl⟩,pl.isList.push _⟩,fun i v s' Q' E' hv hq'=>?_,fun h' tk hk=>?_⟩
  · have hv':its[i]? = some v:=by simpa using hv
    have hi:i < its.length:=(List.getElem?_eq_some_iff.mp hv').1
    have hb:bs[i]? = some (bs.getD i false):=by
      rw [List.getD_eq_getElem?_getD]
      rw [List.getElem?_eq_getElem (by omega)]
      rfl
    obtain⟨u,hu,ru⟩:=rv.get (i:=i) (x:=.bl (bs.getD i false)) (by rw [List.getElem?_map,hb];rfl)
    rw [hv'] at hu
    cases hu
    cases ru
    exact wpAny_truthy_bool hq'
  · have e:(List.range its.toArray.size).all (fun i=>bs.getD i false)=bs.all id:=by
      rw [List.size_toArray,← hlen,iX]
    rw [e]
    refine⟨.bl _,H,?_,rfl,q⟩
    refine (I.kept (t':=s.toks) (h':=s.heap.push { cls:=.type "list_iterator",data:=.fields #[.ref p,.int 0 0] }) fun b o e=>Heap.get?_push_of_some _ e).turned (it:=s.heap.objs.size) (t':=tk) (h':=h') (fun b o hb e=>hk b o (by simpa using hb) e) I.fresh (Nat.ne_of_gt I.lt) (.inr I.sz) (fun x c e z=>?_) fun p' hp z=>?_
    · obtain⟨v,q⟩:=I.cell x c e
      exact absurd (z▸q.lt) (Nat.lt_irrefl _)
    · exact absurd (z▸Heap.lt_size (I.pin p' hp).1) (Nat.lt_irrefl _)
theorem eT:dv X (.builtin "sorted") (fun xs H Q=>∃ (p:Addr) (ss:List Str),xs=[.ref p]/\SqL X.K H p (ss.map V.str)/\ss.length < 64/\∀ (l:Addr) (ss':List Str),H l=none->ss'.Perm ss->sortedS ss'=true->Q (.ref l) (upd H l (.lst (ss'.map V.str)))):=by
  intro pins s σ H xs us Q I r h
  obtain⟨p,ss,rfl,hq,hl,q⟩:=h
  obtain⟨u,rfl,rx⟩:=gP r
  cases rx
  obtain⟨its,rv,pl,hz⟩:=I.list hq
  have hlen:=rv.length
  rw [List.length_map] at hlen
  refine sorted_strs pl.isList (cU rv) (by omega) fun out ss' a1 a2 a3=>?_
  obtain⟨e,he⟩:=sortedAll_at s.heap its out
  have hlen':ss'.length=ss.length:=a2.length_eq
  refine⟨.ref (s.heap.objs.size+1),_,I.laid (t':=s.toks) (o:=.lst (ss'.map V.str)) (fun b o e=>sortedAll_old e) (Nat.le_succ _) ⟨?_,out.toList,e,dN a1,?_⟩,rfl,q _ ss' (I.hok.fresh (Nat.le_succ _)) a2 a3⟩
  · rw [List.length_map]
    exact Nat.le_of_lt (Nat.lt_of_lt_of_le (by omega:ss'.length < 64) (by decide))
  · simpa using he
def oU:V->List V->Hp->VK->Prop:=fun x vs H Q=>∃ (z:Str) (l:Addr) (ss:List Str),x=.str z/\vs=[.ref l]/\SqL X.K H l (ss.map V.str)/\(ss.map (·.length)).sum+ss.length * z.length<=16777216/\Q (.str (Txt.join z ss)) H
theorem dP:MtM X "str.join" (oU (X:=X)):=by
  intro pins s σ H x vs v us Q I rx rv h
  obtain⟨z,l,ss,rfl,rfl,hq,hz,q⟩:=h
  obtain⟨t,rfl⟩:=rx
  obtain⟨u,rfl,ru⟩:=rv.one
  cases ru
  obtain⟨its,r,pl,_⟩:=I.list hq
  exact join_list pl.isList (by simpa using cU r) hz fun t' k=>⟨.str _,H,I.tok _,⟨t',rfl⟩,q⟩
end
mutual
inductive Sees (H:Hp):V->PyData->Prop
  | non:Sees H .non .none
  | bl (b:Bool):Sees H (.bl b) (.bool b)
  | int (i:Int):Sees H (.int i) (.int i)
  | str (x:Str):Sees H (.str x) (.str x)
  | lst {a:Addr} {vs:List V} {ds:List PyData}:H a=some (.lst vs)->SeesAll H vs ds->Sees H (.ref a) (.list ds)
  | tup {a:Addr} {vs:List V} {ds:List PyData}:H a=some (.tup vs)->SeesAll H vs ds->Sees H (.ref a) (.tuple ds)
inductive SeesAll (H:Hp):List V->List PyData->Prop
  | nil:SeesAll H [] []
  | cons {v:V} {vs:List V} {d:PyData} {ds:List PyData}:Sees H v d->SeesAll H vs ds->SeesAll H (v::vs) (d::ds)
end
mutual
theorem Sees.reads {P:Program}{w:World}{H:Hp}{h:Heap}(ok:HOk P w H h):∀ {d:PyData} {v:V} {u:Value},Sees H v d->RelV v u->∃ as,Reads h u d as
  | _,_,_,.non,r=>by cases r;exact⟨_,.none⟩
  | _,_,_,.bl b,r=>by cases r;exact⟨_,.bool b⟩
  | _,_,_,.int i,r=>by obtain⟨t,rfl⟩:=r;exact⟨_,.int i t⟩
  | _,_,_,.str x,r=>by obtain⟨t,rfl⟩:=r;exact⟨_,.str x t⟩
  | _,_,_,.lst e q,r=>by
    cases r
    obtain⟨_,its,n,rv,g⟩:=ok _ _ e
    obtain⟨as,ra⟩:=SeesAll.reads ok q rv
    exact⟨_,.list g rfl rfl (by simpa using ra)⟩
  | _,_,_,.tup e q,r=>by
    cases r
    obtain⟨_,its,rv,o,g,hc,n,hd⟩:=ok _ _ e
    obtain⟨as,ra⟩:=SeesAll.reads ok q rv
    exact⟨_,.tuple g hc hd (by simpa using ra)⟩
theorem SeesAll.reads {P:Program}{w:World}{H:Hp}{h:Heap}(ok:HOk P w H h):∀ {ds:List PyData} {vs:List V} {us:List Value},SeesAll H vs ds->Vals vs us->∃ as,ReadsAll h us ds as
  | _,_,_,.nil,r=>by cases r;exact⟨_,.nil⟩
  | _,_,_,.cons a b,r=>by
    cases r with
    | cons r1 r2 =>
      obtain⟨_,x⟩:=Sees.reads ok a r1
      obtain⟨_,y⟩:=SeesAll.reads ok b r2
      exact⟨_,.cons x y⟩
end
mutual
theorem Sees.same {H H':Hp}:∀ {d:PyData} {v:V},(∀ b o,H b=some o->(∃ xs,o=.lst xs\/o=.tup xs)->H' b=some o)->Sees H v d->Sees H' v d
  | _,_,_,.non=>.non
  | _,_,_,.bl b=>.bl b
  | _,_,_,.int i=>.int i
  | _,_,_,.str x=>.str x
  | _,_,k,.lst e q=>.lst (k _ _ e ⟨_,.inl rfl⟩) (SeesAll.same k q)
  | _,_,k,.tup e q=>.tup (k _ _ e ⟨_,.inr rfl⟩) (SeesAll.same k q)
theorem SeesAll.same {H H':Hp}:∀ {ds:List PyData} {vs:List V},(∀ b o,H b=some o->(∃ xs,o=.lst xs\/o=.tup xs)->H' b=some o)->SeesAll H vs ds->SeesAll H' vs ds
  | _,_,_,.nil=>.nil
  | _,_,k,.cons a b=>.cons (Sees.same k a) (SeesAll.same k b)
end
theorem SeesAll.strs {H:Hp}:∀ ss:List Str,SeesAll H (ss.map V.str) (ss.map PyData.str)
  | []=>.nil
  | s::r=>.cons (.str s) (SeesAll.strs r)
theorem SeesAll.length {H:Hp}:∀ {vs:List V} {ds:List PyData},SeesAll H vs ds->vs.length=ds.length
  | _,_,.nil=>rfl
  | _,_,.cons _ b=>by rw [List.length_cons,List.length_cons,SeesAll.length b]
section
variable {X:Cx}
def oJ (A:Around)(neg:Bool):R2:=fun x y H Q=>∃ da db,Sees H x da/\Sees H y db/\da.canLay0=true/\db.canLay0=true/\A.units+min da.depth db.depth < cLine/\Q (.bl (if neg then !PyData.eqv da db else PyData.eqv da db)) H
theorem eX:OpR X (compareOp .Eq) (oJ X.A false):=by
  intro pins s σ H x y v u Q I rx ry h
  obtain⟨da,db,sa,sb,la,lb,hu,q⟩:=h
  obtain⟨_,ra⟩:=sa.reads I.hok rx
  obtain⟨_,rb⟩:=sb.reads I.hok ry
  exact SeqAt.rcAt_reads ra rb la lb hu _ _ _ _ ⟨.bl _,H,I,rfl,q⟩
theorem oz:OpR X (compareOp .NotEq) (oJ X.A true):=by
  intro pins s σ H x y v u Q I rx ry h
  obtain⟨da,db,sa,sb,la,lb,hu,q⟩:=h
  obtain⟨_,ra⟩:=sa.reads I.hok rx
  obtain⟨_,rb⟩:=sb.reads I.hok ry
  exact SeqAt.compareNe_reads ra rb la lb hu ⟨.bl _,H,I,rfl,q⟩
end
def Itn (n:Nat)(val:Nat->V->Prop):It:=⟨fun i _=>i < n,fun i H x H'=>H'=H/\val i x,fun i _=>i=n⟩
theorem fF {P:Program}{w:World}{K:PySem.W.Frag}{x:Str}{p:Pos}{I:Addr}{n:Nat}{Pv:Nat->Value->Prop}{St:Nat->Heap->Prop}{val:Nat->V->Prop}
    (W:∀ A':Around,A'.handled=none->Walks P w A' I [I] [I] n Pv St)(ho:∀ i h,St i h->∃ o,h.get? I=some o/\∀ v,o.data≠.cell v)(hv:∀ i u,Pv i u->∃ v,RelV v u/\val i v)
    (hself:∀ (A:Around) (i:Nat) (s:Shared) (Q:Value->Shared->Prop) (E:Value->Shared->Prop),St i s.heap->Q (.ref I) s->wpAny (model P w) A (pyIter (.ref I)) Q E s) :
    oC P w K (.Name x p) (Itn n val) [I] I St where
  mem:=by simp
  obj:=fun i h st b hb=>by
    have e:b=I:=by simpa using hb
    subst e
    exact ho i h st
  keep:=fun i h h' st k=>(W { handled:=none,depth:=0,frames:=none,guards:=none,units:=0 } rfl).frame i h h' st k
  item:=by
    intro X hP hw hK hc i pins s σ H E J hf st hg
    subst hP hw hK
    obtain⟨f0,f1,f2,f3,f4,f5⟩:=hf I (by simp)
    refine (W X.A (J.ok.hd hc)).item i s _ _ hg st fun v h' tk hPv st' kk=>?_
    obtain⟨y,ry,vy⟩:=hv i v hPv
    have J1:Inv X pins σ H { s with heap:=h',toks:=tk }:=J.turned (fun b o hb e=>kk b o (by simpa using hb) e) f0 f1 f3 f4 f5
    exact⟨v,rfl,wpAny_pure ⟨y,H,J1,ry,⟨rfl,vy⟩,st',fun b hb=>(hf b hb).1⟩⟩
  done:=by
    intro X hP hw hK hc i pins s σ H E J hf st hg
    subst hP hw hK
    obtain⟨f0,f1,f2,f3,f4,f5⟩:=hf I (by simp)
    have e:i=n:=hg
    subst e
    exact (W X.A (J.ok.hd hc)).done s _ _ st fun h' tk kk=>⟨rfl,J.turned (fun b o hb e=>kk b o (by simpa using hb) e) f0 f1 f3 f4 f5⟩
  self:=hself
theorem fb {h:Heap}{I:Addr}{n:String}{x:Str}{t:Tok}{i:Nat}(st:h.IsStrIter I n x t i):∃ o,h.get? I=some o/\∀ v,o.data≠.cell v:=by
  obtain⟨o,e,_,d⟩:=st
  exact⟨o,e,fun v z=>by rw [d] at z;cases z⟩
section
variable {X:Cx}
def ItS (z:Str):It:=Itn z.cps.size fun i v=>∃ c,z.cps[i]? = some c/\v=.str ⟨#[c]⟩
def pS (tl:TE):TI:=fun σ H R=>tl σ H fun x H1=>∃ z,x=.str z/\R (ItS z) H1
theorem i6 {z:Str}(i:Nat)(u:Value)(h:SignAt z i u):∃ v,RelV v u/\∃ c,z.cps[i]? = some c/\v=.str ⟨#[c]⟩:=by
  obtain⟨c,t,e,rfl⟩:=h
  exact⟨.str ⟨#[c]⟩,⟨t,rfl⟩,c,e,rfl⟩
theorem nI {l:Expr}{tl:TE}{x:Str}{p:Pos}(hl:PE X l tl):PI X (.Name x p) l (pS tl):=by
  intro pins s σ H R I h
  refine thn (hl pins s σ H _ I h) fun v s1 ⟨y,H1,I1,r1,q1⟩=>?_
  obtain⟨z,rfl,q⟩:=q1
  obtain⟨t,rfl⟩:=r1
  have fin:∀ (o:Obj),Inv X pins σ H1 { s1 with heap:=s1.heap.push o }:=fun o=>I1.kept (t':=s1.toks) fun b o e=>Heap.get?_push_of_some _ e
  have ff:∀ b∈[s1.heap.objs.size],jQ X pins H1 b:=fun b hb=>by
    have e:b=s1.heap.objs.size:=by simpa using hb
    subst e
    exact I1.fpOk (Nat.le_refl _) I1.fresh
  cases ha:z.cps.all (· < 128)
  · refine wpAny_pyIter_wide ha ⟨s1.heap.objs.size,[s1.heap.objs.size],_,ItS z,H1,rfl,fin _,fF (fun A' hA=>Walks.strWide hA _ z t) (fun i h st=>fb st) i6 (fun A i s Q E st h=>wpAny_pyIter_striter_wide st h),⟨_,Heap.get?_push_size _ rfl,rfl,rfl⟩,ff,q⟩
  · refine wpAny_pyIter_ascii ha ⟨s1.heap.objs.size,[s1.heap.objs.size],_,ItS z,H1,rfl,fin _,fF (fun A' hA=>Walks.strAscii hA _ z t) (fun i h st=>fb st) i6 (fun A i s Q E st h=>wpAny_pyIter_striter_ascii st h),⟨_,Heap.get?_push_size _ rfl,rfl,rfl⟩,ff,q⟩
end
def js (scope outer:Scope):List (Str×NameKind) :=
  scope.names.map fun (n,k)=>if (k == .free && outer.kind == .function && outer.names.lookup n == some .cell) then (n,.cell) else (n,k)
def eK (outer scope:Scope)(N N':List Str)(nl:Nat)(ix:List Nat):Bool :=
  (scope.kind == .function && scope.names.all fun x=>x.2 != .cell && (x.2 != .local || scope.names.lookup x.1 == some .local) && (x.2 != .free || outer.names.lookup x.1 == some .cell)) &&
  (N'.length == nl+ix.length && (List.range ix.length).all fun k=>match ix[k]? with
    | none=>false
    | some j=>match N[j]? with
      | none=>false
      | some x=>N'[nl+k]? == some x && outer.names.lookup x == some .cell && (js scope outer).lookup x == some .cell && decide ((x,NameKind.free)∈scope.names))
theorem eG {X:Cx}{outer scope:Scope}{N N':List Str}{nl:Nat}{ix:List Nat}(h1:X.env.scope=outer)(h2:X.N=N)(h:eK outer scope N N' nl ix=true):CompScope X scope/\oR X scope N' nl ix:=by
  unfold eK at h
  simp only [Bool.and_eq_true,List.all_eq_true,beq_iff_eq,bne_iff_ne,Bool.or_eq_true,ne_eq,List.mem_range] at h
  obtain⟨⟨hk,ha⟩,hl,hb⟩:=h
  have kd:∀ x,X.env.kindOf x=outer.names.lookup x:=fun x=>by rw [← h1];rfl
  refine⟨⟨hk,fun x hx=>(ha x hx).1.1,fun x hx e=>?_,fun x hx e=>?_⟩,⟨hl,fun k j e=>?_⟩⟩
  · rcases (ha x hx).1.2 with z | z
    · exact absurd e z
    · exact z
  · rcases (ha x hx).2 with z | z
    · exact absurd e z
    · rw [kd];exact z
  · have hk':k < ix.length:=(List.getElem?_eq_some_iff.mp e).1
    have q:=hb k hk'
    rw [e] at q
    simp only at q
    cases ex:N[j]? with
    | none=>rw [ex] at q;simp at q
    | some x =>
      rw [ex] at q
      simp only [Bool.and_eq_true,beq_iff_eq,decide_eq_true_eq] at q
      obtain⟨⟨⟨q1,q2⟩,q3⟩,q4⟩:=q
      refine⟨x,by rw [h2];exact ex,q1,by rw [kd];exact q2,?_,q4⟩
      have er:(relabel scope X.env).names=js scope outer:=by rw [← h1];rfl
      rw [er];exact q3
def Nx (n i:Nat)(p:Prop):Prop:=∃ m',m' < n - i/\m'=n - (i+1)/\i+1<=n/\p
theorem nx {n i:Nat}{p:Prop}(h:i < n)(q:p):Nx n i p:=⟨n - (i+1),by omega,rfl,h,q⟩
def bE (nl:Nat)(ix:List Nat)(g:TG)(tf:TT)(te:TE)(σ:St)(D:Addr)(ys:List V)(H:Hp)(x:V)(nxt:List V->Hp->Prop):Prop :=
  g x (d6 nl ix σ) H fun σ4 H4=>(σ4.length=(d6 nl ix σ).length/\σ4.drop nl=ix.map fun j=>(σ[j]?).join)/\tf σ4 H4 fun b H5 =>
    if b=true then te σ4 H5 fun y H6=>H6 D=some (.lst ys)/\ys.length < sizeLine/\nxt (ys++[y]) (upd H6 D (.lst (ys++[y]))) else nxt ys H5
def ik (nl:Nat)(ix:List Nat)(g:TG)(tf:TT)(te:TE)(σ:St)(J:It)(H1:Hp)(D:Addr)(Q:VK):Prop :=
  ∃ W:Nat->Nat->List V->Hp->Prop,(∃ m,W 0 m [] (upd H1 D (.lst []))) ∧
  ∀ i m ys H2,W i m ys H2->H2 D=some (.lst ys)/\((J.stop i H2/\Q (.ref D) H2)\/(J.go i H2/\∀ x H3,J.yld i H2 x H3->bE nl ix g tf te σ D ys H3 x fun ys' H'=>∃ m',m' < m/\W (i+1) m' ys' H'))
theorem bo (nl:Nat)(ix:List Nat)(wi:TI)(g:TG)(tf:TT)(te:TE)(σ:St)(H:Hp)(Q:VK)(h:wi σ H fun J H1=>∀ D,H1 D=none->ik nl ix g tf te σ J H1 D Q):kD nl ix wi g tf te σ H Q:=h
section
variable {nl:Nat}{ix:List Nat}{g:TG}{tf:TT}{te:TE}{σ:St}{H1:Hp}{D:Addr}{Q:VK}(Pv:Nat->List V->Hp->Prop)
theorem kF {J:It}{n:Nat}(h0:Pv 0 [] (upd H1 D (.lst [])))(hD:∀ i ys H,Pv i ys H->H D=some (.lst ys))(go:∀ i ys H,i < n->Pv i ys H->J.go i H)(stop:∀ ys H,Pv n ys H->J.stop n H)
    (hs:∀ i ys H x H',i < n->Pv i ys H->J.yld i H x H'->bE nl ix g tf te σ D ys H' x fun ys' H'=>Nx n i (Pv (i+1) ys' H'))
    (hd:∀ ys H,Pv n ys H->Q (.ref D) H):ik nl ix g tf te σ J H1 D Q:=by
  refine⟨fun i m ys H=>m=n - i/\i<=n/\Pv i ys H,⟨n,by simp,Nat.zero_le _,h0⟩,?_⟩
  rintro i m ys H ⟨rfl,hi,p⟩
  refine⟨hD i ys H p,?_⟩
  by_cases hlt:i < n
  · exact .inr ⟨go i ys H hlt p,fun x H' y=>hs i ys H x H' hlt p y⟩
  · have e:i=n:=by omega
    subst e
    exact .inl ⟨stop ys H p,hd ys H p⟩
theorem cm {lo:Int}{n:Nat}(h0:Pv 0 [] (upd H1 D (.lst [])))(hD:∀ i ys H,Pv i ys H->H D=some (.lst ys))
    (hs:∀ i ys H,i < n->Pv i ys H->bE nl ix g tf te σ D ys H (.int (lo+i)) fun ys' H'=>Nx n i (Pv (i+1) ys' H'))(hd:∀ ys H,Pv n ys H->Q (.ref D) H):ik nl ix g tf te σ (Itr lo n) H1 D Q:=by
  refine kF (n:=n) Pv h0 hD (fun _ _ _ hi _=>hi) (fun _ _ _=>Nat.le_refl _) (fun i ys H x H' hi p y=>?_) hd
  obtain⟨e,y⟩:=y
  subst e y
  exact hs i ys H' hi p
theorem b8 {K:PySem.W.Frag}{a:Addr}{xs:List V}(h0:Pv 0 [] (upd H1 D (.lst [])))(hD:∀ i ys H,Pv i ys H->H D=some (.lst ys))(hl:∀ i ys H,Pv i ys H->SqL K H a xs)
    (hs:∀ i ys H x,xs[i]? = some x->Pv i ys H->bE nl ix g tf te σ D ys H x fun ys' H'=>Nx xs.length i (Pv (i+1) ys' H'))(hd:∀ ys H,Pv xs.length ys H->Q (.ref D) H):ik nl ix g tf te σ (Itl K a) H1 D Q:=by
  refine kF (n:=xs.length) Pv h0 hD (fun i ys H hi p=>⟨xs,xs[i],hl i ys H p,by simp [hi]⟩) (fun ys H p=>⟨xs,hl _ ys H p,Nat.le_refl _⟩) (fun i ys H x H' hi p y=>?_) hd
  obtain⟨e,y⟩:=y
  subst e
  exact hs i ys H' x (y xs (hl i ys H' p)) p
theorem lz {z:Str}(h0:Pv 0 [] (upd H1 D (.lst [])))(hD:∀ i ys H,Pv i ys H->H D=some (.lst ys))
    (hs:∀ i ys H c,z.cps[i]? = some c->Pv i ys H->bE nl ix g tf te σ D ys H (.str ⟨#[c]⟩) fun ys' H'=>Nx z.cps.size i (Pv (i+1) ys' H'))(hd:∀ ys H,Pv z.cps.size ys H->Q (.ref D) H):ik nl ix g tf te σ (ItS z) H1 D Q:=by
  refine kF (n:=z.cps.size) Pv h0 hD (fun _ _ _ hi _=>hi) (fun _ _ _=>rfl) (fun i ys H x H' hi p y=>?_) hd
  obtain⟨e,c,ec,ex⟩:=y
  subst e ex
  exact hs i ys H' c ec p
end
section
variable {X:Cx}{K:PySem.W.Frag}
theorem dz (hK:X.K=K):IxR X (oS K):=by subst hK;exact bO
theorem gG (hK:X.K=K):dv X (.builtin "len") (fun xs H Q=>∃ p ys,xs=[.ref p]/\(SqL K H p ys\/SqT K H p ys)/\Q (.int ys.length) H):=by subst hK;exact aC
theorem cT (hK:X.K=K):dv X (.type "list") (fun xs H Q=>∃ p ys,xs=[.ref p]/\(SqL K H p ys\/SqT K H p ys)/\∀ l,H l=none->Q (.ref l) (upd H l (.lst ys))):=by subst hK;exact dW
theorem jZ {pos:Pos}{es:List Expr}{k:Nat}{t:TGs}{n:Nat}(hK:X.K=K)(hc:X.calm=true)(h:PGs X es t)(hn:(assignEach es X.env).length=n:=by rfl)(hst:(assignEach es X.env).findIdx? (·.1)=none:=by rfl):PG X (.Tuple es k pos) (nQ K n t):=by
  subst hK
  exact eB hc h hn hst
end
theorem bU {nl:Nat}{ix:List Nat}{te:TE}{σ:St}{D:Addr}{ys:List V}{H:Hp}{x:V}{nxt:List V->Hp->Prop}{i:Nat}(h1:((d6 nl ix σ).set i (some x)).drop nl=ix.map fun j=>(σ[j]?).join)
    (h:te ((d6 nl ix σ).set i (some x)) H fun y H6=>H6 D=some (.lst ys)/\ys.length < sizeLine/\nxt (ys++[y]) (upd H6 D (.lst (ys++[y])))):bE nl ix (cF i) mE te σ D ys H x nxt:=by
  unfold bE cF mE
  dsimp only
  rw [if_pos rfl]
  exact⟨⟨by simp,h1⟩,h⟩
section
variable {X:Cx}
theorem ay:dv X (.builtin "isinstance") (fun xs H Q=>∃ (x:V) (T:String) (t:Value) (b:Bool),xs=[x,.ty T]/\jC X.K H x t/\PySem.W.kitOne X.K t (.type T)=some b/\Q (.bl b) H):=by
  intro pins s σ H xs us Q I r h
  obtain⟨x,T,t,b,rfl,ty,e,q⟩:=h
  obtain⟨u,v,rfl,rx,ry⟩:=nu r
  cases ry
  exact kf I rx ty e fun tk=>⟨.bl b,H,I.tok _,rfl,q⟩
theorem bY (K:PySem.W.Frag)(n:String):PySem.W.kitOne K (.type n) (.type n)=some true:=by
  unfold PySem.W.kitOne
  rw [if_pos (by simp)]
end
def leS (a b:Str):Prop:=ltCps b.cps.toList a.cps.toList=false
theorem leS_iff {a b:Str}:leS a b↔a.cps.toList<=b.cps.toList:=by
  unfold leS
  rw [ltCps_eq]
  constructor
  · intro h
    exact List.not_lt.mp (of_decide_eq_false h)
  · intro h
    exact decide_eq_false (List.not_lt.mpr h)
theorem gY {a b:Str}(h1:leS a b)(h2:leS b a):a=b:=by
  have e:=List.le_antisymm (leS_iff.mp h1) (leS_iff.mp h2)
  cases a;cases b
  simp only at e
  rw [Str.mk.injEq]
  exact Array.toList_inj.mp e
theorem ic {a b c:Str}(h1:leS a b)(h2:leS b c):leS a c:=leS_iff.mpr (List.le_trans (leS_iff.mp h1) (leS_iff.mp h2))
theorem en:∀ {l:List Str} {p:Str},risingS p l=true->(∀ x∈l,leS p x)/\l.Pairwise leS
  | [],p,_=>⟨(fun x hx=>nomatch hx),List.Pairwise.nil⟩
  | y::r,p,h=>by
    have h':(!ltCps y.cps.toList p.cps.toList && risingS y r)=true:=h
    rw [Bool.and_eq_true,Bool.not_eq_true'] at h'
    obtain⟨i1,i2⟩:=en h'.2
    have py:leS p y:=h'.1
    refine⟨fun x hx=>?_,List.Pairwise.cons i1 i2⟩
    rcases List.mem_cons.mp hx with rfl | hx
    · exact py
    · exact ic py (i1 x hx)
theorem bW:∀ {l:List Str},sortedS l=true->l.Pairwise leS
  | [],_=>List.Pairwise.nil
  | _::_,h=>let ⟨a,b⟩:=en h;List.Pairwise.cons a b
theorem de:∀ {l1 l2:List Str},l1.Pairwise leS->l2.Pairwise leS->l1.Perm l2->l1=l2
  | [],l2,_,_,p=>(List.nil_perm.mp p).symm▸rfl
  | a::r,[],_,_,p=>absurd p.length_eq (by simp)
  | a::r,b::t,h1,h2,p=>by
    have ab:leS a b:=by
      rcases List.mem_cons.mp (p.mem_iff.mpr List.mem_cons_self:b∈a::r) with e | hb
      · subst e;exact leS_iff.mpr (List.le_refl _)
      · exact (List.pairwise_cons.mp h1).1 b hb
    have ba:leS b a:=by
      rcases List.mem_cons.mp (p.mem_iff.mp List.mem_cons_self:a∈b::t) with e | ha
      · subst e;exact leS_iff.mpr (List.le_refl _)
      · exact (List.pairwise_cons.mp h2).1 a ha
    have e:=gY ab ba
    subst e
    rw [de (List.pairwise_cons.mp h1).2 (List.pairwise_cons.mp h2).2 p.cons_inv]
theorem jl {K:PySem.W.Frag}{nl:Nat}{ix:List Nat}{te:TE}{σ:St}{D:Addr}{ys:List V}{H:Hp}{x:V}{nxt:List V->Hp->Prop}{i j:Nat}(a:Addr)(v1 v2:V)(hx:x=.ref a)(hs:SqT K H a [v1,v2])
    (h1:(((d6 nl ix σ).set i (some v1)).set j (some v2)).drop nl=ix.map fun j=>(σ[j]?).join)
    (h:te (((d6 nl ix σ).set i (some v1)).set j (some v2)) H fun y H6=>H6 D=some (.lst ys)/\ys.length < sizeLine/\nxt (ys++[y]) (upd H6 D (.lst (ys++[y])))) :
    bE nl ix (nQ K 2 (jD (cF i) (jD (cF j) oI))) mE te σ D ys H x nxt:=by
  subst hx
  unfold bE nQ jD cF oI mE
  dsimp only
  refine⟨a,[v1,v2],rfl,hs,rfl,v1,[v2],rfl,v2,[],rfl,rfl,⟨by simp,h1⟩,?_⟩
  rw [if_pos rfl]
  exact h
section
variable {M:Model}{A:Around}{E:Value->Shared->Prop}{s:Shared}
end
section
variable {prog:Program}{w:World}{h h':Heap}{a:Addr}{es:Array (Int×Value)}{ep:Nat}{t:SetTable}{ss:List Str}
section
variable {A:Around}{E:Value->Shared->Prop}{s:Shared}
end
end
section
variable {prog:Program}{w:World}{A:Around}{E:Value->Shared->Prop}{s:Shared}{a I:Addr}{es:Array (Int×Value)}{ep:Nat}{t:SetTable}
end
section
variable {prog:Program}{w:World}{A:Around}{E:Value->Shared->Prop}{s:Shared}{a I T:Addr}{es:Array (Int×Value)}{ep:Nat}{t:SetTable}{ps:List Nat}
end
section
variable {prog:Program}{w:World}{A:Around}{E:Value->Shared->Prop}{s:Shared}{a I T:Addr}{es:Array (Int×Value)}{ep:Nat}{t:SetTable}{ps:List Nat}{i:Nat}
end
end L2
namespace L2
open PySem PySem.Spec PyProof.Rows PySem.W
section
variable {prog:Program}{w:World}{A:Around}{E:Value->Shared->Prop}{s:Shared}{a I T:Addr}{es:Array (Int×Value)}{ep:Nat}{t:SetTable}{ps:List Nat}{i:Nat}
end
end L2
namespace L2
open PySem PySem.Spec PyProof.Rows
section
variable {prog:Program}{w:World}{A:Around}{R:Result->Shared->Prop}{I:Addr}{fp wr:List Addr}{G:Array GenState->Array GenState->Prop}{n:Nat}{P:Nat->Value->Prop}{St:Nat->Shared->Prop}
end
section
variable {prog:Program}{w:World}{A:Around}{E:Value->Shared->Prop}{s:Shared}
end
section
variable {X:Cx}
end
section
variable {prog:Program}{w:World}{A:Around}{R:Result->Shared->Prop}{s:Shared}
end
section
variable {X:Cx}
end
end L2
namespace L2
open PySem PySem.Spec PyProof.Rows PySem.W
section
variable {X:Cx}{pins:List (Addr×Obj)}{σ:St}{H:Hp}{s:Shared}{a:Addr}{o:Obj}{kvs:List (Key×V)}
end
section
variable {X:Cx}{tg:Expr}
end
section
variable {X:Cx}
end
end L2
namespace L2
open PySem PySem.Spec PyProof.Rows
section
variable {nl:Nat}{ix:List Nat}{g:TG}{tf:TT}{tk tv:TE}{σ:St}{H1:Hp}{D:Addr}{Q:VK}(Pv:Nat->List (Key×V)->Hp->Prop)
end
def pB (t:TS):TS:=fun D σ H=>∃ N:St->Hp->Prop,(∀ σ' H',N σ' H'->D.nx σ' H')/\t { D with nx:=N } σ H
theorem cq {X:Cx}{st:Stmt}{t:TS}(h:PS X st t):PS X st (pB t):=by
  intro pins s σ H D I hw
  obtain⟨N,hN,q⟩:=hw
  refine thn (h pins s σ H _ I q) fun f s1 q1=>?_
  cases f with
  | next=>obtain⟨σ',H',I',n⟩:=q1;exact⟨σ',H',I',hN _ _ n⟩
  | brk=>exact q1
  | cont=>exact q1
  | ret u=>exact q1
theorem aI (a b:Str):(a++b).cps.toList=a.cps.toList++b.cps.toList:=by
  show (a.cps++b.cps).toList=_
  simp
theorem gp {a b:Str}(h:a.cps.toList=b.cps.toList):a=b:=by
  cases a;cases b
  simp only at h
  rw [Str.mk.injEq]
  exact Array.toList_inj.mp h
section
variable {X:Cx}{outer scope:Scope}{N N':List Str}{nl:Nat}{ix:List Nat}{tg iter:Expr}{ifs:List Expr}{pos:Pos}{wi:TI}{g:TG}{tf:TT}
theorem gg {elt:Expr}{te:TE}(h1:X.env.scope=outer)(h2:X.N=N)(hc:X.calm=true)(hi:PI X tg iter wi)
    (hg:∀ C fp s₀ H₀,PG (X.comp scope N' C fp s₀ H₀) tg g)(hf:∀ C fp s₀ H₀,PIf (X.comp scope N' C fp s₀ H₀) ifs tf)(he:∀ C fp s₀ H₀,PE (X.comp scope N' C fp s₀ H₀) elt te)
    (hck:eK outer scope N N' nl ix=true:=by decide +kernel)(hs:∀ x,foldedSetIterable iter X.env x=pure x:=by intro _;rfl):PE X (.ListComp elt [⟨tg,iter,ifs,0⟩] scope pos) (kD nl ix wi g tf te) :=
  let ⟨S,Cp⟩:=eG h1 h2 hck
  dB hc S Cp hi hg hf he hs
end
section
variable {X:Cx}{pins:List (Addr×Obj)}{σ:St}{H:Hp}{s:Shared}{h':Heap}
end
section
variable {X:Cx}
end
section
variable {prog:Program}{w:World}{A:Around}{E:Value->Shared->Prop}{s:Shared}
end
section
variable {X:Cx}
variable {o e:Expr}{es:List Expr}{to:TE}{t:TA}{name:Str}{apos cpos:Pos}{T id:String}{r:V->List V->Hp->VK->Prop}{ty:V->Hp->Prop}
end
section
variable {X:Cx}{K:PySem.W.Frag}{P:Program}{w:World}
end
section
variable {X:Cx}
end
section
variable {X:Cx}{K:PySem.W.Frag}{P:Program}{w:World}
end
section
variable {X:Cx}
end
section
variable {prog:Program}{w:World}{A:Around}{E:Value->Shared->Prop}
end
section
variable {X:Cx}
end
section
variable {X:Cx}
end
section
variable {P:Program}{w:World}{K:PySem.W.Frag}{mg:Str->Option Value}{base:Heap}
end
section
variable {X:Cx}
def pA (K:PySem.W.Frag)(te tk:TE):TE:=fun σ H Q=>te σ H fun x H1=>tk σ H1 fun y H2=>y=.int (-1)/\∃ a xs,x=.ref a/\SqL K H2 a xs/\∀ p,H2 p=none->Q (.ref p) (upd H2 p (.lst xs.reverse))
theorem Vals.rev:∀ {xs:List V} {us:List Value},Vals xs us->Vals xs.reverse us.reverse
  | _,_,.nil=>.nil
  | _,_,.cons a b=>by
    rw [List.reverse_cons,List.reverse_cons]
    exact (Vals.rev b).append (.cons a .nil)
end
section
variable {prog:Program}{w:World}{A:Around}{E:Value->Shared->Prop}{s:Shared}
def pr:Nat->List Value->List (Key×Value)
  | _,[]=>[]
  | k,v::r=>(.inl (k:Int),v)::pr (k+1) r
end
section
variable {prog:Program}{w:World}{A:Around}{R:Result->Shared->Prop}
end
section
variable {prog:Program}{w:World}{A:Around}{E:Value->Shared->Prop}{s:Shared}
end
section
variable {X:Cx}
end
section
variable {prog:Program}{w:World}{A:Around}{E:Value->Shared->Prop}{s:Shared}
end
section
variable {prog:Program}{w:World}{A:Around}{E:Value->Shared->Prop}{s:Shared}
end
section
variable {prog:Program}{w:World}{A:Around}{R:Result->Shared->Prop}
end
section
variable {prog:Program}{w:World}{A:Around}{E:Value->Shared->Prop}{s:Shared}
end
section
variable {X:Cx}
end
section
variable {X:Cx}
end
theorem kY {nl:Nat}{ix:List Nat}{te:TE}{σ:St}{H1:Hp}{D:Addr}{Q:VK}{lo:Int}{n:Nat}{F:Nat->V}(nD:H1 D=none)(hl:n<=1000000)
    (hc:∀ x,((d6 nl ix σ).set 0 (some x)).drop nl=ix.map fun j=>(σ[j]?).join)
    (ht:∀ (H:Hp) (i:Nat) (R:VK),i < n->Same H1 H->R (F i) H->te ((d6 nl ix σ).set 0 (some (.int (lo+i)))) H R)
    (hd:∀ H,Same H1 H->H D=some (.lst ((List.range n).map F))->Q (.ref D) H):ik nl ix (cF 0) mE te σ (Itr lo n) H1 D Q:=by
  have lim:1000000 < sizeLine:=by decide
  refine cm (fun i ys H=>ys=(List.range i).map F/\H D=some (.lst ys)/\Same H1 H) ⟨rfl,af,fun b u e=>by rw [au (ah e nD)];exact e⟩ (fun i ys H ⟨_,h,_⟩=>h) ?_ ?_
  · rintro i ys H hi ⟨rfl,hD,s⟩
    refine bU (hc _) (ht H i _ hi s ⟨hD,by rw [List.length_map,List.length_range];omega,nx hi ⟨?_,af,fun b u e=>?_⟩⟩)
    · rw [List.range_succ,List.map_append]
      rfl
    · rw [au (ah e nD)]
      exact s b u e
  · rintro ys H ⟨rfl,hD,s⟩
    exact hd H s hD
abbrev dc2 (kx vx t1 i1 t2 i2:Expr)(scope:Scope)(pos:Pos):Expr:=.DictComp kx vx [⟨t1,i1,[],0⟩,⟨t2,i2,[],0⟩] scope pos
section
variable {prog:Program}{w:World}{A:Around}{R:Result->Shared->Prop}{s:Shared}
end
section
variable {X:Cx}
end
section
variable {X:Cx}{tg:Expr}
end
section
variable {X:Cx}
theorem iT {pos:Pos}:PE X (.List [] pos) (pk lc):=bT ae
def mv:Expr->Bool
  | .Starred .. => false
  | _=>true
theorem iv (e:Expr)(es:List Expr)(env:Env)(h:mv e=true):starEach (e::es) env=(false,eval e env)::starEach es env:=by
  cases e<;>first | rfl | exact absurd h Bool.false_ne_true
theorem aQ {e:Expr}{es:List Expr}{te:TE}{t:TA}(ha:PE X e te)(hr:PA X es t)(h:mv e=true):PA X (e::es) (fm te t):=ad ha hr (iv e es _ h)
theorem nh {e k:Expr}{te tk:TE}{p2 pos:Pos}(he:PE X e te)(hk:PE X k tk)(hsb:∀ v i:Value,subscripted (.Slice none none (some k) p2) false v i=operate [v,i] (getItem v i):=by intro _ _;with_unfolding_all rfl):PE X (.Subscript e (.Slice none none (some k) p2) pos) (pA X.K te tk):=by
  intro pins s σ H Q I h
  refine Subscript_ (thn (he pins s σ H _ I h) fun v s1 ⟨x,H1,I1,r1,q1⟩=>?_)
  refine wpAny_Slice ?_
  rw [evalPart_none]
  refine wpAny_pure ?_
  refine wpAny_pure ?_
  refine thn (hk pins s1 σ H1 _ I1 q1) fun vk s3 ⟨y,H3,I3,r3,q3⟩=>?_
  obtain⟨rfl,a,xs,rfl,hx,q⟩:=q3
  obtain⟨tk,rfl⟩:=r3
  cases r1
  have I4:Inv X pins σ H3 { s3 with heap:=s3.heap.push { cls:=.type "slice",data:=.fields #[.none,.none,.int (-1) tk] } }:=I3.kept (t':=s3.toks) fun b ob q=>Heap.get?_push_of_some _ q
  obtain⟨its,r,ht,hz⟩:=I4.list hx
  have hlen:=r.length
  refine tail_any (ops:=[.ref a,.ref s3.heap.objs.size]) ht.isList.typeIs slot_list_getitem.lookup ?_ (hsb _ _)
  refine wpAny_getItem_list_slice ht.isList (Heap.IsSliceOf.new ..) .none .none (.int (-1) tk) (by simp) ?_ (by rw [List.size_toArray]<;>omega)
  rw [PySem.W.krv_pick]
  refine⟨.ref _,_,I4.laid (t':=s3.toks) (o:=.lst xs.reverse) (fun b ob q=>Heap.get?_push_of_some _ q) (Nat.le_refl _) ?_,rfl,q _ (I4.hok.fresh (Nat.le_refl _))⟩
  exact⟨by rw [List.length_reverse];exact hz,_,0,by simpa using r.rev,Heap.get?_push_size _ rfl⟩
end
section
variable {X:Cx}
end
theorem jT {prog:Program}{w:World}{A:Around}{E:Value->Shared->Prop}{s:Shared}{z y:Str}{t u:Tok}{Q:Value->Shared->Prop}(hy:(y.length == 0)=false)(hz:z.length<=1000000)
    (q:∀ l k,l.map (·.1)=Txt.split z y->Q (.ref s.heap.objs.size) { s with heap:=s.heap.push { cls:=.type "list",data:=.seq (strValues l).toArray },toks:=k }) :
    wpAny (model prog w) A (call (.builtin "str.split") [.str z t,.str y u]) Q E s:=by
  have lim:1000002<=sizeLine:=by decide
  have hz1:z.length<=sizeLine:=by omega
  have hz2:(Builtin.Str.partsBetween z (Builtin.Str.occurrences z y 0 z.length (z.length+1)) y.length).length<=sizeLine:=by
    have a:=StrLaws.occ_length_le_len z y 0 z.length (z.length+1)
    rw [len_partsBetween]
    omega
  cases h1:(decide (z.length < y.length) || decide (Builtin.Str.strKind z < Builtin.Str.strKind y)) with
  | true =>
    have e:Txt.split z y=[z]:=by unfold Txt.split;rw [if_pos h1]
    exact call_meets F.slot_str_split (typeIs_str _ _ _) F.entry_str_split (F.args_str_split_2 _ _) (meets_str_split_cannot_occur z y t u h1) (q [(z,t)] _ e.symm)
  | false =>
    cases hf:(Builtin.Str.occurrences z y 0 z.length (z.length+1)).isEmpty with
    | true =>
      have e:Txt.split z y=[z]:=by unfold Txt.split;rw [if_neg (by rw [h1];decide),if_pos hf]
      exact call_meets F.slot_str_split (typeIs_str _ _ _) F.entry_str_split (F.args_str_split_2 _ _) (meets_str_split_not_found z y t u h1 hy hf) (q [(z,t)] _ e.symm)
    | false =>
      have e:Txt.split z y=Builtin.Str.partsBetween z (Builtin.Str.occurrences z y 0 z.length (z.length+1)) y.length:=by
        unfold Txt.split;rw [if_neg (by rw [h1];decide),if_neg (by rw [hf];decide)]
      refine call_meets F.slot_str_split (typeIs_str _ _ _) F.entry_str_split (F.args_str_split_2 _ _) (meets_str_split_sep z y t u h1 hy hf hz1 hz2) ?_
      have q':=q (numbered s.toks (Txt.split z y)) (s.toks+(Txt.split z y).length) (numbered_texts _ _)
      rw [e] at q'
      rw [strsFrom_eq]
      exact q'
section
variable {X:Cx}
def ow:V->List V->Hp->VK->Prop:=fun x vs H Q=>∃ z y:Str,x=.str z/\vs=[.str y]/\(y.length == 0)=false/\z.length<=1000000/\∀ l,H l=none->Q (.ref l) (upd H l (.lst ((Txt.split z y).map V.str)))
theorem gI:∀ (l:List (Str×Tok)),Vals ((l.map (·.1)).map V.str) (strValues l)
  | []=>.nil
  | (x,t)::r=>.cons ⟨t,rfl⟩ (gI r)
theorem gq:MtM X "str.split" ow:=by
  intro pins s σ H x vs v us Q I rx rv h
  obtain⟨z,y,rfl,rfl,hy,hz,q⟩:=h
  obtain⟨t,rfl⟩:=rx
  obtain⟨u,rfl,t2,rfl⟩:=rv.one
  refine jT hy hz fun l k e=>?_
  have ll:((Txt.split z y).map V.str).length<=sizeLine:=by
    have a:=split_le z y
    have lim:1000002<=sizeLine:=by decide
    rw [List.length_map]
    omega
  refine⟨.ref s.heap.objs.size,_,I.laid (t':=k) (o:=.lst ((Txt.split z y).map V.str)) (fun b o e=>Heap.get?_push_of_some _ e) (Nat.le_refl _) ⟨ll,strValues l,0,by rw [← e];exact gI l,Heap.get?_push_size _ rfl⟩,rfl,q _ I.fresh⟩
def pc:V->List V->Hp->VK->Prop:=fun x vs H Q=>∃ z y:Str,x=.str z/\vs=[.str y]/\(y.length == 0)=false/\z.length<=sizeLine/\∀ l,H l=none->Q (.ref l) (upd H l (.tup [.str (Txt.partition z y).1,.str (Txt.partition z y).2.1,.str (Txt.partition z y).2.2]))
theorem h8:MtM X "str.partition" pc:=by
  intro pins s σ H x vs v us Q I rx rv h
  obtain⟨z,y,rfl,rfl,hy,hz,q⟩:=h
  obtain⟨t,rfl⟩:=rx
  obtain⟨u,rfl,t2,rfl⟩:=rv.one
  have fin:∀ (ta tb tc:Tok) (k:Nat),EP X pins σ Q (.ref s.heap.objs.size) { s with heap:=s.heap.push { cls:=.type "tuple",data:=.seq [.str (Txt.partition z y).1 ta,.str (Txt.partition z y).2.1 tb,.str (Txt.partition z y).2.2 tc].toArray },toks:=k }:=fun ta tb tc k =>
    ⟨.ref s.heap.objs.size,_,I.laid (t':=k) (o:=.tup [.str (Txt.partition z y).1,.str (Txt.partition z y).2.1,.str (Txt.partition z y).2.2]) (fun b o e=>Heap.get?_push_of_some _ e) (Nat.le_refl _) ⟨by show 3<=sizeLine;decide,_,.cons ⟨ta,rfl⟩ (.cons ⟨tb,rfl⟩ (.cons ⟨tc,rfl⟩ .nil)),_,Heap.get?_push_size _ rfl,rfl,_,rfl⟩,rfl,q _ I.fresh⟩
  refine call_meets F.slot_str_partition (typeIs_str _ _ _) F.entry_str_partition (F.args_str_partition_2 _ _) (meets_str_partition z y t t2 hy hz) ?_
  revert fin
  unfold Txt.partition
  cases Builtin.Str.occurrences z y 0 z.length 1 with
  | nil=>intro fin;exact fin _ _ _ _
  | cons i r=>intro fin;exact fin _ _ _ _
end
theorem jL {prog:Program}{w:World}{A:Around}{E:Value->Shared->Prop}{s:Shared}{l:Addr}{items:Array Value}{x:Value}{Q:List Value->Shared->Prop}(hl:s.heap.IsList l items)(hh:A.handled=none)(hx:items.toList.head? = some x)(hz:items.size<=16384)
    (q:∀ (h':Heap) (tk:Nat),(∀ b o,s.heap.get? b=some o->h'.get? b=some o)->Q [x,.ref h'.objs.size] { s with heap:=h'.push { cls:=.type "list",data:=.seq (items.toList.drop 1).toArray },toks:=tk }) :
    wpAny (model prog w) A (unpackItems (.ref l) 2 (some 1)) Q E s:=by
  have hpos:1<=items.size:=by
    cases h:items.toList with
    | nil=>rw [h] at hx;cases hx
    | cons a r=>have e:items.toList.length=items.size:=Array.length_toList;rw [h] at e;simp at e;omega
  have hlt:l≠s.heap.objs.size:=by obtain⟨o,ho,_⟩:=hl;exact Nat.ne_of_lt (Heap.lt_size ho)
  have ht1:items.toList.take 1=[x]:=by
    cases h:items.toList with
    | nil=>rw [h] at hx;cases hx
    | cons a r=>rw [h] at hx;cases hx;rfl
  unfold unpackItems
  refine wpAny_bind ?_
  unfold notIterableAtAll
  refine wpAny_bind (wpAny_specialOf hl.typeIs slot_list_iter.lookup (wpAny_pure ?_))
  simp only [Bool.false_eq_true,if_false]
  refine wpAny_bind (wpAny_holding (wpAny_pyIter_list hl ?_))
  refine wpAny_bind (wpAny_holding (PySem.W.kun_draw hlt 1 0 _ _ ⟨_,Heap.get?_push_size _ rfl,rfl,rfl⟩ (hl.push _) (by omega) fun h1 it1 sb1=>?_))
  have hl1:h1.IsList l items:=(hl.push _).extBut sb1.extBut hlt
  rw [List.drop_zero,ht1,if_neg (by simp)]
  obtain⟨oi,hoi,_⟩:=id it1
  obtain⟨ol,hol,_⟩:=id hl1
  refine wpAny_bind (wpAny_holding (PySem.W.kun_collect (s:={ s with heap:=h1 }) (T := "list_iterator") (.inr (.inr (.inl rfl))) (Walks.list (A:=A.in1) hh s.heap.objs.size l hlt items) (fun j u st=>st.1.typeIs) (k:=1) hpos ⟨it1,hl1⟩ (Heap.lt_size hoi) (Heap.lt_size hol) (fun h2 tk hk=>?_) (by rw [sizeLine_eq];omega)))
  rw [if_neg (by omega)]
  have e0:(items.toList.drop 1).length - (2 - 1 - 1)=(items.toList.drop 1).length:=by omega
  rw [e0,List.take_length,List.drop_length]
  have old:∀ b o,s.heap.get? b=some o->h2.get? b=some o:=fun b o e=>hk b o (Nat.ne_of_lt (Heap.lt_size e)) (sb1.extBut b o (Nat.ne_of_lt (Heap.lt_size e)) (Heap.get?_push_of_some _ e))
  exact wpAny_bind (wpAny_newList (wpAny_pure (q h2 tk old)) (by rw [List.length_drop,Array.length_toList,sizeLine_eq];omega))
section
variable {X:Cx}
def oT (K:PySem.W.Frag)(t:TGs):TG:=fun v σ H Q=>∃ a x xs,v=.ref a/\SqL K H a (x::xs)/\xs.length<=10000/\∀ l,H l=none->t [x,.ref l] σ (upd H l (.lst xs)) Q
theorem mO {e1 e2:Expr}{p2 pos:Pos}{k:Nat}{t:TGs}(hc:X.calm=true)(h:PGs X [e1,e2] t)(he:(assignEach [e1,.Starred e2 p2] X.env).map (·.2)=(assignEach [e1,e2] X.env).map (·.2):=by rfl)
    (hlen:(assignEach [e1,.Starred e2 p2] X.env).length=2:=by rfl)(hst:(assignEach [e1,.Starred e2 p2] X.env).findIdx? (·.1)=some 1:=by rfl):PG X (.Tuple [e1,.Starred e2 p2] k pos) (oT X.K t):=by
  intro pins s σ H v u Q I r hw
  obtain⟨a,x,xs,e,hq,hl,hw⟩:=hw
  subst e
  cases r
  obtain⟨its,rv,ht,hz⟩:=I.list hq
  cases rv with
  | cons ru rr =>
    rename_i u us
    rw [assign_Tuple]
    refine wpAny_bind (wpAny_standAt ?_)
    unfold unpack
    rw [hlen,hst,he]
    have hlen2:=rr.length
    refine wpAny_bind (wpAny_holding (jL ht.isList (I.ok.hd hc) rfl (by simp;omega) fun h' tk old=>?_))
    have I0:Inv X pins σ H { s with heap:=h',toks:=tk }:=I.kept old
    have I1:=I0.laid (t':=tk) (a:=h'.objs.size) (o:=.lst xs) (h':=h'.push { cls:=.type "list",data:=.seq us.toArray }) (fun b o e=>Heap.get?_push_of_some _ e) (Nat.le_refl _) ⟨by have lim:10000<=sizeLine:=(by decide);omega,us,0,rr,Heap.get?_push_size _ rfl⟩
    exact h pins _ σ _ [x,.ref h'.objs.size] _ Q I1 (.cons ru (.cons (show RelV (.ref h'.objs.size) (.ref h'.objs.size) from rfl) .nil)) (hw _ I0.fresh)
end
section
variable {X:Cx}
end
end L2
namespace TS
open PySem PyProof.Rows
def kv:Bool->Keyed->Array Keyed->Nat->Nat->Nat->StateT SortSt Sem (Option Nat):=sortPriv% PySem.Builtin.gallop
def kk (κ:KeyKind)(p:Keyed):κ.α:=(κ.keyOf p.1).getD κ.dflt
def Va (κ:KeyKind)(p:Keyed):Prop:=∃ a,κ.keyOf p.1=some a
theorem eh {κ:KeyKind}{xs:Array Keyed}{i:Nat}{p:Keyed}(h:xs[i]? = some p):KK κ xs i=kk κ p:=by
  unfold KK kk
  rw [h]
section
variable {prog:Program}{w:World}{A:Around}{E:Value->Shared->Prop}{s:Shared}{κ:KeyKind}
theorem oH (hO:κ.OneLt){st:SortSt}{x y:Keyed}{Q:Option Bool->SortSt->Prop}(hk:kindOf st=oneType')(hx:Va κ x)(hy:Va κ y)(h:Q (some (κ.blt (kk κ x) (kk κ y))) st):wpS (model prog w) A E s (lt' x y) Q st:=by
  obtain⟨a,ha⟩:=hx
  obtain⟨b,hb⟩:=hy
  have ea:kk κ x=a:=by unfold kk;rw [ha];rfl
  have eb:kk κ y=b:=by unfold kk;rw [hb];rfl
  rw [ea,eb] at h
  rw [lt'_eq]
  refine wpS_bind (wpS_get ?_)
  rw [hk,keyLt'_oneType]
  exact wpS_bind (wpS_lift (wpAny_attempt (hO prog w A _ s x.1 y.1 a b ha hb ⟨rfl,wpS_pure h⟩)))
theorem bB {arr:Array Keyed}{i:Nat}{p:Keyed}{st:SortSt}{Q:Keyed->SortSt->Prop}(h:arr[i]? = some p)(q:Q p st):wpS (model prog w) A E s (elem' arr i) Q st:=by
  rw [elem'_eq,h]
  exact wpS_pure q
def bey (κ:KeyKind)(left:Bool)(key:Keyed)(arr:Array Keyed)(base i:Nat):Bool:=if left=true then κ.blt (KK κ arr (base+i)) (kk κ key) else !κ.blt (kk κ key) (KK κ arr (base+i))
theorem lA (hO:κ.OneLt){left:Bool}{key:Keyed}{arr:Array Keyed}{base i:Nat}{st:SortSt}{Q:Option Bool->SortSt->Prop}(hk:kindOf st=oneType')(hkey:Va κ key)(hv:∃ p,arr[base+i]? = some p/\Va κ p)(h:Q (some (bey κ left key arr base i)) st) :
    wpS (model prog w) A E s (elem' arr (base+i) >>= fun x=>if left=true then lt' x key else lt' key x >>= fun l=>pure (l.map fun b=>!b)) Q st:=by
  obtain⟨p,hp,vp⟩:=hv
  unfold bey at h
  rw [eh hp] at h
  refine wpS_bind (bB hp ?_)
  cases left with
  | true =>
    rw [if_pos rfl] at h ⊢
    exact oH hO hk vp hkey h
  | false =>
    rw [if_neg Bool.false_ne_true] at h ⊢
    exact wpS_bind (oH hO hk hkey vp (wpS_pure h))
theorem jI (hO:κ.OneLt){left:Bool}{key:Keyed}{arr:Array Keyed}{base n hint:Nat}{st:SortSt}{Q:Option Nat->SortSt->Prop}(hk:kindOf st=oneType')(hkey:Va κ key)(hv:∀ i,i < n->∃ p,arr[base+i]? = some p/\Va κ p)(hn:hint < n)
    (mono:∀ i j,i<=j->j < n->bey κ left key arr base j=true->bey κ left key arr base i=true)
    (h:∀ k,k<=n->(∀ i,i < k->bey κ left key arr base i=true)->(∀ i,k<=i->i < n->bey κ left key arr base i=false)->Q (some k) st) :
    wpS (model prog w) A E s (kv left key arr base n hint) Q st:=by
  have down:∀ i j,i<=j->j < n->bey κ left key arr base i=false->bey κ left key arr base j=false:=fun i j hij hj e=>by
    cases q:bey κ left key arr base j with
    | false=>rfl
    | true=>rw [mono i j hij hj q] at e;cases e
  refine wpS_bind (lA hO hk hkey (hv hint hn) ?_)
  dsimp -zeta -zetaHave only
  lift_lets
  extract_lets jp
  have hjp:∀ lastofs ofs lo hi,lo<=hi->hi<=n->(∀ i,i < lo->bey κ left key arr base i=true)->(∀ i,hi<=i->i < n->bey κ left key arr base i=false)->wpS (model prog w) A E s (jp () lastofs ofs lo hi) Q st:=by
    intro lastofs ofs lo hi h1 h2 h3 h4
    refine wpS_bind (wpS_mono (wpS_forRange (I:=fun x c st'=>st'=st/\∃ l r,c=(none,l,r)/\l<=r/\r<=n/\r - l<=n - x/\(∀ i,i < l->bey κ left key arr base i=true)/\(∀ i,r<=i->i < n->bey κ left key arr base i=false))
      (Q:=fun c st'=>st'=st/\∃ l r,c=(none,l,r)/\r<=n/\(∀ i,i < r->bey κ left key arr base i=true)/\(∀ i,r<=i->i < n->bey κ left key arr base i=false)) ?_ ?_ ⟨rfl,lo,hi,rfl,h1,h2,by omega,h3,h4⟩) ?_)
    · rintro x c st' _ hx ⟨rfl,l,r,rfl,g1,g2,g3,g4,g5⟩
      dsimp only
      by_cases hge:l ≥ r
      · rw [if_pos hge]
        have e:l=r:=by omega
        subst e
        exact wpS_pure ⟨rfl,l,l,rfl,g2,g4,g5⟩
      · rw [if_neg hge]
        refine wpS_bind (lA hO hk hkey (hv _ (by omega)) ?_)
        dsimp only
        cases q:bey κ left key arr base (l+(r - l) / 2) with
        | true =>
          rw [if_pos rfl]
          exact wpS_pure ⟨rfl,_,r,rfl,by omega,g2,by omega,fun i hi=>mono i _ (by omega) (by omega) q,g5⟩
        | false =>
          rw [if_neg Bool.false_ne_true]
          exact wpS_pure ⟨rfl,l,_,rfl,by omega,by omega,by omega,g4,fun i hi hin=>down _ i hi hin q⟩
    · rintro c st' ⟨rfl,l,r,rfl,g1,g2,g3,g4,g5⟩
      have e:l=r:=by omega
      subst e
      exact⟨rfl,l,l,rfl,g2,g4,g5⟩
    · rintro c st' ⟨rfl,l,r,rfl,g2,g4,g5⟩
      exact wpS_pure (h r g2 g4 g5)
  clear_value jp
  cases q0:bey κ left key arr base hint with
  | true =>
    rw [if_pos rfl]
    refine wpS_bind (wpS_mono (wpS_forRange (I:=fun x c st'=>st'=st/\∃ lf of,c=(none,lf,of)/\x+1<=of/\lf < of/\hint+lf < n/\bey κ left key arr base (hint+lf)=true)
      (Q:=fun c st'=>st'=st/\∃ lf of,c=(none,lf,of)/\lf < of/\hint+lf < n/\bey κ left key arr base (hint+lf)=true/\(n - hint<=of\/bey κ left key arr base (hint+of)=false)) ?_ ?_ ⟨rfl,0,1,rfl,by omega,by omega,by omega,q0⟩) ?_)
    · rintro x c st' _ hx ⟨rfl,lf,of,rfl,g1,g2,g3,g4⟩
      dsimp only
      by_cases hge:of ≥ n - hint
      · rw [if_pos hge]
        exact wpS_pure ⟨rfl,lf,of,rfl,g2,g3,g4,.inl hge⟩
      · rw [if_neg hge]
        refine wpS_bind (lA hO hk hkey (hv _ (by omega)) ?_)
        dsimp only
        cases q:bey κ left key arr base (hint+of) with
        | true =>
          rw [if_neg (by simp)]
          exact wpS_pure ⟨rfl,of,_,rfl,by omega,by omega,by omega,q⟩
        | false =>
          rw [if_pos (show (!false)=true from rfl)]
          exact wpS_pure ⟨rfl,lf,of,rfl,g2,g3,g4,.inr q⟩
    · rintro c st' ⟨rfl,lf,of,rfl,g1,g2,g3,g4⟩
      exact⟨rfl,lf,of,rfl,g2,g3,g4,.inl (by omega)⟩
    · rintro c st' ⟨rfl,lf,of,rfl,g2,g3,g4,g5⟩
      dsimp only
      refine hjp _ _ _ _ (by omega) (by omega) (fun i hi=>mono i (hint+lf) (by omega) g3 g4) (fun i hi hin=>?_)
      rcases g5 with g5 | g5
      · omega
      · exact down (hint+of) i (by omega) hin g5
  | false =>
    rw [if_neg Bool.false_ne_true]
    refine wpS_bind (wpS_mono (wpS_forRange (I:=fun x c st'=>st'=st/\∃ lf of,c=(none,lf,of)/\x+1<=of/\lf < of/\lf<=hint/\bey κ left key arr base (hint - lf)=false)
      (Q:=fun c st'=>st'=st/\∃ lf of,c=(none,lf,of)/\lf < of/\lf<=hint/\bey κ left key arr base (hint - lf)=false/\(hint+1<=of\/bey κ left key arr base (hint - of)=true)) ?_ ?_ ⟨rfl,0,1,rfl,by omega,by omega,by omega,q0⟩) ?_)
    · rintro x c st' _ hx ⟨rfl,lf,of,rfl,g1,g2,g3,g4⟩
      dsimp only
      by_cases hge:of ≥ hint+1
      · rw [if_pos hge]
        exact wpS_pure ⟨rfl,lf,of,rfl,g2,g3,g4,.inl hge⟩
      · rw [if_neg hge]
        refine wpS_bind (lA hO hk hkey (hv _ (by omega)) ?_)
        dsimp only
        cases q:bey κ left key arr base (hint - of) with
        | true =>
          rw [if_pos rfl]
          exact wpS_pure ⟨rfl,lf,of,rfl,g2,g3,g4,.inr q⟩
        | false =>
          rw [if_neg Bool.false_ne_true]
          exact wpS_pure ⟨rfl,of,_,rfl,by omega,by omega,by omega,q⟩
    · rintro c st' ⟨rfl,lf,of,rfl,g1,g2,g3,g4⟩
      exact⟨rfl,lf,of,rfl,g2,g3,g4,.inl (by omega)⟩
    · rintro c st' ⟨rfl,lf,of,rfl,g2,g3,g4,g5⟩
      dsimp only
      refine hjp _ _ _ _ (by omega) (by omega) (fun i hi=>?_) (fun i hi hin=>down (hint - lf) i (by omega) hin g4)
      rcases g5 with g5 | g5
      · omega
      · exact mono i (hint - of) (by omega) (by omega) g5
end
def lK:Array Keyed->Array Keyed->StateT SortSt Sem (Array Keyed):=sortPriv% PySem.Builtin.mergeLo
def lG:Array Keyed->Array Keyed->StateT SortSt Sem (Array Keyed):=sortPriv% PySem.Builtin.mergeHi
def le (κ:KeyKind)(x y:Keyed):Prop:=κ.kle (kk κ x) (kk κ y)
def lt (κ:KeyKind)(x y:Keyed):Prop:=κ.klt (kk κ x) (kk κ y)
def SL (κ:KeyKind)(l:List Keyed):Prop:=l.Pairwise (le κ)
section
variable {κ:KeyKind}
theorem le_trans {x y z:Keyed}(a:le κ x y)(b:le κ y z):le κ x z:=KeyOrd.kle_trans a b
theorem le_of_lt {x y:Keyed}(a:lt κ x y):le κ x y:=KeyOrd.kle_of_klt a
theorem le_refl (x:Keyed):le κ x x:=KeyOrd.kle_refl _
structure Mg (κ:KeyKind)(LL o A B:List Keyed):Prop where
  perm:(o++(A++B)).Perm LL
  sa:SL κ (o++A)
  sb:SL κ (o++B)
def ft (κ:KeyKind)(LL m:List Keyed):Prop:=m.Perm LL/\SL κ m
theorem Mg.a {LL o c A B:List Keyed}(h:Mg κ LL o (c++A) B)(hc:∀ x∈c,∀ y∈B,le κ x y):Mg κ LL (o++c) A B:=by
  refine⟨?_,?_,?_⟩
  · have:=h.perm
    rw [List.append_assoc] at this
    rw [List.append_assoc]
    exact this
  · rw [List.append_assoc];exact h.sa
  · have s1:=h.sa
    have s2:=h.sb
    unfold SL at *
    rw [← List.append_assoc] at s1
    rw [List.pairwise_append] at s1 s2 ⊢
    refine⟨s1.1,s2.2.1,fun x hx y hy=>?_⟩
    rcases List.mem_append.mp hx with hx | hx
    · exact s2.2.2 x hx y hy
    · exact hc x hx y hy
theorem Mg.b {LL o c A B:List Keyed}(h:Mg κ LL o A (c++B))(hc:∀ y∈c,∀ x∈A,le κ y x):Mg κ LL (o++c) A B:=by
  refine⟨?_,?_,?_⟩
  · refine List.Perm.trans ?_ h.perm
    rw [List.append_assoc]
    refine List.Perm.append_left o ?_
    rw [← List.append_assoc,← List.append_assoc]
    exact List.Perm.append_right B List.perm_append_comm
  · have s1:=h.sa
    have s2:=h.sb
    unfold SL at *
    rw [← List.append_assoc] at s2
    rw [List.pairwise_append] at s1 s2 ⊢
    refine⟨s2.1,s1.2.1,fun x hx y hy=>?_⟩
    rcases List.mem_append.mp hx with hx | hx
    · exact s1.2.2 x hx y hy
    · exact hc x hx y hy
  · rw [List.append_assoc];exact h.sb
theorem Mg.endA {LL o A:List Keyed}(h:Mg κ LL o A []):ft κ LL (o++A):=⟨by have:=h.perm;rwa [List.append_nil] at this,h.sa⟩
theorem Mg.endB {LL o B:List Keyed}(h:Mg κ LL o [] B):ft κ LL (o++B):=⟨h.perm,h.sb⟩
theorem Mg.last {LL o B:List Keyed}{z:Keyed}(h:Mg κ LL o [z] B)(hz:∀ y∈B,le κ y z):ft κ LL (o++B++[z]):=by
  refine⟨?_,?_⟩
  · refine List.Perm.trans ?_ h.perm
    rw [List.append_assoc]
    exact List.Perm.append_left o List.perm_append_comm
  · have s1:=h.sa
    have s2:=h.sb
    unfold SL at *
    rw [List.pairwise_append] at s1 ⊢
    refine⟨s2,s1.2.1,fun x hx y hy=>?_⟩
    rcases List.mem_append.mp hx with hx | hx
    · exact s1.2.2 x hx y hy
    · rw [List.mem_singleton.mp hy];exact hz x hx
theorem SL.at {l:List Keyed}(h:SL κ l){i j:Nat}{x y:Keyed}(hij:i<=j)(hx:l[i]? = some x)(hy:l[j]? = some y):le κ x y:=by
  obtain⟨hi,ex⟩:=List.getElem?_eq_some_iff.mp hx
  obtain⟨hj,ey⟩:=List.getElem?_eq_some_iff.mp hy
  rcases Nat.lt_or_eq_of_le hij with q | q
  · rw [← ex,← ey]
    exact List.pairwise_iff_getElem.mp h i j hi hj q
  · subst q
    rw [← ex,← ey]
    exact le_refl _
theorem SL.head {l:List Keyed}{x:Keyed}(h:SL κ (x::l)):∀ y∈x::l,le κ x y:=fun y hy=>by
  rcases List.mem_cons.mp hy with e | e
  · rw [e];exact le_refl _
  · exact (List.pairwise_cons.mp h).1 y e
theorem SL.drop {l:List Keyed}(h:SL κ l)(n:Nat):SL κ (l.drop n):=List.Pairwise.sublist (List.drop_sublist _ _) h
theorem SL.take {l:List Keyed}(h:SL κ l)(n:Nat):SL κ (l.take n):=List.Pairwise.sublist (List.take_sublist _ _) h
end
section
variable {prog:Program}{w:World}{A:Around}{E:Value->Shared->Prop}{s:Shared}{κ:KeyKind}
theorem bZ (hO:κ.OneLt){left:Bool}{key:Keyed}{arr:Array Keyed}{base n hint:Nat}{st:SortSt}{Q:Option Nat->SortSt->Prop}(hk:kindOf st=oneType')(hkey:Va κ key)(hb:base+n<=arr.size)(va:∀ p∈(arr.toList.drop base).take n,Va κ p)(so:SL κ ((arr.toList.drop base).take n))(hn:hint < n)
    (h:∀ k,k<=n->(∀ x∈((arr.toList.drop base).take n).take k,if left=true then lt κ x key else le κ x key)->(∀ x∈((arr.toList.drop base).take n).drop k,if left=true then le κ key x else lt κ key x)->Q (some k) st) :
    wpS (model prog w) A E s (kv left key arr base n hint) Q st:=by
  have at_:∀ i,i < n->∃ p,arr[base+i]? = some p/\((arr.toList.drop base).take n)[i]? = some p:=fun i hi=>by
    refine⟨arr[base+i],getElem?_pos _ _ (by omega),?_⟩
    rw [List.getElem?_take_of_lt hi,List.getElem?_drop]
    simp
  have len:((arr.toList.drop base).take n).length=n:=by
    rw [List.length_take,List.length_drop,Array.length_toList]
    omega
  generalize (arr.toList.drop base).take n=S at va so h at_ len
  refine jI hO hk hkey (fun i hi=>?_) hn (fun i j hij hj e=>?_) fun k hkn h1 h2=>h k hkn (fun x hx=>?_) (fun x hx=>?_)
  · obtain⟨p,e1,e2⟩:=at_ i hi
    exact⟨p,e1,va p (List.mem_of_getElem? e2)⟩
  · obtain⟨p,e1,e2⟩:=at_ i (by omega)
    obtain⟨q,e3,e4⟩:=at_ j hj
    have hle:=so.at hij e2 e4
    unfold bey at e ⊢
    rw [eh e1]
    rw [eh e3] at e
    cases left with
    | true =>
      rw [if_pos rfl] at e ⊢
      exact KeyOrd.klt_of_kle_of_klt hle e
    | false =>
      rw [if_neg Bool.false_ne_true] at e ⊢
      have e':κ.blt (kk κ key) (kk κ q)=false:=by simpa using e
      have this:κ.blt (kk κ key) (kk κ p)=false:=KeyOrd.kle_trans hle e'
      rw [this]
      rfl
  · obtain⟨i,hi,ex⟩:=List.mem_iff_getElem.mp hx
    rw [List.length_take] at hi
    rw [List.getElem_take] at ex
    obtain⟨p,e1,e2⟩:=at_ i (by omega)
    have q:=h1 i (by omega)
    rw [List.getElem?_eq_getElem (by omega)] at e2
    rw [ex] at e2
    cases e2
    unfold bey at q
    rw [eh e1] at q
    cases left with
    | true=>exact q
    | false =>
      rw [if_neg Bool.false_ne_true] at q ⊢
      show κ.blt (kk κ key) (kk κ x)=false
      simpa using q
  · obtain⟨i,hi,ex⟩:=List.mem_iff_getElem.mp hx
    rw [List.length_drop] at hi
    rw [List.getElem_drop] at ex
    obtain⟨p,e1,e2⟩:=at_ (k+i) (by omega)
    have q:=h2 (k+i) (by omega) (by omega)
    rw [List.getElem?_eq_getElem (by omega)] at e2
    rw [ex] at e2
    cases e2
    unfold bey at q
    rw [eh e1] at q
    cases left with
    | true=>exact q
    | false =>
      rw [if_neg Bool.false_ne_true] at q ⊢
      show κ.blt (kk κ key) (kk κ x)=true
      simpa using q
end
def Eqv (st st':SortSt):Prop:=kindOf st'=kindOf st/\arrOf st'=arrOf st/\pendingOf st'=pendingOf st/\failedOf st'=failedOf st
theorem Eqv.refl (st:SortSt):Eqv st st:=⟨rfl,rfl,rfl,rfl⟩
def pb:Nat->StateT SortSt Sem Unit:=sortPriv% PySem.Builtin.setMinGallop
theorem i7 {prog:Program}{w:World}{A:Around}{E:Value->Shared->Prop}{s:Shared}{g:Nat}{st0 st:SortSt}{Q:Unit->SortSt->Prop}(e:Eqv st0 st)(h:∀ st',Eqv st0 st'->Q () st'):wpS (model prog w) A E s (pb g) Q st :=
  wpS_modify (h _ e)
theorem aP {a:Array Keyed}{i:Nat}{x:Keyed}(h:a[i]? = some x):a.toList.drop i=[x]++a.toList.drop (i+1):=by
  obtain⟨hi,e⟩:=Array.getElem?_eq_some_iff.mp h
  rw [List.drop_eq_getElem_cons (by simpa using hi)]
  simp [e]
theorem dI (o:Array Keyed)(x:Keyed):(o.push x).toList=o.toList++[x]:=by simp
theorem jk (o a:Array Keyed)(i k:Nat):(o++a.extract i (i+k)).toList=o.toList++(a.toList.drop i).take k:=by
  simp [Array.toList_extract,List.extract_eq_take_drop]
theorem cW (o a:Array Keyed)(i:Nat):(o++a.extract i a.size).toList=o.toList++a.toList.drop i:=by
  simp only [Array.toList_append,Array.toList_extract,List.extract_eq_take_drop]
  rw [List.take_of_length_le (by simp)]
section
variable {κ:KeyKind}{LL:List Keyed}{a b out:Array Keyed}{ia ib:Nat}
theorem lV (M:Mg κ LL out.toList (a.toList.drop ia) (b.toList.drop ib))(c:ib=b.size):ft κ LL (out++a.extract ia a.size++b.extract ib b.size).toList:=by
  rw [cW,cW]
  have e:b.toList.drop ib=[]:=List.drop_of_length_le (by rw [Array.length_toList];omega)
  rw [e] at M ⊢
  rw [List.append_nil]
  exact M.endA
theorem oW (M:Mg κ LL out.toList (a.toList.drop ia) (b.toList.drop ib))(c:ia=a.size):ft κ LL (out++a.extract ia a.size++b.extract ib b.size).toList:=by
  rw [cW,cW]
  have e:a.toList.drop ia=[]:=List.drop_of_length_le (by rw [Array.length_toList];omega)
  rw [e] at M ⊢
  rw [List.append_nil]
  exact M.endB
theorem ma (M:Mg κ LL out.toList (a.toList.drop ia) (b.toList.drop ib))(c:ia+1=a.size)(P2:∀ y∈b.toList,∀ z∈a.toList.drop (a.size - 1),le κ y z):ft κ LL (out++b.extract ib b.size++a.extract ia a.size).toList:=by
  rw [cW,cW]
  have hp:a[ia]? = some a[ia]:=getElem?_pos _ _ (by omega)
  have e:a.toList.drop ia=[a[ia]]:=by
    rw [aP hp,List.drop_of_length_le (by rw [Array.length_toList];omega),List.append_nil]
  rw [e] at M ⊢
  refine M.last fun y hy=>P2 y (List.mem_of_mem_drop hy) _ ?_
  rw [show a.size - 1=ia by omega,e]
  exact List.mem_singleton.mpr rfl
theorem cV (x:Array Keyed)(i:Nat):(x.toList.drop i).take (x.size - i)=x.toList.drop i:=List.take_of_length_le (by rw [List.length_drop,Array.length_toList];omega)
theorem gQ (x:Array Keyed)(i k:Nat):x.toList.drop i=(x.toList.drop i).take k++x.toList.drop (i+k):=by
  have:=(List.take_append_drop k (x.toList.drop i)).symm
  rwa [List.drop_drop] at this
theorem bQ {x:Array Keyed}{i:Nat}(h:i < x.size):∃ p,x[i]? = some p/\p∈x.toList:=⟨x[i],getElem?_pos x i h,by simp⟩
end
section
variable {prog:Program}{w:World}{A:Around}{E:Value->Shared->Prop}{s:Shared}{κ:KeyKind}
theorem ifp {M:Model}{σ α:Type}{c:Prop}[Decidable c]{m1 m2:StateT σ Sem α}{Q:α->σ->Prop}{st:σ}(hc:c)(h:wpS M A E s m1 Q st):wpS M A E s (if c then m1 else m2) Q st:=by
  rw [if_pos hc]
  exact h
theorem ifn {M:Model}{σ α:Type}{c:Prop}[Decidable c]{m1 m2:StateT σ Sem α}{Q:α->σ->Prop}{st:σ}(hc:¬ c)(h:wpS M A E s m2 Q st):wpS M A E s (if c then m1 else m2) Q st:=by
  rw [if_neg hc]
  exact h
theorem ifs {M:Model}{σ α:Type}{c:Prop}[Decidable c]{m1 m2:StateT σ Sem α}{Q:α->σ->Prop}{st:σ}(h1:c->wpS M A E s m1 Q st)(h2:¬ c->wpS M A E s m2 Q st):wpS M A E s (if c then m1 else m2) Q st:=by
  by_cases hc:c
  · exact ifp hc (h1 hc)
  · exact ifn hc (h2 hc)
theorem mh {M:Model}{σ α β γ:Type}{jp:Unit->β->γ->StateT σ Sem α}{m:StateT σ Sem α}{Q:α->σ->Prop}{st:σ}(R:β->γ->Prop)(h1:∀ x y,R x y->wpS M A E s (jp () x y) Q st)(h2:(∀ x y,R x y->wpS M A E s (jp () x y) Q st)->wpS M A E s m Q st):wpS M A E s m Q st:=h2 h1
theorem ifj {M:Model}{σ α β:Type}{c:Prop}[Decidable c]{jp:Unit->β->StateT σ Sem α}{x y:β}{Q:α->σ->Prop}{st:σ}(h:∀ g,wpS M A E s (jp () g) Q st):wpS M A E s (if c then jp () x else jp () y) Q st:=ifs (fun _=>h x) (fun _=>h y)
theorem iF (hO:κ.OneLt){a b:Array Keyed}{st:SortSt}{Q:Array Keyed->SortSt->Prop}(hk:kindOf st=oneType')(va:∀ p∈a.toList,Va κ p)(vb:∀ p∈b.toList,Va κ p)(ha:1<=a.size)(hb:1<=b.size)(sa:SL κ a.toList)(sb:SL κ b.toList)
    (P1:∀ y∈b.toList.take 1,∀ x∈a.toList,le κ y x)(P2:∀ y∈b.toList,∀ z∈a.toList.drop (a.size - 1),le κ y z)
    (h:∀ m st',Eqv st st'->ft κ (a.toList++b.toList) m.toList->Q m st'):wpS (model prog w) A E s (lK a b) Q st:=by
  have hL:∃ LL,LL=a.toList++b.toList:=⟨_,rfl⟩
  obtain⟨LL,eL⟩:=hL
  rw [← eL] at h
  obtain⟨b0,hb0,mb0⟩:=bQ (x:=b) (i:=0) (by omega)
  have M0:Mg κ LL [] a.toList b.toList:=⟨by rw [eL];exact List.Perm.refl _,sa,sb⟩
  have M1:Mg κ LL (#[b0]:Array Keyed).toList (a.toList.drop 0) (b.toList.drop 1):=by
    have e:b.toList=[b0]++b.toList.drop 1:=by
      have:=aP hb0
      rwa [List.drop_zero] at this
    have M0':=M0
    rw [e] at M0'
    rw [List.drop_zero]
    refine Mg.b M0' fun y hy x hx=>P1 y ?_ x hx
    rw [e]
    rw [List.mem_singleton.mp hy]
    simp
  refine wpS_bind (wpS_lift (wpAny_rule ⟨rfl,?_⟩))
  refine wpS_bind (bB hb0 ?_)
  by_cases c1:1=b.size
  · rw [if_pos (by simpa using c1)]
    exact wpS_pure (h _ _ (Eqv.refl _) (lV M1 c1))
  rw [if_neg (by simpa using c1)]
  by_cases c2:0+1=a.size
  · rw [if_pos (by simpa using c2)]
    exact wpS_pure (h _ _ (Eqv.refl _) (ma M1 c2 P2))
  rw [if_neg (by simpa using c2)]
  refine wpS_bind (wpS_get ?_)
  refine wpS_bind (wpS_mono (wpS_forRange (I:=fun x c st'=>Eqv st st'/\∃ out ia ib mg,c=(none,out,ia,ib,mg)/\Mg κ LL out.toList (a.toList.drop ia) (b.toList.drop ib)/\ia+1 < a.size/\ib < b.size/\x+1<=ia+ib)
    (Q:=fun c st'=>Eqv st st'/\∃ m r,c=(some m,r)/\ft κ LL m.toList) ?_ ?_ ⟨Eqv.refl _,_,_,_,_,rfl,M1,by omega,by omega,by omega⟩) ?_)
  rotate_left
  · rintro c st' ⟨ev,out,ia,ib,mg,rfl,M,hia,hib,hpr⟩
    omega
  · rintro c st' ⟨ev,m,r,rfl,g⟩
    exact wpS_pure (h _ _ ev g)
  rintro x c st1 _ hx ⟨ev1,out,ia,ib,mg,rfl,M,hia,hib,hpr⟩
  refine wpS_bind (wpS_mono (wpS_forRange (I:=fun y c st2=>Eqv st st2/\∃ out' ia' ib' ac bc,c=(none,out',ia',ib',ac,bc)/\Mg κ LL out'.toList (a.toList.drop ia') (b.toList.drop ib')/\ia'+1 < a.size/\ib' < b.size/\ia+ib+y<=ia'+ib')
    (Q:=fun c st2=>Eqv st st2/\((∃ m r,c=(some m,r)/\ft κ LL m.toList)\/∃ out' ia' ib' ac bc,c=(none,out',ia',ib',ac,bc)/\Mg κ LL out'.toList (a.toList.drop ia') (b.toList.drop ib')/\ia'+1 < a.size/\ib' < b.size/\ia+ib+1<=ia'+ib')) ?_ ?_ ⟨ev1,out,ia,ib,_,_,rfl,M,hia,hib,Nat.le_refl _⟩) ?_)
  · rintro y c st2 _ hy ⟨ev2,out',ia',ib',ac,bc,rfl,M',hia',hib',hpr'⟩
    obtain⟨q,hq,mq⟩:=bQ hib'
    obtain⟨p,hp,mp⟩:=bQ (x:=a) (i:=ia') (by omega)
    have sB:=sb.drop ib'
    have sA:=sa.drop ia'
    rw [aP hq] at sB
    rw [aP hp] at sA
    refine wpS_bind (bB hq (wpS_bind (bB hp (wpS_bind (oH hO (ev2.1.trans hk) (vb q mq) (va p mp) ?_)))))
    cases hw:κ.blt (kk κ q) (kk κ p) with
    | true =>
      refine ifp rfl ?_
      refine wpS_bind (bB hq ?_)
      have M2:Mg κ LL (out'.push q).toList (a.toList.drop ia') (b.toList.drop (ib'+1)):=by
        rw [dI]
        refine Mg.b (by rw [← aP hq];exact M') fun y hy x hx=>?_
        rw [List.mem_singleton.mp hy]
        rw [aP hp] at hx
        exact le_trans (le_of_lt hw) (sA.head x hx)
      by_cases c:ib'+1=b.size
      · refine ifp (beq_iff_eq.mpr c) ?_
        exact wpS_pure ⟨ev2,.inl ⟨_,_,rfl,lV M2 c⟩⟩
      refine ifn (fun z=>c (beq_iff_eq.mp z)) ?_
      refine ifs (fun _=>?_) (fun _=>?_)
      · exact wpS_pure ⟨ev2,.inr ⟨_,ia',ib'+1,_,_,rfl,M2,hia',by omega,by omega⟩⟩
      · exact wpS_pure ⟨ev2,_,ia',ib'+1,_,_,rfl,M2,hia',by omega,by omega⟩
    | false =>
      refine ifn Bool.false_ne_true ?_
      refine wpS_bind (bB hp ?_)
      have M2:Mg κ LL (out'.push p).toList (a.toList.drop (ia'+1)) (b.toList.drop ib'):=by
        rw [dI]
        refine Mg.a (by rw [← aP hp];exact M') fun y hy x hx=>?_
        rw [List.mem_singleton.mp hy]
        rw [aP hq] at hx
        exact le_trans (show le κ p q from hw) (sB.head x hx)
      by_cases c:ia'+1+1=a.size
      · refine ifp (beq_iff_eq.mpr c) ?_
        exact wpS_pure ⟨ev2,.inl ⟨_,_,rfl,ma M2 c P2⟩⟩
      refine ifn (fun z=>c (beq_iff_eq.mp z)) ?_
      refine ifs (fun _=>?_) (fun _=>?_)
      · exact wpS_pure ⟨ev2,.inr ⟨_,ia'+1,ib',_,_,rfl,M2,by omega,by omega,by omega⟩⟩
      · exact wpS_pure ⟨ev2,_,ia'+1,ib',_,_,rfl,M2,by omega,by omega,by omega⟩
  · rintro c st2 ⟨ev2,out',ia',ib',ac,bc,rfl,M',hia',hib',hpr'⟩
    exact⟨ev2,.inr ⟨_,_,_,_,_,rfl,M',hia',hib',by omega⟩⟩
  rintro c st2 ⟨ev2,hc⟩
  rcases hc with ⟨m,r,rfl,g⟩ | ⟨out1,ia1,ib1,ac1,bc1,rfl,N1,hia1,hib1,hpr1⟩
  · exact wpS_pure ⟨ev2,m,_,rfl,g⟩
  refine wpS_bind (wpS_lift (wpAny_rule ⟨rfl,?_⟩))
  refine wpS_bind (wpS_mono (wpS_forRange (I:=fun y c st3=>Eqv st st3/\∃ out' ia' ib' mg' ac bc,c=(none,out',ia',ib',mg',ac,bc)/\Mg κ LL out'.toList (a.toList.drop ia') (b.toList.drop ib')/\ia'+1 < a.size/\ib' < b.size/\ia1+ib1<=ia'+ib')
    (Q:=fun c st3=>Eqv st st3/\((∃ m r,c=(some m,r)/\ft κ LL m.toList)\/∃ out' ia' ib' mg' ac bc,c=(none,out',ia',ib',mg',ac,bc)/\Mg κ LL out'.toList (a.toList.drop ia') (b.toList.drop ib')/\ia'+1 < a.size/\ib' < b.size/\ia1+ib1<=ia'+ib')) ?_ ?_ ⟨ev2,out1,ia1,ib1,_,ac1,bc1,rfl,N1,hia1,hib1,Nat.le_refl _⟩) ?_)
  rotate_left
  · rintro c st3 ⟨ev3,out',ia',ib',mg',ac,bc,rfl,M',hia',hib',hpr'⟩
    exact⟨ev3,.inr ⟨_,_,_,_,_,_,rfl,M',hia',hib',by omega⟩⟩
  · rintro c st3 ⟨ev3,hc⟩
    rcases hc with ⟨m,r,rfl,g⟩ | ⟨out2,ia2,ib2,mg2,ac2,bc2,rfl,N2,hia2,hib2,hpr2⟩
    · exact wpS_pure ⟨ev3,m,_,rfl,g⟩
    refine wpS_bind (i7 ev3 fun st4 ev4=>?_)
    exact wpS_pure ⟨ev4,_,ia2,ib2,_,rfl,N2,hia2,hib2,by omega⟩
  rintro y c st3 _ hy ⟨ev3,out2,ia2,ib2,mg2,ac2,bc2,rfl,M',hia',hib',hpr'⟩
  obtain⟨q,hq,mq⟩:=bQ hib'
  have sB:=sb.drop ib2
  rw [aP hq] at sB
  dsimp -zeta -zetaHave only
  lift_lets
  extract_lets s1 v1 s2 v2 s3 v3 s4 v4 s5 v5 v6 v7 jp
  refine ifj (jp:=jp) (fun g=>?_)
  · refine wpS_bind (i7 ev3 fun st4 ev4=>?_)
    refine wpS_bind (bB hq (wpS_bind (bZ (left:=false) (key:=q) (arr:=a) (base:=ia2) (n:=a.size - ia2) (hint:=0) hO (ev4.1.trans hk) (vb q mq) (by omega) (by rw [cV];exact fun p hp=>va p (List.mem_of_mem_drop hp)) (by rw [cV];exact sa.drop _) (by omega) fun k hkn g1 g2=>?_)))
    rw [cV] at g1 g2
    rw [List.drop_drop] at g2
    simp only [Bool.false_eq_true,if_false] at g1 g2
    dsimp -zeta -zetaHave only
    lift_lets
    extract_lets w1 jp2
    refine mh (jp:=jp2) (fun (out3:Array Keyed) (ia3:Nat)=>Mg κ LL out3.toList (a.toList.drop ia3) (b.toList.drop ib2)/\ia3+1 < a.size/\ia2<=ia3/\∀ x∈a.toList.drop ia3,le κ q x) (fun out3 ia3 hR=>?_) (fun hj=>?_)
    · obtain⟨M3,hA1,hA2,hA⟩:=hR
      refine wpS_bind (bB hq ?_)
      have M4:Mg κ LL (out3.push q).toList (a.toList.drop ia3) (b.toList.drop (ib2+1)):=by
        rw [dI]
        refine Mg.b (by rw [← aP hq];exact M3) fun y hy x hx=>?_
        rw [List.mem_singleton.mp hy]
        exact hA x hx
      by_cases c4:ib2+1=b.size
      · refine ifp (beq_iff_eq.mpr c4) ?_
        exact wpS_pure ⟨ev4,.inl ⟨_,_,rfl,lV M4 c4⟩⟩
      refine ifn (fun z=>c4 (beq_iff_eq.mp z)) ?_
      obtain⟨p,hp,mp⟩:=bQ (x:=a) (i:=ia3) (by omega)
      refine wpS_bind (bB hp (wpS_bind (bZ (left:=true) (key:=p) (arr:=b) (base:=ib2+1) (n:=b.size - (ib2+1)) (hint:=0) hO (ev4.1.trans hk) (va p mp) (by omega) (by rw [cV];exact fun p hp=>vb p (List.mem_of_mem_drop hp)) (by rw [cV];exact sb.drop _) (by omega) fun k2 hkn2 g3 g4=>?_)))
      rw [cV] at g3 g4
      rw [List.drop_drop] at g4
      simp only [if_true] at g3 g4
      dsimp -zeta -zetaHave only
      lift_lets
      extract_lets w3 jp3
      refine mh (jp:=jp3) (fun (out5:Array Keyed) (ib3:Nat)=>Mg κ LL out5.toList (a.toList.drop ia3) (b.toList.drop ib3)/\ib3 < b.size/\ib2+1<=ib3/\∀ y∈b.toList.drop ib3,le κ p y) (fun out5 ib3 hR=>?_) (fun hj3=>?_)
      · obtain⟨M5,hB1,hB2,hB⟩:=hR
        refine wpS_bind (bB hp ?_)
        have M6:Mg κ LL (out5.push p).toList (a.toList.drop (ia3+1)) (b.toList.drop ib3):=by
          rw [dI]
          refine Mg.a (by rw [← aP hp];exact M5) fun y hy x hx=>?_
          rw [List.mem_singleton.mp hy]
          exact hB x hx
        by_cases c7:ia3+1+1=a.size
        · refine ifp (beq_iff_eq.mpr c7) ?_
          exact wpS_pure ⟨ev4,.inl ⟨_,_,rfl,ma M6 c7 P2⟩⟩
        refine ifn (fun z=>c7 (beq_iff_eq.mp z)) ?_
        refine ifs (fun _=>?_) (fun _=>?_)
        · exact wpS_pure ⟨ev4,.inr ⟨_,ia3+1,ib3,_,_,_,rfl,M6,by omega,by omega,by omega⟩⟩
        · exact wpS_pure ⟨ev4,_,ia3+1,ib3,_,_,_,rfl,M6,by omega,by omega,by omega⟩
      by_cases hk2:k2=0
      · subst hk2
        rw [Nat.add_zero] at g4
        exact ifn (show ¬ (0 > 0) by omega) (hj3 _ (ib2+1) ⟨M4,by omega,Nat.le_refl _,g4⟩)
      · refine ifp (show k2 > 0 by omega) ?_
        have M5:Mg κ LL ((out3.push q)++b.extract (ib2+1) (ib2+1+k2)).toList (a.toList.drop ia3) (b.toList.drop (ib2+1+k2)):=by
          rw [jk]
          refine Mg.b (by rw [← gQ];exact M4) fun y hy x hx=>?_
          have sA:=sa.drop ia3
          rw [aP hp] at sA
          rw [aP hp] at hx
          exact le_trans (le_of_lt (g3 y hy)) (sA.head x hx)
        by_cases c5:ib2+1+k2=b.size
        · refine ifp (beq_iff_eq.mpr c5) ?_
          exact wpS_pure ⟨ev4,.inl ⟨_,_,rfl,lV M5 c5⟩⟩
        exact ifn (fun z=>c5 (beq_iff_eq.mp z)) (hj3 _ (ib2+1+k2) ⟨M5,by omega,by omega,g4⟩)
    by_cases hk0:k=0
    · subst hk0
      rw [Nat.add_zero] at g2
      exact ifn (show ¬ (0 > 0) by omega) (hj _ ia2 ⟨M',hia',Nat.le_refl _,fun x hx=>le_of_lt (g2 x hx)⟩)
    · refine ifp (show k > 0 by omega) ?_
      have M3:Mg κ LL (out2++a.extract ia2 (ia2+k)).toList (a.toList.drop (ia2+k)) (b.toList.drop ib2):=by
        rw [jk]
        refine Mg.a (by rw [← gQ];exact M') fun y hy x hx=>?_
        rw [aP hq] at hx
        exact le_trans (g1 y hy) (sB.head x hx)
      by_cases c2':ia2+k+1=a.size
      · refine ifp (beq_iff_eq.mpr c2') ?_
        exact wpS_pure ⟨ev4,.inl ⟨_,_,rfl,ma M3 c2' P2⟩⟩
      refine ifn (fun z=>c2' (beq_iff_eq.mp z)) ?_
      by_cases c3:ia2+k=a.size
      · refine ifp (beq_iff_eq.mpr c3) ?_
        exact wpS_pure ⟨ev4,.inl ⟨_,_,rfl,oW M3 c3⟩⟩
      exact ifn (fun z=>c3 (beq_iff_eq.mp z)) (hj _ (ia2+k) ⟨M3,by omega,by omega,fun x hx=>le_of_lt (g2 x hx)⟩)
end
section
variable {κ:KeyKind}
structure MgH (κ:KeyKind)(LL o A B:List Keyed):Prop where
  perm:(A++(B++o)).Perm LL
  sa:SL κ (A++o)
  sb:SL κ (B++o)
theorem MgH.a {LL o c A B:List Keyed}(h:MgH κ LL o (A++c) B)(hc:∀ x∈c,∀ y∈B,le κ y x):MgH κ LL (c++o) A B:=by
  refine⟨?_,?_,?_⟩
  · refine List.Perm.trans ?_ h.perm
    rw [List.append_assoc]
    refine List.Perm.append_left A ?_
    rw [← List.append_assoc,← List.append_assoc]
    exact List.Perm.append_right o List.perm_append_comm
  · rw [← List.append_assoc];exact h.sa
  · have s1:=h.sa
    have s2:=h.sb
    unfold SL at *
    rw [List.append_assoc,List.pairwise_append] at s1
    rw [List.pairwise_append] at s2 ⊢
    refine⟨s2.1,s1.2.1,fun x hx y hy=>?_⟩
    rcases List.mem_append.mp hy with hy | hy
    · exact hc y hy x hx
    · exact s2.2.2 x hx y hy
theorem MgH.b {LL o c A B:List Keyed}(h:MgH κ LL o A (B++c))(hc:∀ y∈c,∀ x∈A,le κ x y):MgH κ LL (c++o) A B:=by
  refine⟨?_,?_,?_⟩
  · have:=h.perm
    rw [List.append_assoc] at this
    exact this
  · have s1:=h.sa
    have s2:=h.sb
    unfold SL at *
    rw [List.append_assoc,List.pairwise_append] at s2
    rw [List.pairwise_append] at s1 ⊢
    refine⟨s1.1,s2.2.1,fun x hx y hy=>?_⟩
    rcases List.mem_append.mp hy with hy | hy
    · exact hc y hy x hx
    · exact s1.2.2 x hx y hy
  · rw [← List.append_assoc];exact h.sb
theorem MgH.endA {LL o A:List Keyed}(h:MgH κ LL o A []):ft κ LL (A++o):=⟨h.perm,h.sa⟩
theorem MgH.endB {LL o B:List Keyed}(h:MgH κ LL o [] B):ft κ LL (B++o):=⟨h.perm,h.sb⟩
theorem MgH.first {LL o A:List Keyed}{z:Keyed}(h:MgH κ LL o A [z])(hz:∀ x∈A,le κ z x):ft κ LL ([z]++A++o):=by
  refine⟨?_,?_⟩
  · refine List.Perm.trans ?_ h.perm
    rw [← List.append_assoc]
    exact List.Perm.append_right o List.perm_append_comm
  · have s1:=h.sa
    have s2:=h.sb
    unfold SL at *
    rw [List.append_assoc,List.singleton_append,List.pairwise_cons]
    rw [List.singleton_append,List.pairwise_cons] at s2
    refine⟨fun y hy=>?_,s1⟩
    rcases List.mem_append.mp hy with hy | hy
    · exact hz y hy
    · exact s2.1 y hy
theorem cr {a:Array Keyed}{n:Nat}{x:Keyed}(h:a[n]? = some x):a.toList.take (n+1)=a.toList.take n++[x]:=by
  rw [List.take_add_one]
  have:a.toList[n]? = some x:=by simpa using h
  rw [this]
  rfl
theorem d7 (o:Array Keyed)(x:Keyed):(o.push x).toList.reverse=[x]++o.toList.reverse:=by simp
theorem jY (o a:Array Keyed)(i n:Nat):(o++(a.extract i n).reverse).toList.reverse=(a.toList.take n).drop i++o.toList.reverse:=by
  simp [Array.toList_extract,List.extract_eq_take_drop,List.drop_take]
theorem jc (a:Array Keyed){i n:Nat}(h:i<=n):a.toList.take n=a.toList.take i++(a.toList.take n).drop i:=by
  have:=(List.take_append_drop i (a.toList.take n)).symm
  rwa [List.take_take,Nat.min_eq_left h] at this
theorem gD (o a b:Array Keyed)(na nb:Nat):(a.extract 0 na++b.extract 0 nb++o.reverse).toList=a.toList.take na++b.toList.take nb++o.toList.reverse:=by
  simp [Array.toList_extract,List.extract_eq_take_drop]
theorem SL.lastOf {l:List Keyed}{x:Keyed}(h:SL κ (l++[x])):∀ y∈l++[x],le κ y x:=fun y hy=>by
  rcases List.mem_append.mp hy with e | e
  · exact (List.pairwise_append.mp h).2.2 y e x (List.mem_singleton.mpr rfl)
  · rw [List.mem_singleton.mp e];exact le_refl _
end
section
variable {κ:KeyKind}{LL:List Keyed}{a b out:Array Keyed}{na nb:Nat}
theorem oG (M:MgH κ LL out.toList.reverse (a.toList.take na) (b.toList.take nb))(c:na=0):ft κ LL (a.extract 0 na++b.extract 0 nb++out.reverse).toList:=by
  subst c
  rw [gD,List.take_zero,List.nil_append]
  rw [List.take_zero] at M
  exact M.endB
theorem pD (M:MgH κ LL out.toList.reverse (a.toList.take na) (b.toList.take nb))(c:nb=0):ft κ LL (a.extract 0 na++b.extract 0 nb++out.reverse).toList:=by
  subst c
  rw [gD,List.take_zero,List.append_nil]
  rw [List.take_zero] at M
  exact M.endA
theorem oF (M:MgH κ LL out.toList.reverse (a.toList.take na) (b.toList.take nb))(c:nb=1)(hb:1<=b.size)(P1:∀ y∈b.toList.take 1,∀ x∈a.toList,le κ y x):ft κ LL (b.extract 0 nb++a.extract 0 na++out.reverse).toList:=by
  subst c
  rw [gD]
  have hp:b[0]? = some b[0]:=getElem?_pos _ _ (by omega)
  have e:b.toList.take 1=[b[0]]:=by rw [cr hp,List.take_zero,List.nil_append]
  rw [e] at M P1 ⊢
  exact M.first fun x hx=>P1 _ (List.mem_singleton.mpr rfl) x (List.mem_of_mem_take hx)
end
section
variable {prog:Program}{w:World}{A:Around}{E:Value->Shared->Prop}{s:Shared}{κ:KeyKind}
theorem iQ (hO:κ.OneLt){a b:Array Keyed}{st:SortSt}{Q:Array Keyed->SortSt->Prop}(hk:kindOf st=oneType')(va:∀ p∈a.toList,Va κ p)(vb:∀ p∈b.toList,Va κ p)(ha:1<=a.size)(hb:1<=b.size)(sa:SL κ a.toList)(sb:SL κ b.toList)
    (P1:∀ y∈b.toList.take 1,∀ x∈a.toList,le κ y x)(P2:∀ y∈b.toList,∀ z∈a.toList.drop (a.size - 1),le κ y z)
    (h:∀ m st',Eqv st st'->ft κ (a.toList++b.toList) m.toList->Q m st'):wpS (model prog w) A E s (lG a b) Q st:=by
  have hL:∃ LL,LL=a.toList++b.toList:=⟨_,rfl⟩
  obtain⟨LL,eL⟩:=hL
  rw [← eL] at h
  obtain⟨a0,ha0,ma0⟩:=bQ (x:=a) (i:=a.size - 1) (by omega)
  have M1:MgH κ LL (#[a0]:Array Keyed).toList.reverse (a.toList.take (a.size - 1)) (b.toList.take b.size):=by
    have e:a.toList=a.toList.take (a.size - 1)++[a0]:=by
      have:=cr ha0
      rwa [show a.size - 1+1=a.size by omega,List.take_of_length_le (by rw [Array.length_toList];exact Nat.le_refl _)] at this
    have M0:MgH κ LL [] (a.toList.take (a.size - 1)++[a0]) b.toList:=by
      refine⟨?_,?_,?_⟩
      · rw [← e,List.append_nil,eL]
      · rw [← e,List.append_nil];exact sa
      · rw [List.append_nil];exact sb
    rw [List.take_of_length_le (l:=b.toList) (by rw [Array.length_toList];exact Nat.le_refl _)]
    refine MgH.a M0 fun x hx y hy=>P2 y hy x ?_
    rw [aP ha0,List.mem_singleton.mp hx]
    simp
  refine wpS_bind (wpS_lift (wpAny_rule ⟨rfl,?_⟩))
  refine wpS_bind (bB ha0 ?_)
  by_cases c1:a.size - 1=0
  · refine ifp (beq_iff_eq.mpr c1) ?_
    exact wpS_pure (h _ _ (Eqv.refl _) (oG M1 c1))
  refine ifn (fun z=>c1 (beq_iff_eq.mp z)) ?_
  by_cases c2:b.size=1
  · refine ifp (beq_iff_eq.mpr c2) ?_
    exact wpS_pure (h _ _ (Eqv.refl _) (oF M1 c2 hb P1))
  refine ifn (fun z=>c2 (beq_iff_eq.mp z)) ?_
  refine wpS_bind (wpS_get ?_)
  refine wpS_bind (wpS_mono (wpS_forRange (I:=fun x c st'=>Eqv st st'/\∃ na nb out mg,c=(none,na,nb,out,mg)/\MgH κ LL out.toList.reverse (a.toList.take na) (b.toList.take nb)/\1<=na/\na<=a.size/\2<=nb/\nb<=b.size/\na+nb+x+1<=a.size+b.size)
    (Q:=fun c st'=>Eqv st st'/\∃ m r,c=(some m,r)/\ft κ LL m.toList) ?_ ?_ ⟨Eqv.refl _,a.size - 1,b.size,_,_,rfl,M1,by omega,by omega,by omega,by omega,by omega⟩) ?_)
  rotate_left
  · rintro c st' ⟨ev,na,nb,out,mg,rfl,M,_,_,_,_,hpr⟩
    omega
  · rintro c st' ⟨ev,m,r,rfl,g⟩
    exact wpS_pure (h _ _ ev g)
  rintro x c st1 _ hx ⟨ev1,na,nb,out,mg,rfl,M,hna,hna2,hnb,hnb2,hpr⟩
  refine wpS_bind (wpS_mono (wpS_forRange (I:=fun y c st2=>Eqv st st2/\∃ na' nb' out' ac bc,c=(none,na',nb',out',ac,bc)/\MgH κ LL out'.toList.reverse (a.toList.take na') (b.toList.take nb')/\1<=na'/\na'<=a.size/\2<=nb'/\nb'<=b.size/\na'+nb'+y<=na+nb)
    (Q:=fun c st2=>Eqv st st2/\((∃ m r,c=(some m,r)/\ft κ LL m.toList)\/∃ na' nb' out' ac bc,c=(none,na',nb',out',ac,bc)/\MgH κ LL out'.toList.reverse (a.toList.take na') (b.toList.take nb')/\1<=na'/\na'<=a.size/\2<=nb'/\nb'<=b.size/\na'+nb'+1<=na+nb)) ?_ ?_ ⟨ev1,na,nb,out,_,_,rfl,M,hna,hna2,hnb,hnb2,Nat.le_refl _⟩) ?_)
  · rintro y c st2 _ hy ⟨ev2,na',nb',out',ac,bc,rfl,M',hna',hna2',hnb',hnb2',hpr'⟩
    obtain⟨q,hq,mq⟩:=bQ (x:=b) (i:=nb' - 1) (by omega)
    obtain⟨p,hp,mp⟩:=bQ (x:=a) (i:=na' - 1) (by omega)
    have tq:=cr hq
    have tp:=cr hp
    rw [show nb' - 1+1=nb' by omega] at tq
    rw [show na' - 1+1=na' by omega] at tp
    have sB:=sb.take nb'
    have sA:=sa.take na'
    rw [tq] at sB
    rw [tp] at sA
    refine wpS_bind (bB hq (wpS_bind (bB hp (wpS_bind (oH hO (ev2.1.trans hk) (vb q mq) (va p mp) ?_)))))
    cases hw:κ.blt (kk κ q) (kk κ p) with
    | true =>
      refine ifp rfl ?_
      refine wpS_bind (bB hp ?_)
      have M2:MgH κ LL (out'.push p).toList.reverse (a.toList.take (na' - 1)) (b.toList.take nb'):=by
        rw [d7]
        refine MgH.a (by rw [← tp];exact M') fun x hx y hy=>?_
        rw [List.mem_singleton.mp hx]
        rw [tq] at hy
        exact le_trans (sB.lastOf y hy) (le_of_lt hw)
      by_cases c:na' - 1=0
      · refine ifp (beq_iff_eq.mpr c) ?_
        exact wpS_pure ⟨ev2,.inl ⟨_,_,rfl,oG M2 c⟩⟩
      refine ifn (fun z=>c (beq_iff_eq.mp z)) ?_
      refine ifs (fun _=>?_) (fun _=>?_)
      · exact wpS_pure ⟨ev2,.inr ⟨na' - 1,nb',_,_,_,rfl,M2,by omega,by omega,by omega,by omega,by omega⟩⟩
      · exact wpS_pure ⟨ev2,na' - 1,nb',_,_,_,rfl,M2,by omega,by omega,by omega,by omega,by omega⟩
    | false =>
      refine ifn Bool.false_ne_true ?_
      refine wpS_bind (bB hq ?_)
      have M2:MgH κ LL (out'.push q).toList.reverse (a.toList.take na') (b.toList.take (nb' - 1)):=by
        rw [d7]
        refine MgH.b (by rw [← tq];exact M') fun y hy x hx=>?_
        rw [List.mem_singleton.mp hy]
        rw [tp] at hx
        exact le_trans (sA.lastOf x hx) (show le κ p q from hw)
      by_cases c:nb' - 1=1
      · refine ifp (beq_iff_eq.mpr c) ?_
        exact wpS_pure ⟨ev2,.inl ⟨_,_,rfl,oF M2 c hb P1⟩⟩
      refine ifn (fun z=>c (beq_iff_eq.mp z)) ?_
      refine ifs (fun _=>?_) (fun _=>?_)
      · exact wpS_pure ⟨ev2,.inr ⟨na',nb' - 1,_,_,_,rfl,M2,by omega,by omega,by omega,by omega,by omega⟩⟩
      · exact wpS_pure ⟨ev2,na',nb' - 1,_,_,_,rfl,M2,by omega,by omega,by omega,by omega,by omega⟩
  · rintro c st2 ⟨ev2,na',nb',out',ac,bc,rfl,M',g1,g2,g3,g4,hpr'⟩
    exact⟨ev2,.inr ⟨_,_,_,_,_,rfl,M',g1,g2,g3,g4,by omega⟩⟩
  rintro c st2 ⟨ev2,hc⟩
  rcases hc with ⟨m,r,rfl,g⟩ | ⟨na1,nb1,out1,ac1,bc1,rfl,N1,i1,i2,i3,i4,hpr1⟩
  · exact wpS_pure ⟨ev2,m,_,rfl,g⟩
  refine wpS_bind (wpS_lift (wpAny_rule ⟨rfl,?_⟩))
  refine wpS_bind (wpS_mono (wpS_forRange (I:=fun y c st3=>Eqv st st3/\∃ na' nb' out' mg' ac bc,c=(none,na',nb',out',mg',ac,bc)/\MgH κ LL out'.toList.reverse (a.toList.take na') (b.toList.take nb')/\1<=na'/\na'<=a.size/\2<=nb'/\nb'<=b.size/\na'+nb'<=na1+nb1)
    (Q:=fun c st3=>Eqv st st3/\((∃ m r,c=(some m,r)/\ft κ LL m.toList)\/∃ na' nb' out' mg' ac bc,c=(none,na',nb',out',mg',ac,bc)/\MgH κ LL out'.toList.reverse (a.toList.take na') (b.toList.take nb')/\1<=na'/\na'<=a.size/\2<=nb'/\nb'<=b.size/\na'+nb'<=na1+nb1)) ?_ ?_ ⟨ev2,na1,nb1,out1,_,ac1,bc1,rfl,N1,i1,i2,i3,i4,Nat.le_refl _⟩) ?_)
  rotate_left
  · rintro c st3 ⟨ev3,na',nb',out',mg',ac,bc,rfl,M',g⟩
    exact⟨ev3,.inr ⟨_,_,_,_,_,_,rfl,M',g⟩⟩
  · rintro c st3 ⟨ev3,hc⟩
    rcases hc with ⟨m,r,rfl,g⟩ | ⟨na2,nb2,out2,mg2,ac2,bc2,rfl,N2,j1,j2,j3,j4,hpr2⟩
    · exact wpS_pure ⟨ev3,m,_,rfl,g⟩
    refine wpS_bind (i7 ev3 fun st4 ev4=>?_)
    exact wpS_pure ⟨ev4,na2,nb2,_,_,rfl,N2,j1,j2,j3,j4,by omega⟩
  rintro y c st3 _ hy ⟨ev3,na2,nb2,out2,mg2,ac2,bc2,rfl,M',j1,j2,j3,j4,hpr'⟩
  obtain⟨q,hq,mq⟩:=bQ (x:=b) (i:=nb2 - 1) (by omega)
  have tq:=cr hq
  rw [show nb2 - 1+1=nb2 by omega] at tq
  have sB:=sb.take nb2
  rw [tq] at sB
  dsimp -zeta -zetaHave only
  lift_lets
  extract_lets s1 v1 s2 v2 s3 v3 s4 v4 s5 v5 v6 v7 jp
  refine ifj (jp:=jp) (fun g=>?_)
  · refine wpS_bind (i7 ev3 fun st4 ev4=>?_)
    refine wpS_bind (bB hq (wpS_bind (bZ (left:=false) (key:=q) (arr:=a) (base:=0) (n:=na2) (hint:=na2 - 1) hO (ev4.1.trans hk) (vb q mq) (by omega) (by rw [List.drop_zero];exact fun p hp=>va p (List.mem_of_mem_take hp)) (by rw [List.drop_zero];exact sa.take _) (by omega) fun k hkn g1 g2=>?_)))
    rw [List.drop_zero] at g1 g2
    rw [List.take_take,Nat.min_eq_left hkn] at g1
    simp only [Bool.false_eq_true,if_false] at g1 g2
    dsimp -zeta -zetaHave only
    lift_lets
    extract_lets w1 w2 jp2
    refine mh (jp:=jp2) (fun (na3:Nat) (out3:Array Keyed)=>MgH κ LL out3.toList.reverse (a.toList.take na3) (b.toList.take nb2)/\1<=na3/\na3<=na2/\∀ x∈a.toList.take na3,le κ x q) (fun na3 out3 hR=>?_) (fun hj=>?_)
    · obtain⟨M3,hA1,hA2,hA⟩:=hR
      refine wpS_bind (bB hq ?_)
      have M4:MgH κ LL (out3.push q).toList.reverse (a.toList.take na3) (b.toList.take (nb2 - 1)):=by
        rw [d7]
        refine MgH.b (by rw [← tq];exact M3) fun y hy x hx=>?_
        rw [List.mem_singleton.mp hy]
        exact hA x hx
      by_cases c4:nb2 - 1=1
      · refine ifp (beq_iff_eq.mpr c4) ?_
        exact wpS_pure ⟨ev4,.inl ⟨_,_,rfl,oF M4 c4 hb P1⟩⟩
      refine ifn (fun z=>c4 (beq_iff_eq.mp z)) ?_
      obtain⟨p,hp,mp⟩:=bQ (x:=a) (i:=na3 - 1) (by omega)
      have tp:=cr hp
      rw [show na3 - 1+1=na3 by omega] at tp
      refine wpS_bind (bB hp (wpS_bind (bZ (left:=true) (key:=p) (arr:=b) (base:=0) (n:=nb2 - 1) (hint:=nb2 - 1 - 1) hO (ev4.1.trans hk) (va p mp) (by omega) (by rw [List.drop_zero];exact fun p hp=>vb p (List.mem_of_mem_take hp)) (by rw [List.drop_zero];exact sb.take _) (by omega) fun k2 hkn2 g3 g4=>?_)))
      rw [List.drop_zero] at g3 g4
      rw [List.take_take,Nat.min_eq_left hkn2] at g3
      simp only [if_true] at g3 g4
      dsimp -zeta -zetaHave only
      lift_lets
      extract_lets w3 w4 jp3
      refine mh (jp:=jp3) (fun (nb3:Nat) (out5:Array Keyed)=>MgH κ LL out5.toList.reverse (a.toList.take na3) (b.toList.take nb3)/\2<=nb3/\nb3<=nb2 - 1/\∀ y∈b.toList.take nb3,le κ y p) (fun nb3 out5 hR=>?_) (fun hj3=>?_)
      · obtain⟨M5,hB1,hB2,hB⟩:=hR
        refine wpS_bind (bB hp ?_)
        have M6:MgH κ LL (out5.push p).toList.reverse (a.toList.take (na3 - 1)) (b.toList.take nb3):=by
          rw [d7]
          refine MgH.a (by rw [← tp];exact M5) fun x hx y hy=>?_
          rw [List.mem_singleton.mp hx]
          exact hB y hy
        by_cases c7:na3 - 1=0
        · refine ifp (beq_iff_eq.mpr c7) ?_
          exact wpS_pure ⟨ev4,.inl ⟨_,_,rfl,oG M6 c7⟩⟩
        refine ifn (fun z=>c7 (beq_iff_eq.mp z)) ?_
        refine ifs (fun _=>?_) (fun _=>?_)
        · exact wpS_pure ⟨ev4,.inr ⟨na3 - 1,nb3,_,_,_,_,rfl,M6,by omega,by omega,by omega,by omega,by omega⟩⟩
        · exact wpS_pure ⟨ev4,na3 - 1,nb3,_,_,_,_,rfl,M6,by omega,by omega,by omega,by omega,by omega⟩
      by_cases hk2:k2=nb2 - 1
      · subst hk2
        refine ifn (show ¬ (nb2 - 1 - (nb2 - 1) > 0) by omega) (hj3 (nb2 - 1) _ ⟨M4,by omega,Nat.le_refl _,fun y hy=>le_of_lt (g3 y hy)⟩)
      · refine ifp (show nb2 - 1 - k2 > 0 by omega) ?_
        have M5:MgH κ LL ((out3.push q)++(b.extract k2 (nb2 - 1)).reverse).toList.reverse (a.toList.take na3) (b.toList.take k2):=by
          rw [jY]
          refine MgH.b (by rw [← jc b hkn2];exact M4) fun y hy x hx=>?_
          have sA:=sa.take na3
          rw [tp] at sA
          rw [tp] at hx
          exact le_trans (sA.lastOf x hx) (g4 y hy)
        by_cases c5:k2=1
        · refine ifp (beq_iff_eq.mpr c5) ?_
          exact wpS_pure ⟨ev4,.inl ⟨_,_,rfl,oF M5 c5 hb P1⟩⟩
        refine ifn (fun z=>c5 (beq_iff_eq.mp z)) ?_
        by_cases c6:k2=0
        · refine ifp (beq_iff_eq.mpr c6) ?_
          exact wpS_pure ⟨ev4,.inl ⟨_,_,rfl,pD M5 c6⟩⟩
        exact ifn (fun z=>c6 (beq_iff_eq.mp z)) (hj3 k2 _ ⟨M5,by omega,by omega,fun y hy=>le_of_lt (g3 y hy)⟩)
    by_cases hk0:k=na2
    · subst hk0
      exact ifn (show ¬ (k - k > 0) by omega) (hj k _ ⟨M',j1,Nat.le_refl _,fun x hx=>g1 x hx⟩)
    · refine ifp (show na2 - k > 0 by omega) ?_
      have M3:MgH κ LL (out2++(a.extract k na2).reverse).toList.reverse (a.toList.take k) (b.toList.take nb2):=by
        rw [jY]
        refine MgH.a (by rw [← jc a hkn];exact M') fun x hx y hy=>?_
        rw [tq] at hy
        exact le_trans (sB.lastOf y hy) (le_of_lt (g2 x hx))
      by_cases c3:k=0
      · refine ifp (beq_iff_eq.mpr c3) ?_
        exact wpS_pure ⟨ev4,.inl ⟨_,_,rfl,oG M3 c3⟩⟩
      exact ifn (fun z=>c3 (beq_iff_eq.mp z)) (hj k _ ⟨M3,by omega,hkn,fun x hx=>g1 x hx⟩)
end
theorem i9 (s:Nat):∀ (m:List Keyed) (off:Nat) (arr:Array Keyed),s+off+m.length<=arr.size →
    ((m.zipIdx off).foldl (fun a x=>a.setIfInBounds (s+x.2) x.1) arr).toList=arr.toList.take (s+off)++(m++arr.toList.drop (s+off+m.length))
  | [],off,arr,h=>by simp
  | x::m,off,arr,h=>by
    rw [List.zipIdx_cons,List.foldl_cons]
    rw [List.length_cons] at h
    rw [i9 s m (off+1) _ (by rw [Array.size_setIfInBounds];omega)]
    have e:(arr.setIfInBounds (s+off) x).toList=arr.toList.set (s+off) x:=by simp
    show (arr.setIfInBounds (s+off) x).toList.take _++(m++(arr.setIfInBounds (s+off) x).toList.drop _)=_
    rw [e]
    have hl:s+off < arr.toList.length:=by rw [Array.length_toList];omega
    have t1:(arr.toList.set (s+off) x).take (s+(off+1))=arr.toList.take (s+off)++[x]:=by
      rw [show s+(off+1)=s+off+1 by omega,List.take_add_one,List.take_set_of_le (Nat.le_refl _),List.getElem?_set_self hl]
      rfl
    have t2:(arr.toList.set (s+off) x).drop (s+(off+1)+m.length)=arr.toList.drop (s+off+(m.length+1)):=by
      rw [List.drop_set_of_lt (by omega)]
      congr 1
      omega
    rw [t1,t2,List.length_cons,List.append_assoc]
    rfl
section
variable {prog:Program}{w:World}{A:Around}{E:Value->Shared->Prop}{s:Shared}{κ:KeyKind}
theorem gu {X Y:List Keyed}(hX:SL κ X)(hY:SL κ Y)(h:∀ x∈X,∀ y∈Y,le κ x y):SL κ (X++Y):=List.pairwise_append.mpr ⟨hX,hY,h⟩
theorem iG (hO:κ.OneLt){i:Nat}{st:SortSt}{P X Y R:List Keyed}{pw pw2:Nat}{Q:Bool->SortSt->Prop}(hk:kindOf st=oneType')(hf:failedOf st=none)
    (hp1:(pendingOf st)[i]? = some (P.length,X.length,pw))(hp2:(pendingOf st)[i+1]? = some (P.length+X.length,Y.length,pw2))(ea:(arrOf st).toList=P++(X++(Y++R)))
    (vX:∀ p∈X,Va κ p)(vY:∀ p∈Y,Va κ p)(sX:SL κ X)(sY:SL κ Y)(hX:1<=X.length)(hY:1<=Y.length)
    (h:∀ M st',M.Perm (X++Y)->SL κ M->kindOf st'=oneType'->failedOf st'=none->(arrOf st').toList=P++(M++R)->pendingOf st'=((pendingOf st).setIfInBounds i (P.length,X.length+Y.length,pw)).eraseIdxIfInBounds (i+1)->Q true st') :
    wpS (model prog w) A E s (mergeAt' i) Q st:=by
  have asz:(arrOf st).size=P.length+(X.length+(Y.length+R.length)):=by
    have:=congrArg List.length ea
    simpa using this
  have dX:((arrOf st).toList.drop P.length).take X.length=X:=by rw [ea];simp
  have dY:((arrOf st).toList.drop (P.length+X.length)).take Y.length=Y:=by
    rw [ea,← List.append_assoc]
    rw [← List.length_append]
    simp
  obtain⟨y0,Y',eY⟩:∃ y0 Y',Y=y0::Y':=by
    cases Y with
    | nil=>simp at hY
    | cons y r=>exact⟨y,r,rfl⟩
  have my0:y0∈Y:=by rw [eY];exact List.mem_cons_self
  have hy0:(arrOf st)[P.length+X.length]? = some y0:=by
    have:(arrOf st).toList[P.length+X.length]? = some y0:=by
      rw [ea,eY,← List.append_assoc,List.getElem?_append_right (by simp)]
      simp
    simpa using this
  have y0le:∀ y∈Y,le κ y0 y:=by
    rw [eY] at sY ⊢
    exact sY.head
  refine wpS_bind (wpS_get ?_)
  have hmatch:((pendingOf st)[i]?,(pendingOf st)[i+1]?)=(some (P.length,X.length,pw),some (P.length+X.length,Y.length,pw2)):=by rw [hp1,hp2]
  rw [hmatch]
  refine wpS_bind (wpS_modify ?_)
  have k1:kindOf (SortSt.mk' (kindOf st) (arrOf st) (((pendingOf st).setIfInBounds i (P.length,X.length+Y.length,pw)).eraseIdxIfInBounds (i+1)) (gallopOf st) (failedOf st))=oneType':=hk
  have f1:failedOf (SortSt.mk' (kindOf st) (arrOf st) (((pendingOf st).setIfInBounds i (P.length,X.length+Y.length,pw)).eraseIdxIfInBounds (i+1)) (gallopOf st) (failedOf st))=none:=hf
  have a1:arrOf (SortSt.mk' (kindOf st) (arrOf st) (((pendingOf st).setIfInBounds i (P.length,X.length+Y.length,pw)).eraseIdxIfInBounds (i+1)) (gallopOf st) (failedOf st))=arrOf st:=rfl
  have p1:pendingOf (SortSt.mk' (kindOf st) (arrOf st) (((pendingOf st).setIfInBounds i (P.length,X.length+Y.length,pw)).eraseIdxIfInBounds (i+1)) (gallopOf st) (failedOf st))=((pendingOf st).setIfInBounds i (P.length,X.length+Y.length,pw)).eraseIdxIfInBounds (i+1):=rfl
  show wpS _ _ _ _ _ _ (SortSt.mk' (kindOf st) (arrOf st) (((pendingOf st).setIfInBounds i (P.length,X.length+Y.length,pw)).eraseIdxIfInBounds (i+1)) (gallopOf st) (failedOf st))
  generalize SortSt.mk' (kindOf st) (arrOf st) (((pendingOf st).setIfInBounds i (P.length,X.length+Y.length,pw)).eraseIdxIfInBounds (i+1)) (gallopOf st) (failedOf st)=st1 at k1 f1 a1 p1 ⊢
  have same:SL κ (X++Y)->Q true st1:=fun so=>h (X++Y) st1 (List.Perm.refl _) so k1 f1 (by rw [a1,ea,List.append_assoc]) p1
  refine wpS_bind (bB hy0 (wpS_bind (bZ (left:=false) (key:=y0) (arr:=arrOf st) (base:=P.length) (n:=X.length) (hint:=0) hO k1 (vY y0 my0) (by omega) (by rw [dX];exact vX) (by rw [dX];exact sX) (by omega) fun k hkn g1 g2=>?_)))
  rw [dX] at g1 g2
  simp only [Bool.false_eq_true,if_false] at g1 g2
  have sp:=List.take_append_drop k X
  have l2:(X.drop k).length=X.length - k:=List.length_drop
  have l1:(X.take k).length=k:=by rw [List.length_take];omega
  have g1Y:∀ x∈X.take k,∀ y∈Y,le κ x y:=fun x hx y hy=>le_trans (g1 x hx) (y0le y hy)
  by_cases c1:X.length - k=0
  · refine ifp (beq_iff_eq.mpr c1) ?_
    refine wpS_pure (same (gu sX sY fun x hx y hy=>g1Y x ?_ y hy))
    rw [List.take_of_length_le (by omega)]
    exact hx
  refine ifn (fun z=>c1 (beq_iff_eq.mp z)) ?_
  obtain⟨xl,hxl⟩:∃ xl,X[X.length - 1]? = some xl:=⟨_,List.getElem?_eq_getElem (by omega)⟩
  have mxl:xl∈X:=List.mem_of_getElem? hxl
  have hxa:(arrOf st)[P.length+k+(X.length - k) - 1]? = some xl:=by
    have:(arrOf st).toList[P.length+k+(X.length - k) - 1]? = some xl:=by
      rw [ea,show P.length+k+(X.length - k) - 1=P.length+(X.length - 1) by omega,List.getElem?_append_right (by omega),Nat.add_sub_cancel_left,List.getElem?_append_left (by omega)]
      exact hxl
    simpa using this
  have lex:∀ x∈X,le κ x xl:=fun x hx=>by
    obtain⟨j,hj,ej⟩:=List.mem_iff_getElem.mp hx
    exact sX.at (i:=j) (j:=X.length - 1) (by omega) (by rw [List.getElem?_eq_getElem hj,ej]) hxl
  refine wpS_bind (bB hxa (wpS_bind (bZ (left:=true) (key:=xl) (arr:=arrOf st) (base:=P.length+X.length) (n:=Y.length) (hint:=Y.length - 1) hO k1 (vX xl mxl) (by omega) (by rw [dY];exact vY) (by rw [dY];exact sY) (by omega) fun k2 hkn2 g3 g4=>?_)))
  rw [dY] at g3 g4
  simp only [if_true] at g3 g4
  by_cases c2:k2=0
  · refine ifp (beq_iff_eq.mpr c2) ?_
    refine wpS_pure (same (gu sX sY fun x hx y hy=>le_trans (lex x hx) (g4 y ?_)))
    rw [c2,List.drop_zero]
    exact hy
  refine ifn (fun z=>c2 (beq_iff_eq.mp z)) ?_
  have l3:(Y.take k2).length=k2:=by rw [List.length_take];omega
  have ex:((arrOf st).extract (P.length+k) (P.length+X.length)).toList=X.drop k:=by
    rw [Array.toList_extract,List.extract_eq_take_drop,ea,← List.drop_drop,List.drop_left,List.drop_append_of_le_length hkn,show P.length+X.length - (P.length+k)=(X.drop k).length by rw [l2];omega,List.take_left]
  have ey:((arrOf st).extract (P.length+X.length) (P.length+X.length+k2)).toList=Y.take k2:=by
    rw [Array.toList_extract,List.extract_eq_take_drop,ea,← List.drop_drop,List.drop_left,List.drop_left,show P.length+X.length+k2 - (P.length+X.length)=k2 by omega,List.take_append_of_le_length hkn2]
  have fin:∀ (m:Array Keyed) (st2:SortSt),Eqv st1 st2->ft κ (X.drop k++Y.take k2) m.toList->Q true (SortSt.mk' (kindOf st2) ((m.toList.zipIdx).foldl (fun a x=>a.setIfInBounds (P.length+k+x.2) x.1) (arrOf st2)) (pendingOf st2) (gallopOf st2) (failedOf st2)):=by
    intro m st2 ev g
    have ml:m.toList.length=X.length - k+k2:=by rw [g.1.length_eq,List.length_append,l2,l3]
    have msz:m.size=X.length - k+k2:=by rw [← Array.length_toList];exact ml
    refine h (X.take k++(m.toList++Y.drop k2)) _ ?_ ?_ (ev.1.trans k1) (ev.2.2.2.trans f1) ?_ (ev.2.2.1.trans p1)
    · refine List.Perm.trans (List.Perm.append_left _ (List.Perm.append_right _ g.1)) ?_
      rw [List.append_assoc,List.take_append_drop,← List.append_assoc,List.take_append_drop]
    · have inM:∀ z∈m.toList,z∈X.drop k\/z∈Y.take k2:=fun z hz=>List.mem_append.mp (g.1.mem_iff.mp hz)
      have sX':=sX
      rw [← sp] at sX'
      have cX:=(List.pairwise_append.mp sX').2.2
      have sY':=sY
      rw [← List.take_append_drop k2 Y] at sY'
      have cY:=(List.pairwise_append.mp sY').2.2
      refine gu (sX.take k) (gu g.2 (sY.drop k2) fun z hz y hy=>?_) fun x hx z hz=>?_
      · rcases inM z hz with q | q
        · exact le_trans (lex z (List.mem_of_mem_drop q)) (g4 y hy)
        · exact cY z q y hy
      · rcases List.mem_append.mp hz with hz | hz
        · rcases inM z hz with q | q
          · exact cX x hx z q
          · exact g1Y x hx z (List.mem_of_mem_take q)
        · exact g1Y x hx z (List.mem_of_mem_drop hz)
    · show ((m.toList.zipIdx).foldl (fun a x=>a.setIfInBounds (P.length+k+x.2) x.1) (arrOf st2)).toList=_
      have asz2:(arrOf st2).size=(arrOf st).size:=by rw [ev.2.1,a1]
      rw [i9 (P.length+k) m.toList 0 (arrOf st2) (by omega),ev.2.1,a1,ea]
      have t1:(P++(X++(Y++R))).take (P.length+k+0)=P++X.take k:=by
        rw [Nat.add_zero,List.take_length_add_append,List.take_append_of_le_length hkn]
      have t2:(P++(X++(Y++R))).drop (P.length+k+0+m.toList.length)=Y.drop k2++R:=by
        rw [show P.length+k+0+m.toList.length=P.length+(X.length+k2) by omega,List.drop_length_add_append,List.drop_length_add_append,List.drop_append_of_le_length hkn2]
      rw [t1,t2]
      simp only [List.append_assoc]
  have P1':∀ y∈(Y.take k2).take 1,∀ x∈X.drop k,le κ y x:=fun y hy x hx=>by
    rw [List.take_take,Nat.min_eq_left (by omega),eY] at hy
    have:y=y0:=by simpa using hy
    rw [this]
    exact le_of_lt (g2 x hx)
  have P2':∀ y∈Y.take k2,∀ z∈(X.drop k).drop (X.length - k - 1),le κ y z:=fun y hy z hz=>by
    rw [List.drop_drop,show k+(X.length - k - 1)=X.length - 1 by omega] at hz
    have ez:X.drop (X.length - 1)=[xl]:=by
      obtain⟨hl,e⟩:=List.getElem?_eq_some_iff.mp hxl
      rw [List.drop_eq_getElem_cons hl,e,List.drop_of_length_le (by omega)]
    rw [ez] at hz
    rw [List.mem_singleton.mp hz]
    exact le_of_lt (g3 y hy)
  have xsz:((arrOf st).extract (P.length+k) (P.length+X.length)).size=X.length - k:=by rw [← Array.length_toList,ex,l2]
  have ysz:((arrOf st).extract (P.length+X.length) (P.length+X.length+k2)).size=k2:=by rw [← Array.length_toList,ey,l3]
  refine ifs (fun _=>?_) (fun _=>?_)
  · refine wpS_bind (iF hO k1 (by rw [ex];exact fun p hp=>vX p (List.mem_of_mem_drop hp)) (by rw [ey];exact fun p hp=>vY p (List.mem_of_mem_take hp)) (by rw [xsz];omega) (by rw [ysz];omega) (by rw [ex];exact sX.drop k) (by rw [ey];exact sY.take k2) (by rw [ex,ey];exact P1') (by rw [ex,ey,xsz];exact P2') fun m st2 ev g=>?_)
    rw [ex,ey] at g
    refine wpS_bind (wpS_modify (wpS_bind (wpS_get ?_)))
    have:=fin m st2 ev g
    have e:(failedOf st2).isNone=true:=by rw [ev.2.2.2,f1];rfl
    refine wpS_pure ?_
    show Q (failedOf st2).isNone _
    rw [e]
    exact this
  · refine wpS_bind (iQ hO k1 (by rw [ex];exact fun p hp=>vX p (List.mem_of_mem_drop hp)) (by rw [ey];exact fun p hp=>vY p (List.mem_of_mem_take hp)) (by rw [xsz];omega) (by rw [ysz];omega) (by rw [ex];exact sX.drop k) (by rw [ey];exact sY.take k2) (by rw [ex,ey];exact P1') (by rw [ex,ey,xsz];exact P2') fun m st2 ev g=>?_)
    rw [ex,ey] at g
    refine wpS_bind (wpS_modify (wpS_bind (wpS_get ?_)))
    have:=fin m st2 ev g
    have e:(failedOf st2).isNone=true:=by rw [ev.2.2.2,f1];rfl
    refine wpS_pure ?_
    show Q (failedOf st2).isNone _
    rw [e]
    exact this
end
structure Rl (lo:Nat)(st0 st:SortSt):Prop where
  kind:kindOf st=oneType'
  failed:failedOf st=none
  pend:pendingOf st=pendingOf st0
  perm:(arrOf st).Perm (arrOf st0)
  pre:∀ i,i < lo->(arrOf st)[i]? = (arrOf st0)[i]?
theorem Rl.size {lo:Nat}{st0 st:SortSt}(R:Rl lo st0 st):(arrOf st).size=(arrOf st0).size:=R.perm.size_eq
theorem Rl.mir {lo i j:Nat}{st0 st:SortSt}(R:Rl lo st0 st)(hi:lo<=i)(hj:j<=(arrOf st0).size):Rl lo st0 (setArr st (mirror (arrOf st) i j ((j - i) / 2))) :=
  ⟨R.kind,R.failed,R.pend,(mirror_perm _ _ _ _).trans R.perm,fun k hk=>by
    show (mirror (arrOf st) i j ((j - i) / 2))[k]? = _
    rw [getElem?_mirror_all (by rw [R.size];exact hj),if_neg (by omega)]
    exact R.pre k hk⟩
theorem Rl.bub {lo src d:Nat}{st0 st:SortSt}(R:Rl lo st0 st)(hi:lo<=src - d)(hd:d<=src)(hs:src < (arrOf st0).size):Rl lo st0 (setArr st (bubble (arrOf st) src d)) :=
  ⟨R.kind,R.failed,R.pend,(bubble_perm _ _ _).trans R.perm,fun k hk=>by
    show (bubble (arrOf st) src d)[k]? = _
    rw [getElem?_bubble (by rw [R.size];exact hs) d hd,if_neg (by omega),if_neg (by omega)]
    exact R.pre k hk⟩
def UpK (κ:KeyKind)(xs:Array Keyed)(lo n:Nat):Prop:=∀ i j,i<=j->j < n->κ.kle (KK κ xs (lo+i)) (KK κ xs (lo+j))
def DnK (κ:KeyKind)(xs:Array Keyed)(lo n:Nat):Prop:=∀ i j,i<=j->j < n->κ.kle (KK κ xs (lo+j)) (KK κ xs (lo+i))
section
variable {κ:KeyKind}
theorem UpK.one (xs:Array Keyed)(lo n:Nat)(hn:n<=1):UpK κ xs lo n:=fun i j hij hj=>by
  have e:i=j:=by omega
  subst e
  exact KeyOrd.kle_refl _
theorem UpK.more {xs:Array Keyed}{lo x:Nat}(h:UpK κ xs lo x)(hx:1<=x)(q:κ.kle (KK κ xs (lo+(x - 1))) (KK κ xs (lo+x))):UpK κ xs lo (x+1):=fun i j hij hj=>by
  by_cases hjx:j < x
  · exact h i j hij hjx
  · have e:j=x:=by omega
    subst e
    by_cases e2:i=j
    · subst e2;exact KeyOrd.kle_refl _
    · exact KeyOrd.kle_trans (h i (j - 1) (by omega) (by omega)) q
theorem DnK.more {xs:Array Keyed}{lo x:Nat}(h:DnK κ xs lo x)(hx:1<=x)(q:κ.kle (KK κ xs (lo+x)) (KK κ xs (lo+(x - 1)))):DnK κ xs lo (x+1):=fun i j hij hj=>by
  by_cases hjx:j < x
  · exact h i j hij hjx
  · have e:j=x:=by omega
    subst e
    by_cases e2:i=j
    · subst e2;exact KeyOrd.kle_refl _
    · exact KeyOrd.kle_trans q (h i (j - 1) (by omega) (by omega))
theorem DnK.congr {xs ys:Array Keyed}{lo n:Nat}(h:DnK κ xs lo n)(e:∀ k,KK κ ys k=KK κ xs k):DnK κ ys lo n:=fun i j hij hj=>by
  rw [e,e]
  exact h i j hij hj
end
section
variable {prog:Program}{w:World}{A:Around}{E:Value->Shared->Prop}{s:Shared}{κ:KeyKind}
theorem fU (hO:κ.OneLt){lo i j:Nat}{st0 st:SortSt}{Q:Option Bool->SortSt->Prop}(R:Rl lo st0 st)(va:∀ p∈(arrOf st0).toList,Va κ p)(hi:i < (arrOf st0).size)(hj:j < (arrOf st0).size)
    (h:Q (some (κ.blt (KK κ (arrOf st) i) (KK κ (arrOf st) j))) st):wpS (model prog w) A E s (ltAt' i j) Q st:=by
  have get:∀ k,k < (arrOf st0).size->∃ p,(arrOf st)[k]? = some p/\Va κ p:=fun k hk=>by
    obtain⟨p,e,m⟩:=bQ (x:=arrOf st) (i:=k) (by rw [R.size];exact hk)
    exact⟨p,e,va p ((Array.perm_iff_toList_perm.mp R.perm).mem_iff.mp m)⟩
  obtain⟨p,e1,a,ha⟩:=get i hi
  obtain⟨q,e2,b,hb⟩:=get j hj
  have ka:KK κ (arrOf st) i=a:=by rw [eh e1];unfold kk;rw [ha];rfl
  have kb:KK κ (arrOf st) j=b:=by rw [eh e2];unfold kk;rw [hb];rfl
  rw [ka,kb] at h
  exact wpS_ltAtK hO R.kind (x:=p.1) (y:=q.1) (p:=p.2) (q:=q.2) e1 e2 ha hb h
theorem jP (hO:κ.OneLt){lo n ok:Nat}{st0 st:SortSt}{Q:Bool->SortSt->Prop}(R:Rl lo st0 st)(va:∀ p∈(arrOf st0).toList,Va κ p)(hn:lo+n<=(arrOf st0).size)(h1:1<=ok)(hok:ok<=n)(hs:UpK κ (arrOf st) lo ok)
    (h:∀ st',Rl lo st0 st'->UpK κ (arrOf st') lo n->Q true st'):wpS (model prog w) A E s (binarySort' lo n ok) Q st:=by
  rw [binarySort'_eq]
  refine wpS_bind (wpS_mono (wpS_forRange (I:=fun k c st'=>c=(none,())/\Rl lo st0 st'/\UpK κ (arrOf st') lo k) (Q:=fun c st'=>c=(none,())/\Rl lo st0 st'/\UpK κ (arrOf st') lo n) ?_ ?_ ⟨rfl,R,by rw [Nat.max_eq_left h1];exact hs⟩) ?_)
  rotate_left
  · rintro c st' ⟨rfl,R',hs'⟩
    rw [show max (max ok 1) n=n by omega] at hs'
    exact⟨rfl,R',hs'⟩
  · rintro c st' ⟨rfl,R',hs'⟩
    exact wpS_pure (h st' R' hs')
  rintro k c st1 hak hkn ⟨rfl,R1,s1⟩
  have hk1:1<=k:=by omega
  refine wpS_bind (wpS_mono (wpS_forRange (I:=fun x c st2=>st2=st1/\∃ l r,c=(none,l,r)/\l<=r/\r<=k/\r - l<=k - x/\(∀ i,i < l->κ.kle (KK κ (arrOf st1) (lo+i)) (KK κ (arrOf st1) (lo+k)))/\∀ i,r<=i->i < k->κ.klt (KK κ (arrOf st1) (lo+k)) (KK κ (arrOf st1) (lo+i)))
    (Q:=fun c st2=>st2=st1/\∃ l r,c=(none,l,r)/\l<=k/\(∀ i,i < l->κ.kle (KK κ (arrOf st1) (lo+i)) (KK κ (arrOf st1) (lo+k)))/\∀ i,l<=i->i < k->κ.klt (KK κ (arrOf st1) (lo+k)) (KK κ (arrOf st1) (lo+i))) ?_ ?_ ⟨rfl,0,k,rfl,Nat.zero_le _,Nat.le_refl _,by omega,fun i hi=>absurd hi (by omega),fun i a b=>absurd b (by omega)⟩) ?_)
  · rintro x c st2 _ hx ⟨rfl,l,r,rfl,g1,g2,g3,g4,g5⟩
    by_cases hge:l ≥ r
    · refine ifp hge ?_
      have e:l=r:=by omega
      subst e
      exact wpS_pure ⟨rfl,l,l,rfl,g2,g4,g5⟩
    · refine ifn hge ?_
      refine wpS_bind (fU hO R1 va (by show lo+k < _;omega) (by show lo+(l+r) / 2 < _;omega) ?_)
      show wpS _ _ _ _ (if κ.blt (KK κ (arrOf st2) (lo+k)) (KK κ (arrOf st2) (lo+(l+r) / 2))=true then _ else _) _ _
      cases q:κ.blt (KK κ (arrOf st2) (lo+k)) (KK κ (arrOf st2) (lo+(l+r) / 2)) with
      | true =>
        refine ifp rfl ?_
        exact wpS_pure ⟨rfl,l,(l+r) / 2,rfl,by omega,by omega,by omega,g4,fun i a b=>KeyOrd.klt_of_klt_of_kle q (s1 _ _ a b)⟩
      | false =>
        refine ifn Bool.false_ne_true ?_
        exact wpS_pure ⟨rfl,(l+r) / 2+1,r,rfl,by omega,by omega,by omega,fun i a=>KeyOrd.kle_trans (s1 i ((l+r) / 2) (by omega) (by omega)) (show κ.kle _ _ from q),g5⟩
  · rintro c st2 ⟨rfl,l,r,rfl,g1,g2,g3,g4,g5⟩
    have e:l=r:=by omega
    subst e
    exact⟨rfl,l,l,rfl,g2,g4,g5⟩
  · rintro c st2 ⟨rfl,l,r,rfl,g2,g4,g5⟩
    show wpS _ _ _ _ (moveDown' (lo+k) (lo+l) >>= fun _=>pure (ForInStep.yield (none,()))) _ _
    rw [moveDown'_eq]
    have hks:lo+k < (arrOf st2).size:=by rw [R1.size];omega
    refine wpS_bind (wpS_modify (wpS_pure ⟨rfl,R1.bub (by omega) (by omega) (by omega),?_⟩))
    intro i j hij hj
    show κ.kle (KK κ (bubble (arrOf st2) (lo+k) (lo+k - (lo+l))) (lo+i)) (KK κ (bubble (arrOf st2) (lo+k) (lo+k - (lo+l))) (lo+j))
    rw [KK_bubble hks (by omega),KK_bubble hks (by omega)]
    have e1:∀ {z:Nat},l < z->z<=k->lo+z - 1=lo+(z - 1):=fun {z} a b=>by omega
    by_cases hj1:j=l
    · subst hj1
      rw [if_pos (show lo+j=lo+k - (lo+k - (lo+j)) by omega)]
      by_cases hi1:i=j
      · rw [hi1,if_pos (show lo+j=lo+k - (lo+k - (lo+j)) by omega)]
        exact KeyOrd.kle_refl _
      · rw [if_neg (by omega),if_neg (by omega)]
        exact g4 i (by omega)
    · by_cases hj2:l < j
      · rw [if_neg (show ¬ (lo+j=lo+k - (lo+k - (lo+l))) by omega),if_pos (show lo+k - (lo+k - (lo+l)) < lo+j/\lo+j<=lo+k by omega),e1 hj2 (by omega)]
        by_cases hi1:i=l
        · rw [hi1,if_pos (show lo+l=lo+k - (lo+k - (lo+l)) by omega)]
          exact KeyOrd.kle_of_klt (g5 (j - 1) (by omega) (by omega))
        · by_cases hi2:l < i
          · rw [if_neg (show ¬ (lo+i=lo+k - (lo+k - (lo+l))) by omega),if_pos (show lo+k - (lo+k - (lo+l)) < lo+i/\lo+i<=lo+k by omega),e1 hi2 (by omega)]
            exact s1 _ _ (by omega) (by omega)
          · rw [if_neg (by omega),if_neg (by omega)]
            exact s1 _ _ (by omega) (by omega)
      · rw [if_neg (show ¬ (lo+j=lo+k - (lo+k - (lo+l))) by omega),if_neg (show ¬ (lo+k - (lo+k - (lo+l)) < lo+j/\lo+j<=lo+k) by omega),if_neg (by omega),if_neg (by omega)]
        exact s1 _ _ hij (by omega)
end
section
variable {prog:Program}{w:World}{A:Around}{E:Value->Shared->Prop}{s:Shared}{κ:KeyKind}
theorem km (hO:κ.OneLt){lo nrem:Nat}{st0:SortSt}{Q:Option Nat->SortSt->Prop}(hk:kindOf st0=oneType')(hf:failedOf st0=none)(va:∀ p∈(arrOf st0).toList,Va κ p)(hn:lo+nrem<=(arrOf st0).size)(h1:1<=nrem)
    (h:∀ m st',Rl lo st0 st'->1<=m->m<=nrem->UpK κ (arrOf st') lo m->Q (some m) st'):wpS (model prog w) A E s (countRun' lo nrem) Q st0:=by
  rw [countRun'_eq]
  have R0:Rl lo st0 st0:=⟨hk,hf,rfl,Array.Perm.refl _,fun _ _=>rfl⟩
  refine wpS_bind (wpS_mono (wpS_forRange (I:=fun x c st'=>st'=st0/\c=(none,x)/\UpK κ (arrOf st0) lo x) (Q:=fun c st'=>st'=st0/\∃ n,c=(none,n)/\1<=n/\n<=nrem/\UpK κ (arrOf st0) lo n/\(n=nrem\/κ.klt (KK κ (arrOf st0) (lo+n)) (KK κ (arrOf st0) (lo+(n - 1))))) ?_ ?_ ⟨rfl,rfl,UpK.one _ _ _ (Nat.le_refl _)⟩) ?_)
  · rintro x c st' hx1 hx ⟨rfl,rfl,s1⟩
    refine wpS_bind (fU hO R0 va (by show lo+x < _;omega) (by show lo+x - 1 < _;omega) ?_)
    show wpS _ _ _ _ (if κ.blt (KK κ (arrOf st') (lo+x)) (KK κ (arrOf st') (lo+x - 1))=true then _ else _) _ _
    rw [show lo+x - 1=lo+(x - 1) by omega]
    cases q:κ.blt (KK κ (arrOf st') (lo+x)) (KK κ (arrOf st') (lo+(x - 1))) with
    | true =>
      refine ifp rfl ?_
      exact wpS_pure ⟨rfl,x,rfl,hx1,by omega,s1,.inr q⟩
    | false =>
      refine ifn Bool.false_ne_true ?_
      exact wpS_pure ⟨rfl,rfl,s1.more hx1 q⟩
  · rintro c st' ⟨rfl,rfl,s1⟩
    rw [show max 1 nrem=nrem by omega] at s1 ⊢
    exact⟨rfl,nrem,rfl,h1,Nat.le_refl _,s1,.inl rfl⟩
  rintro c st' ⟨rfl,n,rfl,g1,g2,s1,alt⟩
  by_cases hnn:n=nrem
  · refine ifp (beq_iff_eq.mpr hnn) ?_
    exact wpS_pure (h n st' R0 g1 g2 s1)
  refine ifn (fun z=>hnn (beq_iff_eq.mp z)) ?_
  have hlt:=alt.resolve_left hnn
  lift_lets
  extract_lets n0 q0 jp
  have hjp:∀ st1,Rl lo st' st1->DnK κ (arrOf st1) lo (n+1)->wpS (model prog w) A E s (jp ()) Q st1:=by
    intro st1 R1 d1
    refine wpS_bind (wpS_lift (wpAny_rule ⟨rfl,?_⟩))
    refine wpS_bind (wpS_mono (wpS_forRange (a:=n+1) (b:=nrem) (I:=fun x c st2=>Rl lo st' st2/\∃ neq,c=(none,x,neq)/\DnK κ (arrOf st2) lo x/\neq+1<=x/\∀ i,x - (neq+1)<=i->i < x->KK κ (arrOf st2) (lo+i)=KK κ (arrOf st2) (lo+(x - 1)))
      (Q:=fun c st2=>Rl lo st' st2/\∃ x neq,c=(none,x,neq)/\1<=x/\x<=nrem/\DnK κ (arrOf st2) lo x/\neq+1<=x/\∀ i,x - (neq+1)<=i->i < x->KK κ (arrOf st2) (lo+i)=KK κ (arrOf st2) (lo+(x - 1))) ?_ ?_ ⟨R1,0,rfl,d1,by omega,fun i a b=>by congr 1;omega⟩) ?_)
    · rintro x c st2 hx1 hx ⟨R2,neq,rfl,d2,q1,q2⟩
      have hsz:lo+x<=(arrOf st2).size:=by rw [R2.size];omega
      refine wpS_bind (fU hO R2 va (by show lo+x < _;omega) (by show lo+x - 1 < _;omega) ?_)
      show wpS _ _ _ _ (if κ.blt (KK κ (arrOf st2) (lo+x)) (KK κ (arrOf st2) (lo+x - 1))=true then _ else _) _ _
      rw [show lo+x - 1=lo+(x - 1) by omega]
      cases q:κ.blt (KK κ (arrOf st2) (lo+x)) (KK κ (arrOf st2) (lo+(x - 1))) with
      | true =>
        refine ifp rfl ?_
        have d3:=d2.more (by omega) (KeyOrd.kle_of_klt q)
        refine ifs (fun hq=>?_) (fun hq=>?_)
        · refine wpS_bind (wpS_reverse (i:=lo+x - (neq+1)) (j:=lo+x) (wpS_pure ⟨R2.mir (by omega) (by omega),0,rfl,?_,by omega,fun i a b=>by congr 1;omega⟩))
          refine d3.congr fun k=>KK_mirror_equal hsz (fun k a b=>?_) k
          have e:=q2 (k - lo) (by omega) (by omega)
          rw [show lo+(k - lo)=k by omega] at e
          rw [e]
          congr 1
          omega
        · exact wpS_pure ⟨R2,0,rfl,d3,by omega,fun i a b=>by congr 1;omega⟩
      | false =>
        refine ifn Bool.false_ne_true ?_
        refine wpS_bind (fU hO R2 va (by show lo+(x - 1) < _;omega) (by show lo+x < _;omega) ?_)
        show wpS _ _ _ _ (if κ.blt (KK κ (arrOf st2) (lo+(x - 1))) (KK κ (arrOf st2) (lo+x))=true then _ else _) _ _
        cases p:κ.blt (KK κ (arrOf st2) (lo+(x - 1))) (KK κ (arrOf st2) (lo+x)) with
        | true =>
          refine ifp rfl ?_
          exact wpS_pure ⟨R2,x,neq,rfl,by omega,by omega,d2,q1,q2⟩
        | false =>
          refine ifn Bool.false_ne_true ?_
          have e:KK κ (arrOf st2) (lo+x)=KK κ (arrOf st2) (lo+(x - 1)):=KeyOrd.kle_antisymm p q
          refine wpS_pure ⟨R2,neq+1,rfl,d2.more (by omega) (show κ.kle _ _ from p),by omega,fun i a b=>?_⟩
          rw [show x+1 - 1=x by omega]
          by_cases hix:i=x
          · rw [hix]
          · rw [e]
            exact q2 i (by omega) (by omega)
    · rintro c st2 ⟨R2,neq,rfl,d2,q1,q2⟩
      rw [show max (n+1) nrem=nrem by omega] at d2 q1 q2 ⊢
      exact⟨R2,nrem,neq,rfl,h1,Nat.le_refl _,d2,q1,q2⟩
    rintro c st2 ⟨R2,x,neq,rfl,x1,x2,d2,q1,q2⟩
    lift_lets
    extract_lets r5 s5 n5 q5 jp2
    have hjp2:∀ st3,Rl lo st' st3->DnK κ (arrOf st3) lo x->wpS (model prog w) A E s (jp2 ()) Q st3:=by
      intro st3 R3 d3
      have hsz:lo+x<=(arrOf st3).size:=by rw [R3.size];omega
      refine wpS_bind (wpS_reverse (i:=lo) (j:=lo+x) ?_)
      have R4:=R3.mir (i:=lo) (j:=lo+x) (Nat.le_refl _) (by omega)
      have u4:UpK κ (arrOf (setArr st3 (mirror (arrOf st3) lo (lo+x) ((lo+x - lo) / 2)))) lo x:=fun i j hij hj=>by
        show κ.kle (KK κ (mirror (arrOf st3) lo (lo+x) ((lo+x - lo) / 2)) (lo+i)) (KK κ (mirror (arrOf st3) lo (lo+x) ((lo+x - lo) / 2)) (lo+j))
        rw [KK_mirror hsz,KK_mirror hsz,if_pos (by omega),if_pos (by omega),show lo+(lo+x) - 1 - (lo+i)=lo+(x - 1 - i) by omega,show lo+(lo+x) - 1 - (lo+j)=lo+(x - 1 - j) by omega]
        exact d3 _ _ (by omega) (by omega)
      generalize setArr st3 (mirror (arrOf st3) lo (lo+x) ((lo+x - lo) / 2))=st4 at R4 u4 ⊢
      refine wpS_bind (wpS_mono (wpS_forRange (a:=x) (b:=nrem) (I:=fun y c st5=>st5=st4/\c=(none,y)/\UpK κ (arrOf st4) lo y) (Q:=fun c st5=>st5=st4/\∃ m,c=(none,m)/\1<=m/\m<=nrem/\UpK κ (arrOf st4) lo m) ?_ ?_ ⟨rfl,rfl,u4⟩) ?_)
      · rintro y c st5 hy1 hy ⟨rfl,rfl,s5⟩
        refine wpS_bind (fU hO R4 va (by show lo+y < _;omega) (by show lo+y - 1 < _;omega) ?_)
        show wpS _ _ _ _ (if κ.blt (KK κ (arrOf st5) (lo+y)) (KK κ (arrOf st5) (lo+y - 1))=true then _ else _) _ _
        rw [show lo+y - 1=lo+(y - 1) by omega]
        cases q:κ.blt (KK κ (arrOf st5) (lo+y)) (KK κ (arrOf st5) (lo+(y - 1))) with
        | true =>
          refine ifp rfl ?_
          exact wpS_pure ⟨rfl,y,rfl,by omega,by omega,s5⟩
        | false =>
          refine ifn Bool.false_ne_true ?_
          exact wpS_pure ⟨rfl,rfl,s5.more (by omega) q⟩
      · rintro c st5 ⟨rfl,rfl,s5⟩
        rw [show max x nrem=nrem by omega] at s5 ⊢
        exact⟨rfl,nrem,rfl,h1,Nat.le_refl _,s5⟩
      · rintro c st5 ⟨rfl,m,rfl,m1,m2,s5⟩
        exact wpS_pure (h m st5 R4 m1 m2 s5)
    clear_value jp2
    refine ifs (fun hq=>?_) (fun hq=>hjp2 st2 R2 d2)
    have hsz:lo+x<=(arrOf st2).size:=by rw [R2.size];omega
    refine wpS_bind (wpS_reverse (i:=lo+x - (neq+1)) (j:=lo+x) (hjp2 _ (R2.mir (by omega) (by omega)) ?_))
    refine d2.congr fun k=>KK_mirror_equal hsz (fun k a b=>?_) k
    have e:=q2 (k - lo) (by omega) (by omega)
    rw [show lo+(k - lo)=k by omega] at e
    rw [e]
    congr 1
    omega
  clear_value jp
  have hsz:lo+n<=(arrOf st').size:=by omega
  refine ifs (fun hgt=>?_) (fun hgt=>?_)
  · refine wpS_bind (fU hO R0 va (by show lo < _;omega) (by show lo+n - 1 < _;omega) ?_)
    show wpS _ _ _ _ (if κ.blt (KK κ (arrOf st') lo) (KK κ (arrOf st') (lo+n - 1))=true then _ else _) _ _
    cases q:κ.blt (KK κ (arrOf st') lo) (KK κ (arrOf st') (lo+n - 1)) with
    | true =>
      refine ifp rfl ?_
      exact wpS_pure (h n st' R0 g1 g2 s1)
    | false =>
      refine ifn Bool.false_ne_true ?_
      have all:∀ k,k < n->KK κ (arrOf st') (lo+k)=KK κ (arrOf st') (lo+(n - 1)):=fun k hk=>by
        have a1:=s1 0 k (by omega) hk
        have a2:=s1 k (n - 1) (by omega) (by omega)
        rw [Nat.add_zero] at a1
        rw [show lo+n - 1=lo+(n - 1) by omega] at q
        exact KeyOrd.kle_antisymm a2 (KeyOrd.kle_trans q a1)
      refine wpS_bind (wpS_reverse (i:=lo) (j:=lo+n) (hjp _ (R0.mir (Nat.le_refl _) (by omega)) ?_))
      have d0:DnK κ (arrOf st') lo n:=fun i j hij hj=>by rw [all i (by omega),all j hj];exact KeyOrd.kle_refl _
      refine (d0.more g1 (KeyOrd.kle_of_klt hlt)).congr fun k=>KK_mirror_equal hsz (fun k a b=>?_) k
      have e:=all (k - lo) (by omega)
      rw [show lo+(k - lo)=k by omega] at e
      rw [e,show lo+n - 1=lo+(n - 1) by omega]
  · have e1:n=1:=by omega
    subst e1
    have d0:DnK κ (arrOf st') lo 1:=fun i j hij hj=>by
      have e:i=j:=by omega
      subst e
      exact KeyOrd.kle_refl _
    exact hjp st' R0 (d0.more (Nat.le_refl _) (KeyOrd.kle_of_klt hlt))
end
def dH:Nat->List (List Keyed)->List (Nat×Nat)
  | _,[]=>[]
  | s,g::gs=>(s,g.length)::dH (s+g.length) gs
theorem bV:∀ (A B:List (List Keyed)) (s:Nat),dH s (A++B)=dH s A++dH (s+A.flatten.length) B
  | [],B,s=>by simp [dH]
  | g::A,B,s=>by
    rw [List.cons_append]
    simp only [dH,List.flatten_cons,List.length_append,List.cons_append]
    rw [bV A B,Nat.add_assoc]
theorem cG:∀ (A:List (List Keyed)) (s:Nat),(dH s A).length=A.length
  | [],s=>rfl
  | g::A,s=>by simp only [dH,List.length_cons,cG A]
def two (p:Nat×Nat×Nat):Nat×Nat:=(p.1,p.2.1)
structure Runs (κ:KeyKind)(a₀:Array Keyed)(segs:List (List Keyed))(rest:List Keyed)(st:SortSt):Prop where
  kind:kindOf st=oneType'
  failed:failedOf st=none
  perm:(arrOf st).Perm a₀
  arr:(arrOf st).toList=segs.flatten++rest
  pend:(pendingOf st).toList.map two=dH 0 segs
  sl:∀ g∈segs,SL κ g/\1<=g.length
theorem Runs.psize {κ:KeyKind}{a₀:Array Keyed}{segs:List (List Keyed)}{rest:List Keyed}{st:SortSt}(r:Runs κ a₀ segs rest st):(pendingOf st).size=segs.length:=by
  have:=congrArg List.length r.pend
  rw [List.length_map,cG,Array.length_toList] at this
  exact this
theorem Runs.total {κ:KeyKind}{a₀:Array Keyed}{segs:List (List Keyed)}{rest:List Keyed}{st:SortSt}(r:Runs κ a₀ segs rest st):segs.flatten.length+rest.length=a₀.size:=by
  have:=congrArg List.length r.arr
  rw [List.length_append,Array.length_toList,r.perm.size_eq] at this
  exact this.symm
theorem kw:∀ {segs:List (List Keyed)},(∀ g∈segs,1<=g.length)->segs.length<=segs.flatten.length
  | [],_=>Nat.le_refl _
  | g::gs,h=>by
    have a:=h g List.mem_cons_self
    have b:=kw (segs:=gs) fun q hq=>h q (List.mem_cons_of_mem _ hq)
    rw [List.flatten_cons,List.length_append,List.length_cons]
    omega
theorem gL:∀ {segs:List (List Keyed)} {i:Nat},i+1 < segs.length->∃ S1 X Y S2,segs=S1++(X::Y::S2)/\S1.length=i
  | [],i,h=>absurd h (by simp)
  | [g],i,h=>absurd h (by simp)
  | g::g'::gs,0,h=>⟨[],g,g',gs,rfl,rfl⟩
  | g::g'::gs,i+1,h=>by
    obtain⟨S1,X,Y,S2,e,l⟩:=gL (segs:=g'::gs) (i:=i) (by simpa using h)
    exact⟨g::S1,X,Y,S2,by rw [e];rfl,by simp [l]⟩
theorem hG {α β:Type}(f:α->β):∀ (l:List α) (n:Nat),(l.eraseIdx n).map f=(l.map f).eraseIdx n
  | [],n=>by simp
  | x::l,0=>by simp
  | x::l,n+1=>by
    rw [List.eraseIdx_cons_succ,List.map_cons,List.map_cons,List.eraseIdx_cons_succ,hG f l n]
theorem Runs.after {κ:KeyKind}{a₀:Array Keyed}{segs:List (List Keyed)}{rest:List Keyed}{st st':SortSt}(r:Runs κ a₀ segs rest st)(R:Rl segs.flatten.length st st'):Runs κ a₀ segs ((arrOf st').toList.drop segs.flatten.length) st':=by
  refine⟨R.kind,R.failed,R.perm.trans r.perm,?_,by rw [R.pend];exact r.pend,r.sl⟩
  have e:(arrOf st').toList.take segs.flatten.length=segs.flatten:=by
    have e1:(arrOf st).toList.take segs.flatten.length=segs.flatten:=by rw [r.arr,List.take_left]
    rw [← e1]
    refine List.ext_getElem? fun i=>?_
    have hlen:(List.take segs.flatten.length (arrOf st).toList).length=segs.flatten.length:=by
      rw [e1]
    rw [hlen]
    by_cases hi:i < segs.flatten.length
    · rw [List.getElem?_take_of_lt hi,List.getElem?_take_of_lt hi,Array.getElem?_toList,Array.getElem?_toList]
      exact R.pre i hi
    · rw [List.getElem?_take_eq_none (by omega),List.getElem?_take_eq_none (by omega)]
  have:=(List.take_append_drop segs.flatten.length (arrOf st').toList).symm
  rwa [e] at this
theorem UpK.sl {κ:KeyKind}{xs:Array Keyed}{lo n:Nat}(h:UpK κ xs lo n):SL κ ((xs.toList.drop lo).take n):=by
  refine List.pairwise_iff_getElem.mpr fun i j hi hj hij=>?_
  have hj':j < n/\j < xs.size - lo:=by
    rw [List.length_take,List.length_drop,Array.length_toList] at hj
    omega
  have q:=h i j (Nat.le_of_lt hij) hj'.1
  rw [eh (p:=xs[lo+i]) (getElem?_pos xs (lo+i) (by omega)),eh (p:=xs[lo+j]) (getElem?_pos xs (lo+j) (by omega))] at q
  rw [List.getElem_take,List.getElem_drop,List.getElem_take,List.getElem_drop]
  exact q
theorem nY {c:Prop}[Decidable c]{a b n:Nat}(h1:a+1 < n)(h2:b+1 < n):(if c then a else b)+1 < n:=by
  split<;>assumption
theorem kg (f:Nat×Nat×Nat->Nat×Nat×Nat)(hf:∀ x,two (f x)=two x)(p:Array (Nat×Nat×Nat))(i:Nat):(p.modify i f).toList.map two=p.toList.map two:=by
  refine List.ext_getElem? fun j=>?_
  rw [List.getElem?_map,List.getElem?_map,Array.getElem?_toList,Array.getElem?_toList,Array.getElem?_modify]
  cases p[j]? with
  | none=>split<;>rfl
  | some v =>
    split
    · show some (two (f v))=some (two v)
      rw [hf]
    · rfl
section
variable {prog:Program}{w:World}{A:Around}{E:Value->Shared->Prop}{s:Shared}{κ:KeyKind}
theorem cx (hO:κ.OneLt){a₀:Array Keyed}{segs:List (List Keyed)}{rest:List Keyed}{i:Nat}{st:SortSt}{Q:Bool->SortSt->Prop}(va:∀ p∈a₀.toList,Va κ p)(r:Runs κ a₀ segs rest st)(hi:i+1 < segs.length)
    (h:∀ segs' st',Runs κ a₀ segs' rest st'->segs'.length+1=segs.length->segs'.flatten.length=segs.flatten.length->Q true st'):wpS (model prog w) A E s (mergeAt' i) Q st:=by
  obtain⟨S1,X,Y,S2,rfl,l1⟩:=gL hi
  have pe:=r.pend
  rw [bV] at pe
  simp only [dH,Nat.zero_add] at pe
  have l1':(dH 0 S1).length=i:=by rw [cG];exact l1
  have at1:((pendingOf st).toList.map two)[i]? = some (S1.flatten.length,X.length):=by
    rw [pe,List.getElem?_append_right (by omega),l1',Nat.sub_self]
    rfl
  have at2:((pendingOf st).toList.map two)[i+1]? = some (S1.flatten.length+X.length,Y.length):=by
    rw [pe,List.getElem?_append_right (by omega),l1',show i+1 - i=1 by omega]
    rfl
  have get:∀ {k a b:Nat},((pendingOf st).toList.map two)[k]? = some (a,b)->∃ c,(pendingOf st)[k]? = some (a,b,c):=fun {k a b} e=>by
    rw [List.getElem?_map,Array.getElem?_toList] at e
    cases q:(pendingOf st)[k]? with
    | none=>rw [q] at e;cases e
    | some v =>
      rw [q] at e
      obtain⟨x,y,z⟩:=v
      have e':(x,y)=(a,b):=Option.some.inj e
      cases e'
      exact⟨z,rfl⟩
  obtain⟨pw,hp1⟩:=get at1
  obtain⟨pw2,hp2⟩:=get at2
  have ea:(arrOf st).toList=S1.flatten++(X++(Y++(S2.flatten++rest))):=by
    rw [r.arr]
    simp [List.append_assoc]
  have vall:∀ p∈(arrOf st).toList,Va κ p:=fun p hp=>va p ((Array.perm_iff_toList_perm.mp r.perm).mem_iff.mp hp)
  have sX:=r.sl X (by simp)
  have sY:=r.sl Y (by simp)
  refine iG hO r.kind r.failed hp1 hp2 ea (fun p hp=>vall p (by rw [ea];simp [hp])) (fun p hp=>vall p (by rw [ea];simp [hp])) sX.1 sY.1 sX.2 sY.2 fun M st' pM sM k' f' a' p'=>?_
  have lM:M.length=X.length+Y.length:=by rw [pM.length_eq,List.length_append]
  refine h (S1++M::S2) st' ⟨k',f',?_,?_,?_,fun g hg=>?_⟩ (by simp only [List.length_append,List.length_cons];omega) (by simp only [List.flatten_append,List.flatten_cons,List.length_append];omega)
  · refine Array.Perm.trans (Array.perm_iff_toList_perm.mpr ?_) r.perm
    rw [a',ea]
    refine List.Perm.append_left _ ?_
    rw [← List.append_assoc X]
    exact List.Perm.append_right _ pM
  · rw [a']
    simp [List.append_assoc]
  · rw [p',Array.toList_eraseIdxIfInBounds,Array.toList_setIfInBounds,bV]
    simp only [dH,Nat.zero_add]
    rw [hG,List.map_set,pe]
    rw [show two (S1.flatten.length,X.length+Y.length,pw)=(S1.flatten.length,X.length+Y.length) from rfl]
    rw [List.set_append_right _ _ (by omega),l1',Nat.sub_self,List.set_cons_zero,List.eraseIdx_append_of_length_le (by omega),l1',show i+1 - i=1 by omega]
    simp only [List.eraseIdx_cons_succ,List.eraseIdx_cons_zero]
    rw [lM,Nat.add_assoc]
  · rcases List.mem_append.mp hg with hg | hg
    · exact r.sl g (by simp [hg])
    · rcases List.mem_cons.mp hg with hg | hg
      · rw [hg];exact⟨sM,by omega⟩
      · exact r.sl g (by simp [hg])
theorem iD (hO:κ.OneLt){a₀:Array Keyed}{st:SortSt}{Q:Unit->SortSt->Prop}(va:∀ p∈a₀.toList,Va κ p)(hk:kindOf st=oneType')(hf:failedOf st=none)(hp:(arrOf st).Perm a₀)(hpe:pendingOf st=#[])
    (h:∀ st',(arrOf st').Perm a₀->failedOf st'=none->SL κ (arrOf st').toList->Q () st'):wpS (model prog w) A E s sortRuns' Q st:=by
  have hN:(arrOf st).size=a₀.size:=hp.size_eq
  have none_left:∀ {segs:List (List Keyed)} {rest:List Keyed} {st':SortSt},Runs κ a₀ segs rest st'->(arrOf st).size<=segs.flatten.length->Runs κ a₀ segs [] st':=fun {segs rest st'} r hl=>by
    have t:=r.total
    have e:rest=[]:=List.length_eq_zero_iff.mp (by omega)
    rw [← e]
    exact r
  refine wpS_bind (wpS_get ?_)
  refine wpS_bind (wpS_mono (wpS_forRange (a:=0) (b:=(arrOf st).size) (I:=fun x c st'=>∃ segs rest,c=(none,segs.flatten.length)/\Runs κ a₀ segs rest st'/\x<=segs.flatten.length)
    (Q:=fun c st'=>∃ segs lo,c=(none,lo)/\Runs κ a₀ segs [] st') ?_ ?_ ⟨[],(arrOf st).toList,rfl,⟨hk,hf,hp,rfl,by rw [hpe];rfl,fun g hg=>nomatch hg⟩,Nat.le_refl _⟩) ?_)
  · rintro x c st1 _ hx ⟨segs,rest,rfl,r,hxl⟩
    by_cases hge:segs.flatten.length ≥ (arrOf st).size
    · refine ifp hge ?_
      exact wpS_pure ⟨segs,_,rfl,none_left r hge⟩
    refine ifn hge ?_
    have hN1:(arrOf st1).size=a₀.size:=r.perm.size_eq
    have vall:∀ p∈(arrOf st1).toList,Va κ p:=fun p hp=>va p ((Array.perm_iff_toList_perm.mp r.perm).mem_iff.mp hp)
    refine wpS_bind (km (lo:=segs.flatten.length) (nrem:=(arrOf st).size - segs.flatten.length) hO r.kind r.failed vall (by omega) (by omega) fun m st2 R2 m1 m2 u2=>?_)
    have r2:=r.after R2
    have t2:=r2.total
    refine ifs (fun hlt=>?_) (fun hlt=>?_)
    · refine wpS_bind (wpS_lift (wpAny_rule ⟨rfl,?_⟩))
      have fo1:m<=min ((arrOf st).size - segs.flatten.length) (minRun' (arrOf st).size (arrOf st).size 0):=by
        have hlt':m < minRun' (arrOf st).size (arrOf st).size 0:=hlt
        omega
      have fo2:min ((arrOf st).size - segs.flatten.length) (minRun' (arrOf st).size (arrOf st).size 0)<=(arrOf st).size - segs.flatten.length:=Nat.min_le_left _ _
      refine wpS_bind (jP (lo:=segs.flatten.length) (n:=min ((arrOf st).size - segs.flatten.length) (minRun' (arrOf st).size (arrOf st).size 0)) (ok:=m) hO R2 vall (by omega) m1 fo1 u2 fun st3 R3 u3=>?_)
      refine ifn (by simp) ?_
      have r3:=r.after R3
      have t3:=r3.total
      have sN:=u3.sl
      generalize (arrOf st3).toList.drop segs.flatten.length=rest3 at r3 sN t3
      have push:∀ (segs':List (List Keyed)) (st4:SortSt),Runs κ a₀ segs' rest3 st4->segs'.flatten.length=segs.flatten.length->∃ segs5 rest5,((none,segs.flatten.length+min ((arrOf st).size - segs.flatten.length) (minRun' (arrOf st).size (arrOf st).size 0)):Option Unit×Nat)=(none,segs5.flatten.length)/\Runs κ a₀ segs5 rest5 (setPending st4 ((pendingOf st4).push (segs.flatten.length,min ((arrOf st).size - segs.flatten.length) (minRun' (arrOf st).size (arrOf st).size 0),0)))/\x+1<=segs5.flatten.length:=fun segs' st4 r4 e4=>by
        have lN:(rest3.take (min ((arrOf st).size - segs.flatten.length) (minRun' (arrOf st).size (arrOf st).size 0))).length=min ((arrOf st).size - segs.flatten.length) (minRun' (arrOf st).size (arrOf st).size 0):=by rw [List.length_take];omega
        have lf:(segs'++[rest3.take (min ((arrOf st).size - segs.flatten.length) (minRun' (arrOf st).size (arrOf st).size 0))]).flatten.length=segs.flatten.length+min ((arrOf st).size - segs.flatten.length) (minRun' (arrOf st).size (arrOf st).size 0):=by
          rw [List.flatten_append,List.length_append,List.flatten_singleton,lN,e4]
        refine⟨segs'++[rest3.take (min ((arrOf st).size - segs.flatten.length) (minRun' (arrOf st).size (arrOf st).size 0))],rest3.drop (min ((arrOf st).size - segs.flatten.length) (minRun' (arrOf st).size (arrOf st).size 0)),by rw [lf],⟨r4.kind,r4.failed,r4.perm,?_,?_,fun g hg=>?_⟩,by rw [lf];omega⟩
        · show (arrOf st4).toList=_
          rw [r4.arr,List.flatten_append,List.flatten_singleton,List.append_assoc,List.take_append_drop]
        · show ((pendingOf st4).push (segs.flatten.length,min ((arrOf st).size - segs.flatten.length) (minRun' (arrOf st).size (arrOf st).size 0),0)).toList.map two=_
          rw [Array.toList_push,List.map_append,r4.pend,bV,e4]
          simp only [dH,Nat.zero_add,lN]
          rfl
        · rcases List.mem_append.mp hg with hg | hg
          · exact r4.sl g hg
          · rw [List.mem_singleton.mp hg]
            exact⟨sN,by omega⟩
      refine wpS_bind (wpS_get ?_)
      cases hb:(pendingOf st3).back? with
      | none=>exact wpS_bind (wpS_modify (wpS_pure (push segs st3 r3 rfl)))
      | some v =>
        obtain⟨s1,n1,p0⟩:=v
        refine wpS_bind (wpS_mono (wpS_forRange (a:=0) (b:=(arrOf st).size) (I:=fun y c st4=>c=(none,())/\∃ segs',Runs κ a₀ segs' rest3 st4/\segs'.flatten.length=segs.flatten.length) (Q:=fun c st4=>c=(none,())/\∃ segs',Runs κ a₀ segs' rest3 st4/\segs'.flatten.length=segs.flatten.length) ?_ (fun _ _ h=>h) ⟨rfl,segs,r3,rfl⟩) ?_)
        · rintro y c st4 _ hy ⟨rfl,segs',r4,e4⟩
          refine wpS_bind (wpS_get ?_)
          have ps:=r4.psize
          by_cases hsz:(pendingOf st4).size > 1
          · obtain⟨v,hv⟩:∃ v,(pendingOf st4)[(pendingOf st4).size - 2]? = some v:=⟨_,getElem?_pos _ _ (by omega)⟩
            obtain⟨q1,q2,q3⟩:=v
            have em:(if (pendingOf st4).size > 1 then (pendingOf st4)[(pendingOf st4).size - 2]? else none)=some (q1,q2,q3):=by rw [if_pos hsz,hv]
            dsimp only
            rw [em]
            refine ifs (fun ho=>wpS_pure ⟨rfl,segs',r4,e4⟩) (fun ho=>?_)
            refine wpS_bind (cx (i:=(pendingOf st4).size - 2) hO va r4 (by omega) fun segs5 st5 r5 l5 e5=>?_)
            exact ifn (by simp) (wpS_pure ⟨rfl,segs5,r5,by omega⟩)
          · have em:(if (pendingOf st4).size > 1 then (pendingOf st4)[(pendingOf st4).size - 2]? else none)=none:=if_neg hsz
            dsimp only
            rw [em]
            exact wpS_pure ⟨rfl,segs',r4,e4⟩
        · rintro c st4 ⟨rfl,segs',r4,e4⟩
          refine wpS_bind (wpS_modify (wpS_bind (wpS_modify (wpS_pure (push segs' _ ⟨r4.kind,r4.failed,r4.perm,r4.arr,?_,r4.sl⟩ e4)))))
          refine (kg _ ?_ _ _).trans r4.pend
          intro z
          rfl
    · have sN:=u2.sl
      have r3:=r2
      have t3:=t2
      generalize (arrOf st2).toList.drop segs.flatten.length=rest3 at r3 sN t3
      have push:∀ (segs':List (List Keyed)) (st4:SortSt),Runs κ a₀ segs' rest3 st4->segs'.flatten.length=segs.flatten.length->∃ segs5 rest5,((none,segs.flatten.length+m):Option Unit×Nat)=(none,segs5.flatten.length)/\Runs κ a₀ segs5 rest5 (setPending st4 ((pendingOf st4).push (segs.flatten.length,m,0)))/\x+1<=segs5.flatten.length:=fun segs' st4 r4 e4=>by
        have lN:(rest3.take (m)).length=m:=by rw [List.length_take];omega
        have lf:(segs'++[rest3.take (m)]).flatten.length=segs.flatten.length+m:=by
          rw [List.flatten_append,List.length_append,List.flatten_singleton,lN,e4]
        refine⟨segs'++[rest3.take (m)],rest3.drop (m),by rw [lf],⟨r4.kind,r4.failed,r4.perm,?_,?_,fun g hg=>?_⟩,by rw [lf];omega⟩
        · show (arrOf st4).toList=_
          rw [r4.arr,List.flatten_append,List.flatten_singleton,List.append_assoc,List.take_append_drop]
        · show ((pendingOf st4).push (segs.flatten.length,m,0)).toList.map two=_
          rw [Array.toList_push,List.map_append,r4.pend,bV,e4]
          simp only [dH,Nat.zero_add,lN]
          rfl
        · rcases List.mem_append.mp hg with hg | hg
          · exact r4.sl g hg
          · rw [List.mem_singleton.mp hg]
            exact⟨sN,by omega⟩
      refine wpS_bind (wpS_get ?_)
      cases hb:(pendingOf st2).back? with
      | none=>exact wpS_bind (wpS_modify (wpS_pure (push segs st2 r3 rfl)))
      | some v =>
        obtain⟨s1,n1,p0⟩:=v
        refine wpS_bind (wpS_mono (wpS_forRange (a:=0) (b:=(arrOf st).size) (I:=fun y c st4=>c=(none,())/\∃ segs',Runs κ a₀ segs' rest3 st4/\segs'.flatten.length=segs.flatten.length) (Q:=fun c st4=>c=(none,())/\∃ segs',Runs κ a₀ segs' rest3 st4/\segs'.flatten.length=segs.flatten.length) ?_ (fun _ _ h=>h) ⟨rfl,segs,r3,rfl⟩) ?_)
        · rintro y c st4 _ hy ⟨rfl,segs',r4,e4⟩
          refine wpS_bind (wpS_get ?_)
          have ps:=r4.psize
          by_cases hsz:(pendingOf st4).size > 1
          · obtain⟨v,hv⟩:∃ v,(pendingOf st4)[(pendingOf st4).size - 2]? = some v:=⟨_,getElem?_pos _ _ (by omega)⟩
            obtain⟨q1,q2,q3⟩:=v
            have em:(if (pendingOf st4).size > 1 then (pendingOf st4)[(pendingOf st4).size - 2]? else none)=some (q1,q2,q3):=by rw [if_pos hsz,hv]
            dsimp only
            rw [em]
            refine ifs (fun ho=>wpS_pure ⟨rfl,segs',r4,e4⟩) (fun ho=>?_)
            refine wpS_bind (cx (i:=(pendingOf st4).size - 2) hO va r4 (by omega) fun segs5 st5 r5 l5 e5=>?_)
            exact ifn (by simp) (wpS_pure ⟨rfl,segs5,r5,by omega⟩)
          · have em:(if (pendingOf st4).size > 1 then (pendingOf st4)[(pendingOf st4).size - 2]? else none)=none:=if_neg hsz
            dsimp only
            rw [em]
            exact wpS_pure ⟨rfl,segs',r4,e4⟩
        · rintro c st4 ⟨rfl,segs',r4,e4⟩
          refine wpS_bind (wpS_modify (wpS_bind (wpS_modify (wpS_pure (push segs' _ ⟨r4.kind,r4.failed,r4.perm,r4.arr,?_,r4.sl⟩ e4)))))
          refine (kg _ ?_ _ _).trans r4.pend
          intro z
          rfl
  · rintro c st1 ⟨segs,rest,rfl,r,hxl⟩
    rw [Nat.max_eq_right (Nat.zero_le _)] at hxl
    exact⟨segs,_,rfl,none_left r hxl⟩
  · rintro c st1 ⟨segs,lo,rfl,r⟩
    have tt:=r.total
    rw [List.length_nil,Nat.add_zero] at tt
    have fg:=kw fun g hg=>(r.sl g hg).2
    refine wpS_bind (wpS_mono (wpS_forRange (a:=0) (b:=(arrOf st).size) (I:=fun y c st2=>c=(none,())/\∃ segs',Runs κ a₀ segs' [] st2/\(segs'.length+y<=a₀.size\/segs'.length<=1)) (Q:=fun c st2=>c=(none,())/\∃ segs',Runs κ a₀ segs' [] st2/\segs'.length<=1) ?_ ?_ ⟨rfl,segs,r,.inl (by omega)⟩) ?_)
    · rintro y c st2 _ hy ⟨rfl,segs',r2,alt⟩
      refine wpS_bind (wpS_get ?_)
      have ps:=r2.psize
      by_cases hsz:(pendingOf st2).size<=1
      · refine ifp hsz ?_
        exact wpS_pure ⟨rfl,segs',r2,by omega⟩
      refine ifn hsz ?_
      refine wpS_bind (cx hO va r2 ?_ fun segs5 st5 r5 l5 e5=>?_)
      · exact nY (show (pendingOf st2).size - 2 - 1+1 < _ by omega) (show (pendingOf st2).size - 2+1 < _ by omega)
      · exact ifn (by simp) (wpS_pure ⟨rfl,segs5,r5,.inl (by omega)⟩)
    · rintro c st2 ⟨rfl,segs',r2,alt⟩
      refine⟨rfl,segs',r2,?_⟩
      rw [Nat.max_eq_right (Nat.zero_le _)] at alt
      omega
    · rintro c st2 ⟨rfl,segs',r2,l2⟩
      refine wpS_pure (h st2 r2.perm r2.failed ?_)
      rw [r2.arr,List.append_nil]
      match segs',l2,r2 with
      | [],_,_=>exact List.Pairwise.nil
      | [g],_,r2=>rw [List.flatten_singleton];exact (r2.sl g List.mem_cons_self).1
end
theorem SL.toK {κ:KeyKind}{xs:Array Keyed}(h:SL κ xs.toList)(n:Nat)(hn:n<=xs.size):SortedToK κ xs n:=fun i j hij hj=>by
  obtain⟨p,hp,_⟩:=bQ (x:=xs) (i:=i) (by omega)
  obtain⟨q,hq,_⟩:=bQ (x:=xs) (i:=j) (by omega)
  rw [eh hp,eh hq]
  exact h.at hij (by rw [Array.getElem?_toList];exact hp) (by rw [Array.getElem?_toList];exact hq)
section
variable {prog:Program}{w:World}{A:Around}{E:Value->Shared->Prop}{s:Shared}
theorem lW {a:Addr}{vs:List Value}{ss:List Str}{n:Nat}{R:Fin->Shared->Prop}(ho:s.heap.get? a=some (seqObj "list" vs.toArray n))(hS:StrsAre vs ss)(h2:2<=vs.length)(hz:vs.length<=sizeLine)
    (h:∀ (out:Array Value) (ss':List Str),StrsAre out.toList ss'->ss'.Perm ss->sortedS ss'=true->R (.done (.ret .none)) { s with heap:=sortedHeap s.heap a vs out }) :
    wpAny (model prog w) A (Builtin.«list.sort» ⟨[.ref a],[]⟩) R E s:=by
  have la:a < s.heap.objs.size:=Heap.lt_size ho
  have sv:vs.toArray.size=vs.length:=List.size_toArray ..
  obtain⟨e1,he1⟩:∃ e,(s.heap.update a (Obj.mapSeq fun _=>#[])).get? a=some (seqObj "list" #[] e):=⟨_,get?_update_seq ho (fun _=>#[])⟩
  have he2:(((s.heap.update a (Obj.mapSeq fun _=>#[])).push (seqObj "tuple" vs.toArray 0)).push (seqObj "list" #[] 0)).get? a=some (seqObj "list" #[] e1):=by
    rw [Heap.get?_push_ne _ _ _ (by rw [size_push',Heap.size_update];exact Nat.ne_of_lt (Nat.lt_of_lt_of_le la (Nat.le_succ _))),Heap.get?_push_ne _ _ _ (by rw [Heap.size_update];exact Nat.ne_of_lt la)]
    exact he1
  obtain⟨v1,v2,vr,rfl⟩:∃ x y r,vs=x::y::r:=by
    rcases vs with _ | ⟨x,_ | ⟨y,r⟩⟩
    · simp at h2
    · simp at h2
    · exact⟨x,y,r,rfl⟩
  rw [list_sort_plain]
  refine wpAny_bind (listItems_at ho rfl (wpAny_bind (listUpdate_at ho rfl ?_ (by rw [sv];exact hz) (Nat.zero_le _))))
  refine wpAny_bind (seqEpoch_at he1 rfl (wpAny_bind (wpAny_newTuple (wpAny_bind (wpAny_newList (wpAny_holding ?_))))))
  have nb:¬ (v1::v2::vr).toArray.size < 2:=by rw [sv];omega
  have go:wpAny (model prog w) A (sortRuns'.run (SortSt.mk' oneType' ((v1::v2::vr).toArray.zip (v1::v2::vr).toArray) #[] 7 none))
      (fun r s'=>s'={ s with heap:=((s.heap.update a (Obj.mapSeq fun _=>#[])).push (seqObj "tuple" (v1::v2::vr).toArray 0)).push (seqObj "list" #[] 0) }/\(arrOf r.2).Perm (pairsOf (v1::v2::vr))/\failedOf r.2=none/\SL strKind (arrOf r.2).toList) E
      { s with heap:=((s.heap.update a (Obj.mapSeq fun _=>#[])).push (seqObj "tuple" (v1::v2::vr).toArray 0)).push (seqObj "list" #[] 0) } :=
    iD (κ:=strKind) strKind_oneLt (a₀:=pairsOf (v1::v2::vr)) (Q:=fun _ st'=>(arrOf st').Perm (pairsOf (v1::v2::vr))/\failedOf st'=none/\SL strKind (arrOf st').toList) (fun p hp=>hS.keysOf p hp) rfl rfl (Array.Perm.refl _) rfl fun st' b1 b2 b3=>⟨b1,b2,b3⟩
  rw [if_neg nb,keyKind_strs hS]
  refine wpAny_bind (wpAny_pure ?_)
  rw [if_neg nb]
  refine wpAny_bind (wpAny_mono go ?_ fun _ _ e=>e)
  rintro⟨⟨⟩,st'⟩ s' ⟨rfl,b1,b2,b3⟩
  have sz:(arrOf st').size=(v1::v2::vr).length:=b1.size_eq.trans (pairsOf_size _)
  obtain⟨ss',d1,d2,d3⟩:=sorted_out_str hS b1 (b3.toK _ (Nat.le_of_eq b1.size_eq.symm))
  refine wpAny_bind (seqEpoch_at he2 rfl (wpAny_bind (listUpdate_at he2 rfl ?_ (Nat.zero_le _) (by rw [Array.size_map,sz];omega))))
  dsimp only
  rw [b2]
  simp only [bne_self_eq_false,Bool.false_eq_true,if_false]
  exact wpAny_pure (h _ ss' d1 d2 d3)
theorem sorted_any {l:Addr}{vs:List Value}{ss:List Str}{Q:Value->Shared->Prop}(hl:s.heap.IsList l vs.toArray)(hS:StrsAre vs ss)(hz:vs.length<=sizeLine)
    (h:∀ (out:Array Value) (ss':List Str),StrsAre out.toList ss'->ss'.Perm ss->sortedS ss'=true->Q (.ref (s.heap.objs.size+1)) { s with heap:=sortedAll s.heap vs out }) :
    wpAny (model prog w) A (call (.builtin "sorted") [.ref l]) Q E s:=by
  by_cases h64:vs.length < 64
  · exact sorted_strs hl hS h64 h
  refine Calls.call_function_entry kind_sorted plain_sorted entry_sorted (args_sorted1 _) ?_
  have s1:((s.heap.push (seqObj "list" #[] 0)).update s.heap.objs.size (Obj.mapSeq (·++vs.toArray))).objs.size=s.heap.objs.size+1:=by
    rw [Heap.size_update,size_push']
  have g1:(((s.heap.push (seqObj "list" #[] 0)).update s.heap.objs.size (Obj.mapSeq (·++vs.toArray))).push (seqObj "list" vs.toArray 0)).get? (s.heap.objs.size+1)=some (seqObj "list" vs.toArray 0):=by
    rw [← s1]
    exact Heap.get?_push_size _ rfl
  unfold Builtin.«sorted»
  refine wpAny_bind (m:=checkCount "sorted" 1 1 _) (wpAny_pure (wpAny_bind (collect_list hl (wpAny_bind (wpAny_newList ?_)) hz)))
  show wpAny _ _ _ _ _ { s with heap:=((s.heap.push (seqObj "list" #[] 0)).update s.heap.objs.size (Obj.mapSeq (·++vs.toArray))).push (seqObj "list" vs.toArray 0) }
  rw [s1]
  exact wpAny_bind (wpAny_holding (wpAny_call_entry slot_list_sort ⟨_,g1,rfl⟩ entry_list_sort (lW g1 hS (by omega) hz fun out ss' b1 b2 b3=>⟨_,rfl,wpAny_pure ⟨_,rfl,h out ss' b1 b2 b3⟩⟩) (args_list_sort _)))
end
end TS
namespace L2
open PySem PySem.Spec PyProof.Rows
section
variable {X:Cx}
theorem ci:dv X (.builtin "sorted") (fun xs H Q=>∃ (p:Addr) (ss:List Str),xs=[.ref p]/\SqL X.K H p (ss.map V.str)/\ss.length<=sizeLine/\∀ (l:Addr) (ss':List Str),H l=none->ss'.Perm ss->sortedS ss'=true->Q (.ref l) (upd H l (.lst (ss'.map V.str)))):=by
  intro pins s σ H xs us Q I r h
  obtain⟨p,ss,rfl,hq,hl,q⟩:=h
  obtain⟨u,rfl,rx⟩:=gP r
  cases rx
  obtain⟨its,rv,pl,hz⟩:=I.list hq
  have hlen:=rv.length
  rw [List.length_map] at hlen
  refine TS.sorted_any pl.isList (cU rv) (by omega) fun out ss' a1 a2 a3=>?_
  obtain⟨e,he⟩:=sortedAll_at s.heap its out
  have hlen':ss'.length=ss.length:=a2.length_eq
  refine⟨.ref (s.heap.objs.size+1),_,I.laid (t':=s.toks) (o:=.lst (ss'.map V.str)) (fun b o e=>sortedAll_old e) (Nat.le_succ _) ⟨?_,out.toList,e,dN a1,?_⟩,rfl,q _ ss' (I.hok.fresh (Nat.le_succ _)) a2 a3⟩
  · rw [List.length_map,hlen']
    exact hl
  · simpa using he
end
end L2
namespace K7
open PySem L2 PyProof.Rows
def top (i:Nat):Stmt:=PySem.Challenge.pw_keyrooms_k50_houses_written_and_read.main.body.getD i (.Pass ⟨0,0,0,0⟩)
abbrev eU:Stmt:=top 8
abbrev dj:Stmt:=top 9
abbrev fV:Stmt:=top 10
abbrev jF:Stmt:=top 11
abbrev dm:Stmt:=top 12
abbrev nC:Stmt:=top 13
abbrev fu:Stmt:=top 33
abbrev mF:Stmt:=top 37
abbrev bI:Stmt:=top 15
abbrev bH:Stmt:=top 16
abbrev bh:Stmt:=top 17
abbrev bu:Stmt:=top 18
abbrev bx:Stmt:=top 19
abbrev bi:Stmt:=top 20
abbrev bf:Stmt:=top 22
abbrev be:Stmt:=top 23
abbrev bG:Stmt:=top 24
abbrev bF:Stmt:=top 25
abbrev bJ:Stmt:=top 26
abbrev br:Stmt:=top 27
abbrev bm:Stmt:=top 28
abbrev aF:Stmt:=top 29
abbrev bw:Stmt:=top 30
abbrev aY:Stmt:=top 31
abbrev bg:Stmt:=top 32
abbrev aU:Stmt:=top 34
abbrev aH:Stmt:=top 35
abbrev bK:Stmt:=top 36
abbrev oj:Stmt:=top 37
structure Cal (K:PySem.W.Frag)(mg:Str->Option Value)(x:Str)(ps:List Str)(f:Addr)(fd:FuncData):Prop where
  mg:mg x=some (.ref f)
  kp:PySem.W.keepIn K (.ref f)=true
  b:Binds K fd ps []
def But (p:Addr)(H H':Hp):Prop:=∀ b u,b≠p->H b=some u->H' b=some u
theorem But.trans {p:Addr}{H H1 H2:Hp}(a:But p H H1)(b:But p H1 H2):But p H H2:=fun c u n e=>b c u n (a c u n e)
theorem But.upd {p:Addr}{H:Hp}{o:HO}:But p H (upd H p o):=fun b u n e=>by rw [au n];exact e
theorem But.free {p q:Addr}{H H':Hp}(a:But p H H')(n:q≠p)(e:H' q=none):H q=none:=by
  cases h:H q with
  | none=>rfl
  | some u=>rw [a q u n h] at e;cases e
def dD (e:Expr):Scope:=match e with
  | .ListComp _ _ s _=>s
  | .DictComp _ _ _ s _=>s
  | _=>{ kind:=.function,names:=[],isGenerator:=false,isCoroutine:=false }
def gl (s:Stmt):Expr:=match s with
  | .Return (some e) _=>e
  | _=>.Name "" ⟨0,0,0,0⟩
def aJ (z:Str):Prop:=1<=z.length/\z.length<=4/\∀ c∈z.cps.toList,97<=c/\c<=122
def mt:Sp:=fun vs H Q _=>∃ z:Str,vs=[.str z]/\aJ z/\∀ H',Same H H'->Q (.bl true) H'
abbrev lettersS:Str := "abcdefghijklmnopqrstuvwxyz"
theorem jB (c:Nat)(h1:97<=c)(h2:c<=122):(!(Builtin.Str.occurrences lettersS ⟨#[c]⟩ 0 lettersS.length 1).isEmpty)=true:=by
  have all:∀ k:_root_.Fin 26,(!(Builtin.Str.occurrences lettersS ⟨#[97+k.val]⟩ 0 lettersS.length 1).isEmpty)=true:=by decide +kernel
  have e:=all ⟨c - 97,by omega⟩
  have e2:97+(c - 97)=c:=by omega
  simp only [e2] at e
  exact e
section
variable {P:Program}{w:World}{K:PySem.W.Frag}{mg:Str->Option Value}{base:Heap}
structure Glb (mg:Str->Option Value):Prop where
  isi:mg "isinstance" = none
  str:mg "str" = none
  len:mg "len" = none
  all:mg "all" = none
  letters:∃ t,mg "LETTERS" = some (.str lettersS t)
  most:∃ t,mg "MOST_LETTERS" = some (.int 4 t)
theorem ou:aB ["thing"] ["thing"] (ag eU):=⟨rfl,rfl,rfl,by decide +kernel,rfl,by decide +kernel,by decide +kernel⟩
def gw (e:Expr):Expr:=match e with
  | .Call _ (a::_) _ _=>a
  | e=>e
abbrev md:Expr:=gw (gl ((av eU).getD 1 (.Pass ⟨0,0,0,0⟩)))
theorem nZ:eK (ag eU) (dD md) ["thing"] ["sign"] 1 []=true:=by decide +kernel
theorem nd2:(["sign"]:List Str).Nodup:=by decide +kernel
theorem mM {f:Addr}{fd:FuncData}(F:Fun K "is_kind" "is_kind" eU f fd)(G:Glb mg):FnOk P w K mg base CX0 1 f fd ["thing"] mt:=by
  obtain⟨tl,hL⟩:=G.letters
  obtain⟨tm,hM⟩:=G.most
  refine F.ok ou (fun vs H Q E h=>?_) (fun cdv A outer s H vs Q E hr h=>?_)
  · obtain⟨z,rfl,_⟩:=h
    rfl
  · obtain⟨z,rfl,⟨z1,z2,z3⟩,k⟩:=h
    obtain⟨S,Cp⟩:=eG (X:=(ld CX0 P w K mg base ["thing"] "is_kind" (ag eU) f cdv A outer s H E).nox) (outer:=ag eU) (N:=["thing"]) rfl rfl nZ
    refine⟨_,aj (cc (PW.pt (fq (cC (cu (ao ay rfl G.isi (by decide +kernel) (ad (pv 0) (ad (bp (v:=.ty "str") (u:=.type "str") rfl G.str (by decide +kernel) rfl) ae)))))
          (dE (cC (lQ kq kq ak (ao dZ rfl G.len PySem.boot_len (ad (pv 0) ae)) (iV (v:=.int 4) rfl hM ⟨tm,rfl⟩))))))
        (aq (aA gZ)) aX)
      (aq (aA (ao (gC rfl) rfl G.all (by decide +kernel) (ad (dB (tg:=.Name "sign" _) rfl S Cp (nI (pv 0))
        (fun C fp s₀ H₀=>ax (i:=0) nd2 rfl (Or.inl rfl) (.inr rfl)) (fun C fp s₀ H₀=>b5)
        (fun C fp s₀ H₀=>b9 kI (pv 0) (iV (v:=.str lettersS) rfl hL ⟨tl,rfl⟩) (by with_unfolding_all rfl))) ae)))),?_⟩
    have zs:z.length<=sizeLine:=Nat.le_of_lt (bt (by omega))
    refine⟨_,rfl,_,_,_,true,rfl,.str z,bY K _,true,rfl,?_⟩
    refine dM ?_
    refine⟨_,rfl,z,rfl,zs,1,_,rfl,rfl,true,congrArg V.bl (decide_eq_true (by omega)),?_⟩
    refine ip ?_
    refine⟨_,4,rfl,rfl,true,congrArg V.bl (decide_eq_true (by omega)),?_⟩
    refine dM ?_
    dsimp only [jA,lg,tCB,fm,lc]
    refine bo _ _ _ _ _ _ _ _ _ ?_
    refine⟨_,rfl,z,rfl,?_⟩
    intro D hD
    refine lz (fun i ys H2=>ys=(List.replicate i true).map V.bl/\H2 D=some (.lst ys)/\Same H H2) ⟨rfl,af,fun b u e=>by rw [au (ah e hD)];exact e⟩ (fun i ys H2 ⟨_,h,_⟩=>h) ?_ ?_
    · rintro i ys H2 c hc ⟨rfl,hD2,sm⟩
      have hi:i < z.cps.size:=(Array.getElem?_eq_some_iff.mp hc).1
      have hz:z.length=z.cps.size:=rfl
      have hm:c∈z.cps.toList:=by
        have:=Array.mem_of_getElem? hc
        simpa using this
      refine bU rfl ?_
      refine⟨_,rfl,_,_,rfl,rfl,hD2,by rw [List.length_map,List.length_replicate];exact bt (by omega),nx hi ⟨?_,af,fun b u e=>?_⟩⟩
      · rw [jB c (z3 c hm).1 (z3 c hm).2,List.replicate_succ',List.map_append]
        rfl
      · rw [au (ah e hD)]
        exact sm b u e
    · rintro ys H2 ⟨rfl,hD2,sm⟩
      refine⟨D,List.replicate z.cps.size true,rfl,SqL.of hD2,?_⟩
      have e:(List.replicate z.cps.size true).all id=true:=by simp
      rw [e]
      exact k H2 sm
end
def eR:Sp:=fun vs H Q _=>∃ (a:Addr) (ks:List Str),vs=[.ref a]/\H a=some (.lst (ks.map V.str))/\(∀ k∈ks,aJ k)/\ks.length<=1000/\∀ H',Same H H'->Q (.bl true) H'
def jd (e:Expr):Expr:=match e with
  | .BoolOp _ es _=>es.getLastD e
  | e=>e
section
variable {P:Program}{w:World}{K:PySem.W.Frag}{mg:Str->Option Value}{base:Heap}
theorem m5:aB ["thing"] ["thing"] (ag dj):=⟨rfl,rfl,rfl,by decide +kernel,rfl,by decide +kernel,by decide +kernel⟩
abbrev ko:Expr:=gw (jd (gl ((av dj).getD 0 (.Pass ⟨0,0,0,0⟩))))
theorem nn:eK (ag dj) (dD ko) ["thing"] ["kind"] 1 []=true:=by decide +kernel
theorem nd3:(["kind"]:List Str).Nodup:=by decide +kernel
theorem lX {f fK:Addr}{fd fdK:FuncData}(F:Fun K "are_kinds" "are_kinds" dj f fd)(FK:Fun K "is_kind" "is_kind" eU fK fdK)(cK:Cal K mg "is_kind" ["thing"] fK fdK)(G:Glb mg)(mLi:mg "list" = none):FnOk P w K mg base CX0 2 f fd ["thing"] eR:=by
  have GK:FnOk P w K mg base CX0 1 fK fdK ["thing"] mt:=mM FK G
  refine F.ok m5 (fun vs H Q E h=>?_) (fun cdv A outer s H vs Q E hr h=>?_)
  · obtain⟨a,ks,rfl,_⟩:=h
    rfl
  · obtain⟨a,ks,rfl,ha,hk,hl,k⟩:=h
    obtain⟨S,Cp⟩:=eG (X:=(ld CX0 P w K mg base ["thing"] "are_kinds" (ag dj) f cdv A outer s H E).nox) (outer:=ag dj) (N:=["thing"]) rfl rfl nn
    refine⟨_,aq (aA (cJ (ao ay rfl G.isi (by decide +kernel) (ad (pv 0) (ad (bp (v:=.ty "list") (u:=.type "list") rfl mLi (by decide +kernel) rfl) ae)))
      (fX (ao (gC rfl) rfl G.all (by decide +kernel) (ad (dB (tg:=.Name "kind" _) rfl S Cp (cy (pv 0))
        (fun C fp s₀ H₀=>ax (i:=0) nd3 rfl (Or.inl rfl) (.inr rfl)) (fun C fp s₀ H₀=>b5)
        (fun C fp s₀ H₀=>al GK hr rfl cK.mg cK.kp cK.b .nil aG (ad (pv 0) ae))) ae))))),?_⟩
    refine⟨_,rfl,_,_,_,true,rfl,.lst ha,bY K _,true,rfl,?_⟩
    refine ip ?_
    dsimp only [jA,lg,tCB,fm,lc]
    refine bo _ _ _ _ _ _ _ _ _ ?_
    refine⟨_,rfl,a,rfl,⟨_,SqL.of ha⟩,?_⟩
    intro D hD
    refine b8 (xs:=ks.map V.str) (fun i ys H2=>ys=(List.replicate i true).map V.bl/\i<=1000/\H2 D=some (.lst ys)/\Same H H2) ⟨rfl,by decide,af,fun b u e=>by rw [au (ah e hD)];exact e⟩ (fun i ys H2 ⟨_,_,h,_⟩=>h) (fun i ys H2 ⟨_,_,_,sm⟩=>SqL.of (sm a _ ha)) ?_ ?_
    · rintro i ys H2 x hx ⟨rfl,hi0,hD2,sm⟩
      have hi:i < (ks.map V.str).length:=(List.getElem?_eq_some_iff.mp hx).1
      have hi':=hi
      rw [List.length_map] at hi'
      rw [List.getElem?_map,List.getElem?_eq_getElem hi'] at hx
      cases hx
      refine bU rfl ?_
      refine⟨_,rfl,ks[i],rfl,hk _ (List.getElem_mem hi'),fun H3 sm3=>?_⟩
      refine⟨sm3 D _ hD2,by rw [List.length_map,List.length_replicate];exact bt (by omega),nx hi ⟨?_,by omega,af,fun b u e=>?_⟩⟩
      · rw [List.replicate_succ',List.map_append]
        rfl
      · rw [au (ah e hD)]
        exact sm3 b u (sm b u e)
    · rintro ys H2 ⟨rfl,_,hD2,sm⟩
      refine⟨D,List.replicate (ks.map V.str).length true,rfl,SqL.of hD2,?_⟩
      have e:(List.replicate (ks.map V.str).length true).all id=true:=by simp
      rw [e]
      exact k H2 sm
end
def iz:Sp:=fun vs H Q _=>∃ (a:Addr) (ks:List Str),vs=[.ref a]/\H a=some (.lst (ks.map V.str))/\(∀ k∈ks,aJ k)/\1<=ks.length/\ks.length<=4/\ks.Pairwise leS/\∀ H',Same H H'->Q (.bl true) H'
theorem dd {ks:List Str}(h:∀ k∈ks,aJ k):PyData.canLayAll0 (ks.map PyData.str)=true:=by
  induction ks with
  | nil=>rfl
  | cons z r ih =>
    have hz:=h z List.mem_cons_self
    have hs:PyData.strOk z=true:=by
      unfold PyData.strOk
      rw [← Array.all_toList,List.all_eq_true]
      intro c hc
      exact decide_eq_true (by have:=hz.2.2 c hc;omega)
    rw [List.map_cons]
    simp only [PyData.canLayAll0,PyData.canLay0,hs,Bool.true_and]
    exact ih fun k hk=>h k (List.mem_cons_of_mem _ hk)
theorem je:∀ ks:List Str,PyData.eqvAll (ks.map PyData.str) (ks.map PyData.str)=true
  | []=>rfl
  | z::r=>by
    rw [List.map_cons]
    simp only [PyData.eqvAll,PyData.eqv,beq_self_eq_true,Bool.true_and]
    exact je r
theorem cQ:∀ ks:List Str,PyData.depthAll (ks.map PyData.str)=0
  | []=>rfl
  | z::r=>by
    rw [List.map_cons]
    simp only [PyData.depthAll,PyData.depth,cQ r]
    rfl
section
variable {P:Program}{w:World}{K:PySem.W.Frag}{mg:Str->Option Value}{base:Heap}
theorem m9:aB ["thing"] ["thing"] (ag fV):=⟨rfl,rfl,rfl,by decide +kernel,rfl,by decide +kernel,by decide +kernel⟩
theorem lq {f fK:Addr}{fd fdK:FuncData}(F:Fun K "are_locks" "are_locks" fV f fd)(GK:FnOk P w K mg base CX0 2 fK fdK ["thing"] eR)(cK:Cal K mg "are_kinds" ["thing"] fK fdK)(mLe:mg "len" = none)(mSo:mg "sorted" = none)(hM:∃ t,mg "MOST_LOCKS" = some (.int 4 t)) :
    FnOk P w K mg base CX0 3 f fd ["thing"] iz:=by
  obtain⟨tm,hM⟩:=hM
  refine F.ok m9 (fun vs H Q E h=>?_) (fun cdv A outer s H vs Q E hr h=>?_)
  · obtain⟨a,ks,rfl,_⟩:=h
    rfl
  · obtain⟨a,ks,rfl,ha,hk,h1,h4,hs,k⟩:=h
    have hu:=jx hr
    refine⟨_,aq (aA (cJ (al GK hr rfl cK.mg cK.kp cK.b .nil aG (ad (pv 0) ae))
      (cJ (mj kq kq ak (ao aC rfl mLe PySem.boot_len (ad (pv 0) ae)) (iV (v:=.int 4) rfl hM ⟨tm,rfl⟩))
      (fX (b9 eX (pv 0) (ao eT rfl mSo boot_sorted (ad (pv 0) ae)) (aN _)))))),?_⟩
    refine⟨_,rfl,a,ks,rfl,ha,hk,by omega,fun H1 s1=>⟨true,rfl,?_⟩⟩
    refine ip ?_
    have ha1:=s1 a _ ha
    refine⟨_,rfl,a,_,rfl,.inl (SqL.of ha1),1,_,rfl,rfl,true,congrArg V.bl (decide_eq_true (by rw [List.length_map];omega)),?_⟩
    refine ip ?_
    refine⟨_,4,rfl,rfl,true,congrArg V.bl (decide_eq_true (by rw [List.length_map];omega)),?_⟩
    refine ip ?_
    refine⟨_,rfl,_,rfl,a,ks,rfl,SqL.of ha1,by omega,fun l ss hl hp hs'=>?_⟩
    have e:ss=ks:=de (bW hs') hs hp
    subst e
    have ne:a≠l:=ah ha1 hl
    refine⟨.list (ss.map PyData.str),.list (ss.map PyData.str),.lst (by rw [au ne];exact ha1) (SeesAll.strs ss),.lst af (SeesAll.strs ss),dd hk,dd hk,?_,?_⟩
    · show _+min (PyData.depthAll (ss.map PyData.str)+1) (PyData.depthAll (ss.map PyData.str)+1) < cLine
      rw [cQ]
      exact hu
    · have ee:PyData.eqv (.list (ss.map PyData.str)) (.list (ss.map PyData.str))=true:=je ss
      rw [ee]
      exact k _ fun b u e=>by rw [au (ah (s1 b u e) hl)];exact s1 b u e
end
abbrev Rm:=List Str×List Str
structure cO (r:Rm):Prop where
  lk:∀ k∈r.1,aJ k
  l1:1<=r.1.length
  l4:r.1.length<=4
  so:r.1.Pairwise leS
  kk:∀ k∈r.2,aJ k
  kl:r.2.length<=1000
def RoomAt (H:Hp)(v:V)(r:Rm):Prop:=∃ t a b:Addr,v=.ref t/\H t=some (.tup [.ref a,.ref b])/\H a=some (.lst (r.1.map V.str))/\H b=some (.lst (r.2.map V.str))
theorem RoomAt.same {H H':Hp}{v:V}{r:Rm}(s:Same H H')(h:RoomAt H v r):RoomAt H' v r:=by
  obtain⟨t,a,b,e,h1,h2,h3⟩:=h
  exact⟨t,a,b,e,s _ _ h1,s _ _ h2,s _ _ h3⟩
def kE:Sp:=fun vs H Q _=>∃ (v:V) (r:Rm),vs=[v]/\RoomAt H v r/\cO r/\∀ H',Same H H'->Q (.bl true) H'
section
variable {P:Program}{w:World}{K:PySem.W.Frag}{mg:Str->Option Value}{base:Heap}
theorem oo:aB ["thing"] ["thing"] (ag jF):=⟨rfl,rfl,rfl,by decide +kernel,rfl,by decide +kernel,by decide +kernel⟩
theorem mW {f fL fK:Addr}{fd fdL fdK:FuncData}(F:Fun K "is_room" "is_room" jF f fd)(GL:FnOk P w K mg base CX0 3 fL fdL ["thing"] iz)(cL:Cal K mg "are_locks" ["thing"] fL fdL)
    (GK:FnOk P w K mg base CX0 2 fK fdK ["thing"] eR)(cK:Cal K mg "are_kinds" ["thing"] fK fdK)(mI:mg "isinstance" = none)(mLe:mg "len" = none)(mTu:mg "tuple" = none):FnOk P w K mg base CX0 4 f fd ["thing"] kE:=by
  refine F.ok oo (fun vs H Q E h=>?_) (fun cdv A outer s H vs Q E hr h=>?_)
  · obtain⟨v,r,rfl,_⟩:=h
    rfl
  · obtain⟨v,r,rfl,⟨t,a,b,rfl,ht,ha,hb⟩,ok,k⟩:=h
    refine⟨_,aq (aA (cJ (ao ay rfl mI (by decide +kernel) (ad (pv 0) (ad (bp (v:=.ty "tuple") (u:=.type "tuple") rfl mTu (by decide +kernel) rfl) ae)))
      (cJ (b9 iy (ao aC rfl mLe PySem.boot_len (ad (pv 0) ae)) ak (aN _))
      (cJ (al GL hr rfl cL.mg cL.kp cL.b .nil aG (ad (bv b6 (pv 0) ak (fun _ _=>rfl)) ae))
      (fX (al GK (hr.mono (by decide)) rfl cK.mg cK.kp cK.b .nil aG (ad (bv b6 (pv 0) ak (fun _ _=>rfl)) ae))))))),?_⟩
    refine⟨_,rfl,_,_,_,true,rfl,.tup ht,bY K _,true,rfl,?_⟩
    refine ip ?_
    refine⟨_,rfl,t,_,rfl,.inr (SqT.of ht),rfl,true,rfl,?_⟩
    refine ip ?_
    refine⟨_,rfl,t,_,0,.ref a,rfl,rfl,SqT.of ht,rfl,a,r.1,rfl,ha,ok.lk,ok.l1,ok.l4,ok.so,fun H1 s1=>⟨true,rfl,?_⟩⟩
    refine ip ?_
    refine⟨_,rfl,t,_,1,.ref b,rfl,rfl,SqT.of (s1 _ _ ht),rfl,b,r.2,rfl,s1 _ _ hb,ok.kk,ok.kl,fun H2 s2=>?_⟩
    exact k H2 (s1.trans s2)
end
abbrev Hs:=List Str×List Rm
def RoomsAt (H:Hp)(vs:List V)(rs:List Rm):Prop:=vs.length=rs.length/\∀ (i:Nat) (v:V) (r:Rm),vs[i]? = some v->rs[i]? = some r->RoomAt H v r
theorem RoomsAt.same {H H':Hp}{vs:List V}{rs:List Rm}(s:Same H H')(h:RoomsAt H vs rs):RoomsAt H' vs rs:=⟨h.1,fun i v r a b=>(h.2 i v r a b).same s⟩
def HouseAt (H:Hp)(v:V)(h:Hs):Prop:=∃ (t a r:Addr) (vs:List V),v=.ref t/\H t=some (.tup [.ref a,.ref r])/\H a=some (.lst (h.1.map V.str))/\H r=some (.lst vs)/\RoomsAt H vs h.2
theorem HouseAt.same {H H':Hp}{v:V}{h:Hs}(s:Same H H')(x:HouseAt H v h):HouseAt H' v h:=by
  obtain⟨t,a,r,vs,e,h1,h2,h3,h4⟩:=x
  exact⟨t,a,r,vs,e,s _ _ h1,s _ _ h2,s _ _ h3,h4.same s⟩
structure bX (h:Hs):Prop where
  kk:∀ k∈h.1,aJ k
  kl:h.1.length<=1000
  rs:∀ r∈h.2,cO r
  rl:h.2.length<=1000
def gn:Sp:=fun vs H Q _=>∃ (v:V) (h:Hs),vs=[v]/\HouseAt H v h/\bX h/\∀ H',Same H H'->Q (.bl true) H'
def mR:Sp:=fun vs H Q _=>∃ (v:V) (h:Hs),vs=[v]/\HouseAt H v h/\bX h/\∀ H',Same H H'->Q .non H'
section
variable {P:Program}{w:World}{K:PySem.W.Frag}{mg:Str->Option Value}{base:Heap}
theorem scHouse:aB ["thing","keys","rooms"] ["thing"] (ag dm):=⟨rfl,rfl,rfl,by decide +kernel,rfl,by decide +kernel,by decide +kernel⟩
abbrev kK:Expr:=gw (jd (gl ((av dm).getD 2 (.Pass ⟨0,0,0,0⟩))))
theorem nz:eK (ag dm) (dD kK) ["thing","keys","rooms"] ["room"] 1 []=true:=by decide +kernel
theorem nd4:(["room"]:List Str).Nodup:=by decide +kernel
theorem ly {f fR fK:Addr}{fd fdR fdK:FuncData}(F:Fun K "is_house" "is_house" dm f fd)(GR:FnOk P w K mg base CX0 4 fR fdR ["thing"] kE)(cR:Cal K mg "is_room" ["thing"] fR fdR)
    (GK:FnOk P w K mg base CX0 2 fK fdK ["thing"] eR)(cK:Cal K mg "are_kinds" ["thing"] fK fdK)(mI:mg "isinstance" = none)(mLe:mg "len" = none)(mTu:mg "tuple" = none)(mLi:mg "list" = none)(mAl:mg "all" = none):FnOk P w K mg base CX0 5 f fd ["thing"] gn:=by
  refine F.ok scHouse (fun vs H Q E h=>?_) (fun cdv A outer s H vs Q E hr h=>?_)
  · obtain⟨v,r,rfl,_⟩:=h
    rfl
  · obtain⟨v,hs,rfl,⟨t,a,r,vs,rfl,ht,ha,hr',hR⟩,ok,k⟩:=h
    obtain⟨S,Cp⟩:=eG (X:=(ld CX0 P w K mg base ["thing","keys","rooms"] "is_house" (ag dm) f cdv A outer s H E).nox) (outer:=ag dm) (N:=["thing","keys","rooms"]) rfl rfl nz
    refine⟨_,aj (cc (PW.pt (fq (cC (cu (ao ay rfl mI (by decide +kernel) (ad (pv 0) (ad (bp (v:=.ty "tuple") (u:=.type "tuple") rfl mTu (by decide +kernel) rfl) ae)))))
          (dE (aT gr (ao aC rfl mLe PySem.boot_len (ad (pv 0) ae)) ak (aN _)))))
        (aq (aA gZ)) aX)
      (aj (gM (pv 0) (eB rfl (aM (ax (i:=1) scHouse.nd rfl (Or.inl rfl)) (aM (ax (i:=2) scHouse.nd rfl (Or.inl rfl)) cz))))
      (aq (aA (cJ (al GK (hr.mono (by decide)) rfl cK.mg cK.kp cK.b .nil aG (ad (pv 1) ae))
        (cJ (ao ay rfl mI (by decide +kernel) (ad (pv 2) (ad (bp (v:=.ty "list") (u:=.type "list") rfl mLi (by decide +kernel) rfl) ae)))
        (fX (ao (gC rfl) rfl mAl (by decide +kernel) (ad (dB (tg:=.Name "room" _) rfl S Cp (cy (pv 2))
          (fun C fp s₀ H₀=>ax (i:=0) nd4 rfl (Or.inl rfl) (.inr rfl)) (fun C fp s₀ H₀=>b5)
          (fun C fp s₀ H₀=>al GR hr rfl cR.mg cR.kp cR.b .nil aG (ad (pv 0) ae))) ae)))))))),?_⟩
    refine⟨_,rfl,_,_,_,true,rfl,.tup ht,bY K _,true,rfl,?_⟩
    refine dM ?_
    refine⟨_,rfl,t,_,rfl,.inr (SqT.of ht),rfl,false,rfl,?_⟩
    refine dM ?_
    refine⟨_,rfl,t,_,rfl,SqT.of ht,rfl,_,_,rfl,_,_,rfl,rfl,?_⟩
    refine⟨_,rfl,a,hs.1,rfl,ha,ok.kk,ok.kl,fun H1 s1=>⟨true,rfl,?_⟩⟩
    refine ip ?_
    refine⟨_,rfl,_,_,_,true,rfl,.lst (s1 _ _ hr'),bY K _,true,rfl,?_⟩
    refine ip ?_
    dsimp only [jA,lg,tCB,fm,lc]
    refine bo _ _ _ _ _ _ _ _ _ ?_
    refine⟨_,rfl,r,rfl,⟨_,SqL.of (s1 _ _ hr')⟩,?_⟩
    intro D hD
    have hl:vs.length<=1000:=by rw [hR.1];exact ok.rl
    refine b8 (xs:=vs) (fun i ys H2=>ys=(List.replicate i true).map V.bl/\i<=1000/\H2 D=some (.lst ys)/\Same H1 H2) ⟨rfl,by decide,af,fun b u e=>by rw [au (ah e hD)];exact e⟩ (fun i ys H2 ⟨_,_,h,_⟩=>h) (fun i ys H2 ⟨_,_,_,sm⟩=>SqL.of (sm r _ (s1 _ _ hr'))) ?_ ?_
    · rintro i ys H2 x hx ⟨rfl,hi0,hD2,sm⟩
      have hi:i < vs.length:=(List.getElem?_eq_some_iff.mp hx).1
      have hi':i < hs.2.length:=by rw [← hR.1];exact hi
      refine bU rfl ?_
      refine⟨_,rfl,x,hs.2[i],rfl,((hR.2 i x _ hx (List.getElem?_eq_getElem hi')).same s1).same sm,ok.rs _ (List.getElem_mem hi'),fun H3 sm3=>?_⟩
      refine⟨sm3 D _ hD2,by rw [List.length_map,List.length_replicate];exact bt (by omega),nx hi ⟨?_,by omega,af,fun b u e=>?_⟩⟩
      · rw [List.replicate_succ',List.map_append]
        rfl
      · rw [au (ah e hD)]
        exact sm3 b u (sm b u e)
    · rintro ys H2 ⟨rfl,_,hD2,sm⟩
      refine⟨D,List.replicate vs.length true,rfl,SqL.of hD2,?_⟩
      have e:(List.replicate vs.length true).all id=true:=by simp
      rw [e]
      exact k H2 (s1.trans sm)
theorem o6:aB ["thing"] ["thing"] (ag nC):=⟨rfl,rfl,rfl,by decide +kernel,rfl,by decide +kernel,by decide +kernel⟩
theorem nP {f fH:Addr}{fd fdH:FuncData}(F:Fun K "require_house" "require_house" nC f fd)(GH:FnOk P w K mg base CX0 5 fH fdH ["thing"] gn)(cH:Cal K mg "is_house" ["thing"] fH fdH):FnOk P w K mg base CX0 6 f fd ["thing"] mR:=by
  refine F.ok o6 (fun vs H Q E h=>?_) (fun cdv A outer s H vs Q E hr h=>?_)
  · obtain⟨v,r,rfl,_⟩:=h
    rfl
  · obtain⟨v,hs,rfl,hh,ok,k⟩:=h
    refine⟨_,aq (cc (cC (cu (al GH hr rfl cH.mg cH.kp cH.b .nil aG (ad (pv 0) ae)))) d9 aX),?_⟩
    refine⟨_,rfl,v,hs,rfl,hh,ok,fun H1 s1=>⟨true,rfl,?_⟩⟩
    refine dM ?_
    exact k H1 s1
end
theorem dA {A:Around}{H:Hp}{x y:Addr}{xs:List V}{ds:List PyData}{Q:VK}(hx:H x=some (.lst xs))(s:SeesAll H xs ds)(l:PyData.canLayAll0 ds=true)(hy:H y=some (.lst []))(hu:A.units+1 < cLine)(q:Q (.bl xs.isEmpty) H):oJ A false (.ref x) (.ref y) H Q:=by
  refine⟨.list ds,.list [],.lst hx s,.lst hy .nil,by simp only [PyData.canLay0,l],rfl,Nat.lt_of_le_of_lt (Nat.add_le_add_left (Nat.min_le_right _ _) _) hu,?_⟩
  have e:ds.isEmpty=xs.isEmpty:=by cases s<;>rfl
  rw [if_neg (by decide),show PyData.eqv (.list ds) (.list [])=ds.isEmpty by cases ds<;>rfl,e]
  exact q
theorem ai {H:Hp}{l:Addr}{o:HO}(n:H l=none):Same H (upd H l o):=fun b u e=>by rw [au (ah e n)];exact e
theorem aE {H H':Hp}{p:Addr}(s:Same H H'):But p H H':=fun b u _ e=>s b u e
theorem o9 {xs:List Int}{r:Int}(h0:0<=r)(h1:r < xs.length):∃ m∈xs,atI (xs.map V.int) r=some (.int m):=by
  obtain⟨j,rfl⟩:∃ j:Nat,r=(j:Int):=⟨r.toNat,by omega⟩
  have hj:j < xs.length:=by omega
  exact⟨xs[j],List.getElem_mem hj,bN (by rw [List.getElem?_map,List.getElem?_eq_getElem hj];rfl)⟩
def bC (r:Rm):PyData:=.tuple [.list (r.1.map PyData.str),.list (r.2.map PyData.str)]
theorem ga {H:Hp}:∀ {vs:List V} {rs:List Rm},RoomsAt H vs rs->SeesAll H vs (rs.map bC)
  | [],[],_=>.nil
  | [],_::_,h=>absurd h.1 (by simp)
  | _::_,[],h=>absurd h.1 (by simp)
  | v::vs,r::rs,h=>by
    obtain⟨t,a,b,rfl,h1,h2,h3⟩:=h.2 0 v r rfl rfl
    refine .cons (.tup h1 (.cons (.lst h2 (SeesAll.strs _)) (.cons (.lst h3 (SeesAll.strs _)) .nil))) (ga ⟨by simpa using h.1,fun i v' r' e1 e2=>h.2 (i+1) v' r' (by simpa using e1) (by simpa using e2)⟩)
theorem il:∀ {rs:List Rm},(∀ r∈rs,(∀ k∈r.1,aJ k)/\∀ k∈r.2,aJ k)->PyData.canLayAll0 (rs.map bC)=true
  | [],_=>rfl
  | r::rs,h=>by
    obtain⟨h1,h2⟩:=h r List.mem_cons_self
    have e1:=dd h1
    have e2:=dd h2
    have e3:=il fun q hq=>h q (List.mem_cons_of_mem _ hq)
    rw [List.map_cons]
    simp only [PyData.canLayAll0,PyData.canLay0,bC,e1,e2,e3,Bool.and_self]
structure nV (ns:List Int):Prop where
  few:ns.length<=1000
def DeckAt (H:Hp)(p:Addr):Prop:=∃ ns:List Int,H p=some (.lst (ns.map V.int))/\nV ns
def kZ (K:PySem.W.Frag):Sp:=fun vs H Q _=>∃ (a:Addr) (k:Nat) (ns:List Int),vs=[.ref a,.int k]/\SqL K H a (ns.map V.int)/\∀ c:Int,Q (.int c) H
def jo:Sp:=fun vs H Q _=>∃ (cell:Int) (n:Nat),vs=[.int cell,.int n]/\n<=1000/\∀ (l:Addr) (ns:List Int) (H':Hp),H l=none->Same H H'->H' l=some (.lst (ns.map V.int))->ns.length=n->Q (.ref l) H'
def jW:Sp:=fun vs H Q _=>∃ (cell:Int) (n:Nat),vs=[.int cell,.int n]/\n<=1000/\∀ (l:Addr) (H':Hp),H l=none->Same H H'->DeckAt H' l->Q (.ref l) H'
def dn:Sp:=fun vs H Q _=>∃ (p:Addr) (n:Int),vs=[.ref p,.int n]/\DeckAt H p/\0 < n/\∀ (r:Int) (H':Hp),0<=r->r < n->DeckAt H' p->But p H H'->Q (.int r) H'
inductive NmI (cell:Int)(n:Nat)(H:Hp)(i:Nat)(σ':L2.St)(H':Hp):Prop
  | mk (l:Addr) (ns:List Int) (rs st:Int) (x5 x6:Option V):σ'=[some (.int cell),some (.int n),some (.ref l),some (.int rs),some (.int st),x5,x6]->H l=none->H' l=some (.lst (ns.map V.int))->ns.length=i->0<=st->st < 2147483647->Same H H'->NmI cell n H i σ' H'
theorem hV (H:Hp):∀ ns:List Int,SeesAll H (ns.map V.int) (ns.map PyData.int)
  | []=>.nil
  | n::ns=>.cons (.int n) (hV H ns)
theorem jt:∀ ns:List Int,PyData.canLayAll0 (ns.map PyData.int)=true
  | []=>rfl
  | n::ns=>by rw [List.map_cons];simp only [PyData.canLayAll0,PyData.canLay0,jt ns,Bool.and_self]
section
variable {P:Program}{w:World}{K:PySem.W.Frag}{mg:Str->Option Value}{base:Heap}
theorem eP:aB ["script","k"] ["script","k"] (ag bf):=⟨rfl,rfl,rfl,by decide +kernel,rfl,by decide +kernel,by decide +kernel⟩
theorem sc__law_numbers:aB ["cell","many","found","rest","stir","k","again"] ["cell","many"] (ag be):=⟨rfl,rfl,rfl,by decide +kernel,rfl,by decide +kernel,by decide +kernel⟩
theorem g6:aB ["cell","many"] ["cell","many"] (ag bG):=⟨rfl,rfl,rfl,by decide +kernel,rfl,by decide +kernel,by decide +kernel⟩
theorem gK:aB ["deck","many"] ["deck","many"] (ag bF):=⟨rfl,rfl,rfl,by decide +kernel,rfl,by decide +kernel,by decide +kernel⟩
theorem mZ {f:Addr}{fd:FuncData}(F:Fun K "_law_cell_at" "_law_cell_at" bf f fd)(bL:mg "len" = none):FnOk P w K mg base CX0 1 f fd ["script","k"] (kZ K):=by
  refine F.ok eP (fun vs H Q E h=>?_) (fun cdv A outer s H vs Q E hr h=>?_)
  · obtain⟨a,k,ns,rfl,_⟩:=h
    rfl
  · obtain⟨a,k,ns,rfl,hS,q⟩:=h
    refine⟨_,(aj (cc (aT oQ (pv 1) (ao aC rfl bL PySem.boot_len (ad (pv 0) ae)) (aN _))
        (aq (aA (bv bO (pv 0) (pv 1) (fun _ _=>rfl)))) aX)
      (aq (aA ak))),?_⟩
    refine⟨_,rfl,_,rfl,a,_,rfl,.inl hS,_,_,rfl,rfl,_,rfl,?_⟩
    refine jR (fun hlt=>?_) (fun _=>q 0)
    have hlt':k < ns.length:=by
      have z:=of_decide_eq_true hlt
      rw [List.length_map] at z
      omega
    exact⟨_,rfl,_,rfl,a,_,_,.int ns[k],rfl,rfl,hS,bN (by rw [List.getElem?_map,List.getElem?_eq_getElem hlt'];rfl),q _⟩
theorem m6 {f:Addr}{fd:FuncData}(F:Fun K "_law_numbers" "_law_numbers" be f fd)(aD:mg "range" = none):FnOk P w K mg base CX0 1 f fd ["cell","many"] jo:=by
  refine F.ok sc__law_numbers (fun vs H Q E h=>?_) (fun cdv A outer s H vs Q E hr h=>?_)
  · obtain⟨cell,n,rfl,_⟩:=h
    rfl
  · obtain⟨cell,n,rfl,n1,q⟩:=h
    refine⟨_,(aj (aS (i:=2) sc__law_numbers.nd rfl (Or.inl rfl) iT)
      (aj (aS (i:=3) sc__law_numbers.nd rfl (Or.inl rfl) (pv 0))
      (aj (aS (i:=4) sc__law_numbers.nd rfl (Or.inl rfl) (aV cM (pv 0) ak))
      (aj (cq (fi PassesOwn.never rfl (bz rfl aD (ad (pv 1) ae)) (ax (i:=5) sc__law_numbers.nd rfl (Or.inl rfl))
        (aq (cq (cc (PW.pt (nU (aT oO (pv 0) (aV og ak ak) (aN _)) (mU (aT nw (pv 3) ak (aN _)))))
          (aj (dQ (dt PySem.F.plainAttrs_list PySem.F.slot_list_append PySem.F.type_list_append cn (pv 2) (ad (aV cM (pv 3) ak) ae)))
          (aq (aS (i:=3) sc__law_numbers.nd rfl (Or.inl rfl) (aV gb (pv 3) ak)))) (aj (aS (i:=4) sc__law_numbers.nd rfl (Or.inl rfl) (aV cM (aV gN (aV cE (aV cE (pv 4) (aV gN ak (pv 5))) ak) ak) ak))
          (aj (aS (i:=6) sc__law_numbers.nd rfl (Or.inl rfl) (aV cM (aV gN (aV cM (aV gN (pv 4) (pv 4)) ak) ak) ak))
          (aq (dQ (dt PySem.F.plainAttrs_list PySem.F.slot_list_append PySem.F.type_list_append cn (pv 2) (ad (aV cM (aV gb (pv 6) ak) ak) ae)))))))))))
      (aq (aA (pv 2))))))),?_⟩
    refine⟨Nat.zero_le _,fun l nl=>?_⟩
    have s1:Same H (upd H l (.lst [])):=ai nl
    have e1:(upd H l (.lst [])) l=some (.lst (([]:List Int).map V.int)):=af
    generalize upd H l (.lst [])=H1 at *
    refine⟨_,rfl,?_⟩
    refine⟨_,rfl,_,2147483647,rfl,rfl,(by show (0:Int) < 2147483647;decide),?_⟩
    refine⟨fun σ' H'=>NmI cell n H n σ' H',?_,?_⟩
    · rintro σ H2 ⟨l,ns,rs,st,x5,x6,rfl,nl,hl,len,st0,st1,sm⟩
      exact⟨_,rfl,q l ns H2 nl sm hl len⟩
    refine⟨_,rfl,(n:Int),rfl,by omega,by omega,?_⟩
    rw [Int.toNat_natCast]
    refine cN (fun i σ' H'=>NmI cell n H i σ' H') ⟨l,[],cell,cell % 2147483647,_,_,rfl,nl,e1,rfl,Int.emod_nonneg _ (by decide),Int.emod_lt_of_pos _ (by decide),s1⟩ ?_ (fun σ H' z=>z)
    rintro i σ H2 hi ⟨l,ns,rs,st,x5,x6,rfl,nl,hl,len,st0,st1,sm⟩
    have more:∀ (m:Int) (σ':L2.St) (rs' st':Int) (x6:Option V),σ'=[some (.int cell),some (.int n),some (.ref l),some (.int rs'),some (.int st'),some (.int (0+i)),x6]->0<=st'->st' < 2147483647->NmI cell n H (i+1) σ' (upd H2 l (.lst (ns.map V.int++[.int m]))):=fun m σ' rs' st' x6 e a b =>
      ⟨l,ns++[m],rs',st',_,x6,e,nl,by rw [af,List.map_append];rfl,by simp [len],a,b,fun b u e=>by rw [au (ah e nl)];exact sm b u e⟩
    have sz:(ns.map V.int).length < sizeLine:=by rw [List.length_map];exact bt (by omega)
    refine⟨fun σ' H'=>NmI cell n H (i+1) σ' H',fun σ' H' z=>z,?_⟩
    refine⟨_,rfl,10,18,rfl,rfl,⟨by decide,by decide,by decide⟩,_,_,rfl,rfl,_,rfl,?_⟩
    have b0:0<=(st+7 * (0+(i:Int))+3) * 48271 % 2147483647:=Int.emod_nonneg _ (by decide)
    have b1:(st+7 * (0+(i:Int))+3) * 48271 % 2147483647 < 2147483647:=Int.emod_lt_of_pos _ (by decide)
    refine jR (fun _=>?_) (fun _=>?_)
    · refine⟨_,rfl,rs,0,rfl,rfl,_,rfl,?_⟩
      refine jR (fun _=>?_) (fun _=>?_)
      · refine⟨_,rfl,.inl ⟨rfl,_,SqL.of hl⟩,_,rfl,rs,64,rfl,rfl,(by show (0:Int) < 64;decide),l,_,_,rfl,rfl,hl,sz,?_⟩
        refine⟨_,rfl,rs,64,rfl,rfl,⟨by decide,by decide⟩,?_⟩
        exact more _ _ _ _ _ rfl st0 st1
      · refine⟨_,rfl,_,rfl,7,_,rfl,rfl,.inl ⟨by decide,by decide⟩,_,_,rfl,rfl,_,_,rfl,rfl,_,_,rfl,rfl,.inl ⟨by omega,by omega⟩,_,2147483647,rfl,rfl,(by show (0:Int) < 2147483647;decide),?_⟩
        have c0:0<=((st+7 * (0+(i:Int))+3) * 48271 % 2147483647) * ((st+7 * (0+(i:Int))+3) * 48271 % 2147483647) % 2147483629:=Int.emod_nonneg _ (by decide)
        have c1:((st+7 * (0+(i:Int))+3) * 48271 % 2147483647) * ((st+7 * (0+(i:Int))+3) * 48271 % 2147483647) % 2147483629 < 2147483629:=Int.emod_lt_of_pos _ (by decide)
        refine⟨_,rfl,_,rfl,_,_,rfl,rfl,.inl ⟨by omega,by omega⟩,_,2147483629,rfl,rfl,(by show (0:Int) < 2147483629;decide),_,_,rfl,rfl,.inl ⟨by omega,by omega⟩,_,2147483587,rfl,rfl,(by show (0:Int) < 2147483587;decide),?_⟩
        refine⟨_,rfl,.inl ⟨rfl,_,SqL.of hl⟩,_,rfl,_,8,rfl,rfl,⟨by decide,by decide⟩,_,720720,rfl,rfl,(by show (0:Int) < 720720;decide),l,_,_,rfl,rfl,hl,sz,?_⟩
        exact more _ _ _ _ _ rfl b0 b1
    · refine⟨_,rfl,_,rfl,7,_,rfl,rfl,.inl ⟨by decide,by decide⟩,_,_,rfl,rfl,_,_,rfl,rfl,_,_,rfl,rfl,.inl ⟨by omega,by omega⟩,_,2147483647,rfl,rfl,(by show (0:Int) < 2147483647;decide),?_⟩
      have c0:0<=((st+7 * (0+(i:Int))+3) * 48271 % 2147483647) * ((st+7 * (0+(i:Int))+3) * 48271 % 2147483647) % 2147483629:=Int.emod_nonneg _ (by decide)
      have c1:((st+7 * (0+(i:Int))+3) * 48271 % 2147483647) * ((st+7 * (0+(i:Int))+3) * 48271 % 2147483647) % 2147483629 < 2147483629:=Int.emod_lt_of_pos _ (by decide)
      refine⟨_,rfl,_,rfl,_,_,rfl,rfl,.inl ⟨by omega,by omega⟩,_,2147483629,rfl,rfl,(by show (0:Int) < 2147483629;decide),_,_,rfl,rfl,.inl ⟨by omega,by omega⟩,_,2147483587,rfl,rfl,(by show (0:Int) < 2147483587;decide),?_⟩
      refine⟨_,rfl,.inl ⟨rfl,_,SqL.of hl⟩,_,rfl,_,8,rfl,rfl,⟨by decide,by decide⟩,_,720720,rfl,rfl,(by show (0:Int) < 720720;decide),l,_,_,rfl,rfl,hl,sz,?_⟩
      exact more _ _ _ _ _ rfl b0 b1
theorem ny {f fS:Addr}{fd fdS:FuncData}(F:Fun K "_law_deck" "_law_deck" bG f fd)(ck:FnOk P w K mg base CX0 1 fS fdS ["cell","many"] jo)(c__law_numbers:Cal K mg "_law_numbers" ["cell","many"] fS fdS):FnOk P w K mg base CX0 2 f fd ["cell","many"] jW:=by
  refine F.ok g6 (fun vs H Q E h=>?_) (fun cdv A outer s H vs Q E hr h=>?_)
  · obtain⟨cell,n,rfl,_⟩:=h
    rfl
  · obtain⟨cell,n,rfl,n1,q⟩:=h
    refine⟨_,(aq (aA (nh (al ck hr rfl c__law_numbers.mg c__law_numbers.kp c__law_numbers.b .nil aG (ad (pv 0) (ad (pv 1) ae))) (oe mB ak)))),?_⟩
    refine⟨_,rfl,_,rfl,cell,n,rfl,n1,fun l ns H1 nl s1 hl len=>?_⟩
    refine⟨1,rfl,rfl,l,_,rfl,SqL.of hl,fun l2 nl2=>?_⟩
    exact q l2 _ (s1.free nl2) (s1.trans (ai nl2)) ⟨ns.reverse,by rw [af,List.map_reverse],⟨by rw [List.length_reverse];omega⟩⟩
theorem mX {f:Addr}{fd:FuncData}(F:Fun K "_law_take" "_law_take" bF f fd):FnOk P w K mg base CX0 1 f fd ["deck","many"] dn:=by
  refine F.ok gK (fun vs H Q E h=>?_) (fun cdv A outer s H vs Q E hr h=>?_)
  · obtain⟨p,n,rfl,_⟩:=h
    rfl
  · obtain⟨p,n,rfl,⟨ns,hp,ok⟩,n0,q⟩:=h
    have hu:=jx hr
    refine⟨_,(aj (cc (aT eX (pv 0) iT (aN _))
        (aq (aA ak)) aX)
      (aq (aA (aV cM (nH PySem.F.plainAttrs_list PySem.F.slot_list_pop PySem.F.type_list_pop oA (pv 0)) (pv 1))))),?_⟩
    refine⟨_,rfl,Nat.zero_le _,fun l nl=>?_⟩
    have s1:Same H (upd H l (.lst [])):=ai nl
    have e1:(upd H l (.lst [])) l=some (.lst []):=af
    have hp1:=s1 _ _ hp
    refine dA hp1 (hV _ ns) (jt ns) e1 hu ⟨_,rfl,jR (fun h1=>?_) (fun h1=>?_)⟩
    · exact q 0 _ (by decide) n0 ⟨ns,hp1,ok⟩ (aE s1)
    · have hne:ns≠[]:=fun z=>h1 (by rw [z];rfl)
      have pos:=List.length_pos_iff.mpr hne
      have hi:ns.length - 1 < ns.length:=by omega
      refine⟨_,rfl,.inl ⟨rfl,_,SqL.of hp1⟩,p,_,.int (ns[ns.length - 1]'hi),rfl,rfl,hp1,by rw [List.length_map,List.getElem?_map,List.getElem?_eq_getElem hi];rfl,?_⟩
      refine⟨_,rfl,_,n,rfl,rfl,n0,?_⟩
      exact q _ _ (Int.emod_nonneg _ (by omega)) (Int.emod_lt_of_pos _ n0) ⟨ns.dropLast,by rw [af,List.map_dropLast],⟨by rw [List.length_dropLast];have:=ok.few;omega⟩⟩ ((aE s1).trans But.upd)
end
theorem DeckAt.same {H H':Hp}{p:Addr}(x:DeckAt H p)(s:Same H H'):DeckAt H' p:=let ⟨ns,e,o⟩:=x;⟨ns,s _ _ e,o⟩
theorem DeckAt.ne {H:Hp}{p b:Addr}(x:DeckAt H p)(n:H b=none):b≠p:=fun z=>by
  obtain⟨_,e,_⟩:=x
  rw [z,e] at n;cases n
theorem fB {nl:Nat}{ix:List Nat}{te:TE}{σ:L2.St}{H1:Hp}{D p:Addr}{Q:VK}{lo:Int}{n:Nat}{Pr:Nat->V->Prop}(nD:H1 D=none)(dk:DeckAt H1 p)(hl:n<=1000000)
    (hc:∀ x,((d6 nl ix σ).set 0 (some x)).drop nl=ix.map fun j=>(σ[j]?).join)
    (ht:∀ (H:Hp) (i:Nat) (R:VK),i < n->But p H1 H->DeckAt H p->(∀ y H',Pr i y->DeckAt H' p->But p H H'->R y H')->te ((d6 nl ix σ).set 0 (some (.int (lo+i)))) H R)
    (hd:∀ ys H,ys.length=n->(∀ i y,ys[i]? = some y->Pr i y)->H D=some (.lst ys)->But p H1 H->DeckAt H p->Q (.ref D) H):ik nl ix (cF 0) mE te σ (Itr lo n) H1 D Q:=by
  have lim:1000000 < sizeLine:=by decide
  have Dp:D≠p:=dk.ne nD
  have s0:Same H1 (upd H1 D (.lst [])):=fun b u e=>by rw [au (ah e nD)];exact e
  refine cm (fun i ys H=>ys.length=i/\(∀ j y,ys[j]? = some y->Pr j y)/\H D=some (.lst ys)/\But p H1 H/\DeckAt H p) ⟨rfl,fun j y e=>by simp at e,af,fun b u _ e=>s0 b u e,dk.same s0⟩ (fun i ys H ⟨_,_,h,_⟩=>h) ?_ ?_
  · rintro i ys H hi ⟨len,pr,hD,B,dk'⟩
    refine bU (hc _) (ht H i _ hi B dk' fun y H' py dk2 B2=>⟨B2 _ _ Dp hD,by omega,nx hi ⟨by simp [len],fun j z e=>?_,af,fun b u nb e=>?_,?_⟩⟩)
    · by_cases hj:j < ys.length
      · rw [List.getElem?_append_left hj] at e
        exact pr j z e
      · rw [List.getElem?_append_right (by omega)] at e
        have h0:j - ys.length=0:=by
          have:=(List.getElem?_eq_some_iff.mp e).1
          simp at this
          omega
        rw [h0] at e
        cases e
        rw [show j=i by omega]
        exact py
    · rw [au (ah e nD)]
      exact B2 b u nb (B b u nb e)
    · obtain⟨ns,e,o⟩:=dk2
      exact⟨ns,by rw [au (Ne.symm Dp)];exact e,o⟩
  · rintro ys H ⟨len,pr,hD,B,dk'⟩
    exact hd ys H len pr hD B dk'
theorem gz:lettersS.cps.toList=List.range' 97 26:=by decide +kernel
theorem jK (r:Nat)(h:r < 26):atI lettersS.cps.toList (r:Int)=some (97+r):=bN (by rw [gz,List.getElem?_range' h];simp)
theorem iS:lettersS.length<=sizeLine:=by decide
def m4 (l:List Nat):Prop:=1<=l.length/\l.length<=4/\∀ c∈l,97<=c/\c<=122
theorem mP {z:Str}(h:m4 z.cps.toList):aJ z:=by
  obtain⟨h1,h2,h3⟩:=h
  have e:z.cps.toList.length=z.length:=Array.length_toList
  exact⟨by omega,by omega,h3⟩
def me (z:Str):Bool:=decide (1<=z.length) && decide (z.length<=4) && z.cps.toList.all fun c=>decide (97<=c) && decide (c<=122)
theorem lS {z:Str}(h:me z=true):aJ z:=by
  unfold me at h
  rw [Bool.and_eq_true,Bool.and_eq_true,decide_eq_true_iff,decide_eq_true_iff,List.all_eq_true] at h
  refine⟨h.1.1,h.1.2,fun c hc=>?_⟩
  have:=h.2 c hc
  rw [Bool.and_eq_true,decide_eq_true_iff,decide_eq_true_iff] at this
  exact this
theorem gJ {l:List Str}(h:l.all me=true):∀ k∈l,aJ k:=fun k hk=>lS (List.all_eq_true.mp h k hk)
theorem pi {xs:List Str}{r:Int}(h0:0<=r)(h1:r < xs.length):∃ m∈xs,atI (xs.map V.str) r=some (.str m):=by
  obtain⟨j,rfl⟩:∃ j:Nat,r=(j:Int):=⟨r.toNat,by omega⟩
  have hj:j < xs.length:=by omega
  exact⟨xs[j],List.getElem_mem hj,bN (by rw [List.getElem?_map,List.getElem?_eq_getElem hj];rfl)⟩
def words13:List Str:=["keys","room","open","back","new","hand","next","gone","all","buy","nth","most","best"]
def words5:List Str:=["show","none","yes","few","shut"]
def words8:List Str:=["abcd","abce","abcz","zz","zy","zbcd","keya","keyb"]
def words8b:List Str:=["a","b","ab","c","zz","abcd","ba","k"]
def gx:Sp:=fun vs H Q _=>∃ (p:Addr) (n:Int),vs=[.ref p,.int n]/\DeckAt H p/\0 < n/\n<=8/\∀ (z:Str) (H':Hp),aJ z->DeckAt H' p->But p H H'->Q (.str z) H'
def iM:Sp:=fun vs H Q _=>∃ (p:Addr) (n m:Int),vs=[.ref p,.int n,.int m]/\DeckAt H p/\0 < n/\n<=8/\0 < m/\m<=20/\∀ (l:Addr) (ks:List Str) (H':Hp),H l=none->H' l=some (.lst (ks.map V.str))->ks.length<=20->(∀ k∈ks,aJ k)->DeckAt H' p->But p H H'->Q (.ref l) H'
inductive WdI (p:Addr)(n:Int)(x3:Option V)(H:Hp)(i:Nat)(σ':L2.St)(H':Hp):Prop
  | mk (z:Str) (x5:Option V):σ'=[some (.ref p),some (.int n),some (.int 7),x3,some (.str z),x5]->z.cps.toList.length=i->(∀ c∈z.cps.toList,97<=c/\c<=122)->DeckAt H' p->But p H H'->WdI p n x3 H i σ' H'
theorem cv:∀ {ys:List V},(∀ y∈ys,∃ z,y=V.str z/\aJ z)->∃ ss:List Str,ys=ss.map V.str/\∀ x∈ss,aJ x
  | [],_=>⟨[],rfl,fun _ h=>nomatch h⟩
  | y::ys,h=>by
    obtain⟨ss,rfl,k⟩:=cv fun z hz=>h z (List.mem_cons_of_mem _ hz)
    obtain⟨c,rfl,hc⟩:=h y List.mem_cons_self
    refine⟨c::ss,rfl,fun x hx=>?_⟩
    rcases List.mem_cons.mp hx with z | z
    · rw [z];exact hc
    · exact k x z
section
variable {P:Program}{w:World}{K:PySem.W.Frag}{mg:Str->Option Value}{base:Heap}
theorem sc__law_kind:aB ["deck","few","way","some","word","k"] ["deck","few"] (ag bJ):=⟨rfl,rfl,rfl,by decide +kernel,rfl,by decide +kernel,by decide +kernel⟩
theorem gF:aB ["deck","few","most"] ["deck","few","most"] (ag br):=⟨rfl,rfl,rfl,by decide +kernel,rfl,by decide +kernel,by decide +kernel⟩
theorem fo:(["k","deck","few"]:List Str).Nodup:=by decide +kernel
theorem lH {f fS:Addr}{fd fdS:FuncData}(F:Fun K "_law_kind" "_law_kind" bJ f fd)(aw:FnOk P w K mg base CX0 1 fS fdS ["deck","many"] dn)(c__law_take:Cal K mg "_law_take" ["deck","many"] fS fdS)(aD:mg "range" = none):FnOk P w K mg base CX0 2 f fd ["deck","few"] gx:=by
  refine F.ok sc__law_kind (fun vs H Q E h=>?_) (fun cdv A outer s H vs Q E hr h=>?_)
  · obtain⟨p,n,rfl,_⟩:=h
    rfl
  · obtain⟨p,n,rfl,dk,n0,n1,q⟩:=h
    refine⟨_,(aj (aS (i:=2) sc__law_kind.nd rfl (Or.inl rfl) (al aw hr rfl c__law_take.mg c__law_take.kp c__law_take.b .nil aG (ad (pv 0) (ad ak ae))))
      (aj (cq (cc (aT iy (pv 2) ak (aN _))
        (@aj _ _ _ _ _ (@aS _ _ 3 _ _ _ _ sc__law_kind.nd rfl (Or.inl rfl) (@bT _ _ _ _ (@aQ _ _ _ _ _ (@ar _ _ _ _) (@aQ _ _ _ _ _ (@ar _ _ _ _) (@aQ _ _ _ _ _ (@ar _ _ _ _) (@aQ _ _ _ _ _ (@ar _ _ _ _) (@aQ _ _ _ _ _ (@ar _ _ _ _) (@aQ _ _ _ _ _ (@ar _ _ _ _) (@aQ _ _ _ _ _ (@ar _ _ _ _) (@aQ _ _ _ _ _ (@ar _ _ _ _) (@aQ _ _ _ _ _ (@ar _ _ _ _) (@aQ _ _ _ _ _ (@ar _ _ _ _) (@aQ _ _ _ _ _ (@ar _ _ _ _) (@aQ _ _ _ _ _ (@ar _ _ _ _) (@aQ _ _ _ _ _ (@ar _ _ _ _) (@ae _) rfl) rfl) rfl) rfl) rfl) rfl) rfl) rfl) rfl) rfl) rfl) rfl) rfl)) rfl (by first | exact .inl rfl | exact .inr rfl))
        (aq (aA (bv bO (aV fI (pv 3) (@bT _ _ _ _ (@aQ _ _ _ _ _ (@ar _ _ _ _) (@aQ _ _ _ _ _ (@ar _ _ _ _) (@aQ _ _ _ _ _ (@ar _ _ _ _) (@aQ _ _ _ _ _ (@ar _ _ _ _) (@aQ _ _ _ _ _ (@ar _ _ _ _) (@ae _) rfl) rfl) rfl) rfl) rfl))) (al aw hr rfl c__law_take.mg c__law_take.kp c__law_take.b .nil aG (ad (pv 0) (ad ak ae))) (fun _ _=>rfl))))) aX))
      (aj (cc (aT iy (pv 2) ak (aN _))
        (aq (aA (@bv _ _ _ _ _ _ _ bO (@bT _ _ _ _ (@aQ _ _ _ _ _ (@ar _ _ _ _) (@aQ _ _ _ _ _ (@ar _ _ _ _) (@aQ _ _ _ _ _ (@ar _ _ _ _) (@aQ _ _ _ _ _ (@ar _ _ _ _) (@aQ _ _ _ _ _ (@ar _ _ _ _) (@aQ _ _ _ _ _ (@ar _ _ _ _) (@aQ _ _ _ _ _ (@ar _ _ _ _) (@aQ _ _ _ _ _ (@ar _ _ _ _) (@ae _) rfl) rfl) rfl) rfl) rfl) rfl) rfl) rfl)) (al aw hr rfl c__law_take.mg c__law_take.kp c__law_take.b .nil aG (ad (pv 0) (ad ak ae))) (fun _ _=>rfl)))) aX)
      (aj (cq (cc (aT iy (pv 2) ak (aN _))
        (aj (aS (i:=4) sc__law_kind.nd rfl (Or.inl rfl) ar)
        (aj (cq (fi PassesOwn.never rfl (bz rfl aD (ad (aV cE ak (al aw hr rfl c__law_take.mg c__law_take.kp c__law_take.b .nil aG (ad (pv 0) (ad ak ae)))) ae)) (ax (i:=5) sc__law_kind.nd rfl (Or.inl rfl))
          (aq (aS (i:=4) sc__law_kind.nd rfl (Or.inl rfl) (aV cp (pv 4) (bv nF ar (al aw hr rfl c__law_take.mg c__law_take.kp c__law_take.b .nil aG (ad (pv 0) (ad ak ae))) (fun _ _=>rfl)))))))
        (aq (aA (pv 4))))) aX))
      (aq (aA (@bv _ _ _ _ _ _ _ bO (@bT _ _ _ _ (@aQ _ _ _ _ _ (@ar _ _ _ _) (@aQ _ _ _ _ _ (@ar _ _ _ _) (@aQ _ _ _ _ _ (@ar _ _ _ _) (@aQ _ _ _ _ _ (@ar _ _ _ _) (@aQ _ _ _ _ _ (@ar _ _ _ _) (@aQ _ _ _ _ _ (@ar _ _ _ _) (@aQ _ _ _ _ _ (@ar _ _ _ _) (@aQ _ _ _ _ _ (@ar _ _ _ _) (@ae _) rfl) rfl) rfl) rfl) rfl) rfl) rfl) rfl)) (al aw hr rfl c__law_take.mg c__law_take.kp c__law_take.b .nil aG (ad (pv 0) (ad (pv 1) ae))) (fun _ _=>rfl)))))))),?_⟩
    have pick:∀ (ws:List Str) (l:Addr) (H1:Hp) (r:Int),H1 l=some (.lst (ws.map V.str))->0<=r->r < ws.length->(ws.all me=true)->∃ m,aJ m/\atI (ws.map V.str) r=some (.str m):=fun ws l H1 r _ a b c=>by
      obtain⟨m,hm,e⟩:=pi a b
      exact⟨m,gJ c m hm,e⟩
    refine⟨_,rfl,p,16,rfl,dk,by decide,fun way H1 w0 w1 dk1 B1=>?_⟩
    have last:∀ (H1:Hp) (l:Addr),DeckAt H1 p->But p H H1->True:=fun _ _ _ _=>trivial
    refine⟨fun σ' H'=>∃ x3,σ'=[some (.ref p),some (.int n),some (.int way),x3,none,none]/\H'=H1,?_,?_⟩
    · rintro σ' H' ⟨x3,rfl,rfl⟩
      refine⟨_,rfl,rfl,_,rfl,jR (fun _=>?_) (fun _=>?_)⟩
      · refine⟨by show 8<=sizeLine;decide,fun l nl=>?_⟩
        have s2:=ai (o:=.lst (words8.map V.str)) nl
        have e2:(upd H' l (.lst (words8.map V.str))) l=some (.lst (words8.map V.str)):=af
        refine⟨_,rfl,p,8,rfl,dk1.same s2,by decide,fun r H3 r0 r1 dk3 B3=>?_⟩
        obtain⟨m,mk,em⟩:=pick words8 l H3 r (B3 _ _ (dk1.ne nl) e2) r0 r1 (by decide +kernel)
        exact⟨l,_,_,.str m,rfl,rfl,SqL.of (B3 _ _ (dk1.ne nl) e2),em,q m _ mk dk3 (B1.trans ((aE s2).trans B3))⟩
      refine⟨fun σ' H''=>∃ x4 x5,σ'=[some (.ref p),some (.int n),some (.int way),x3,x4,x5]/\H''=H',?_,?_⟩
      · rintro σ' H'' ⟨x4,x5,rfl,rfl⟩
        refine⟨by show 8<=sizeLine;decide,fun l nl=>?_⟩
        have s2:=ai (o:=.lst (words8b.map V.str)) nl
        have e2:(upd H'' l (.lst (words8b.map V.str))) l=some (.lst (words8b.map V.str)):=af
        refine⟨_,rfl,_,rfl,p,n,rfl,dk1.same s2,n0,fun r H3 r0 r1 dk3 B3=>?_⟩
        obtain⟨m,mk,em⟩:=pick words8b l H3 r (B3 _ _ (dk1.ne nl) e2) r0 (by show r < 8;omega) (by decide +kernel)
        exact⟨l,_,_,.str m,rfl,rfl,SqL.of (B3 _ _ (dk1.ne nl) e2),em,q m _ mk dk3 (B1.trans ((aE s2).trans B3))⟩
      refine⟨_,rfl,rfl,_,rfl,jR (fun h7=>?_) (fun _=>⟨_,_,rfl,rfl⟩)⟩
      have e7:way=7:=by
        have:=of_decide_eq_true h7
        injection this
      subst e7
      refine⟨fun σ' H''=>∃ i,1<=i/\i<=4/\WdI p n x3 H i σ' H'',?_,?_⟩
      · rintro σ' H'' ⟨i,i1,i4,z,x5,rfl,len,cs,dk',B'⟩
        exact⟨_,rfl,q z _ (mP ⟨by omega,by omega,cs⟩) dk' B'⟩
      refine⟨_,rfl,p,4,rfl,dk1,by decide,fun r H3 r0 r1 dk3 B3=>⟨1,r,rfl,rfl,1+r,rfl,by omega,by omega,?_⟩⟩
      obtain⟨m,em⟩:∃ m:Nat,1+r=(m:Int):=⟨(1+r).toNat,by omega⟩
      rw [em,Int.toNat_natCast]
      refine cN (fun i σ' H'=>WdI p n x3 H i σ' H') ⟨_,_,rfl,by decide,fun c hc=>by simp [show (Str.ofString "").cps.toList=[] by decide] at hc,dk3,B1.trans B3⟩ ?_ (fun σ H' z=>⟨m,by omega,by omega,z⟩)
      rintro i σ H4 hi ⟨z,x5,rfl,len,cs,dk4,B4⟩
      refine⟨_,rfl,_,rfl,p,26,rfl,dk4,by decide,fun r H5 r0 r1 dk5 B5=>?_⟩
      obtain⟨k,rfl⟩:∃ k:Nat,r=(k:Int):=⟨r.toNat,by omega⟩
      have el:z.cps.toList.length=z.length:=Array.length_toList
      refine⟨lettersS,_,97+k,rfl,rfl,iS,jK k (by omega),z,_,rfl,rfl,Nat.le_of_lt (bt (by show z.length+1<=1000;omega)),?_⟩
      refine⟨_,_,rfl,by rw [aI,List.length_append,len];rfl,fun c hc=>?_,dk5,B4.trans B5⟩
      rw [aI] at hc
      rcases List.mem_append.mp hc with y | y
      · exact cs c y
      · have:c=97+k:=by simpa using y
        omega
    refine⟨_,rfl,rfl,_,rfl,jR (fun _=>?_) (fun _=>⟨_,rfl,rfl⟩)⟩
    refine⟨by show 13<=sizeLine;decide,fun l nl=>?_⟩
    have s2:=ai (o:=.lst (words13.map V.str)) nl
    have e2:(upd H1 l (.lst (words13.map V.str))) l=some (.lst (words13.map V.str)):=af
    refine⟨_,rfl,by show 5<=sizeLine;decide,fun l5 nl5=>?_⟩
    have s3:Same (upd H1 l (.lst (words13.map V.str))) (upd (upd H1 l (.lst (words13.map V.str))) l5 (.lst (words5.map V.str))):=ai nl5
    refine⟨l,l5,_,_,rfl,rfl,s3 _ _ e2,af,by show 18<=sizeLine;decide,fun l6 nl6=>?_⟩
    have s4:=ai (o:=.lst ((words13++words5).map V.str)) nl6
    have dk4:=((dk1.same s2).same s3).same s4
    have n6:=((dk1.same s2).same s3).ne nl6
    refine⟨_,rfl,p,18,rfl,dk4,by decide,fun r H3 r0 r1 dk3 B3=>?_⟩
    obtain⟨m,mk,em⟩:=pick (words13++words5) l6 H3 r (B3 _ _ n6 af) r0 r1 (by decide +kernel)
    exact⟨l6,_,_,.str m,rfl,rfl,SqL.of (B3 _ _ n6 af),em,q m _ mk dk3 (B1.trans ((aE (s2.trans (s3.trans s4))).trans B3))⟩
theorem mf {f fS fK:Addr}{fd fdS fdK:FuncData}(F:Fun K "_law_keys" "_law_keys" br f fd)(aw:FnOk P w K mg base CX0 1 fS fdS ["deck","many"] dn)(c__law_take:Cal K mg "_law_take" ["deck","many"] fS fdS)(dy:FnOk P w K mg base CX0 2 fK fdK ["deck","few"] gx)(c__law_kind:Cal K mg "_law_kind" ["deck","few"] fK fdK)(aD:mg "range" = none):FnOk P w K mg base CX0 3 f fd ["deck","few","most"] iM:=by
  refine F.ok gF (fun vs H Q E h=>?_) (fun cdv A outer s H vs Q E hr h=>?_)
  · obtain⟨p,n,m,rfl,_⟩:=h
    rfl
  · obtain⟨p,n,m,rfl,dk,n0,n1,m0,m1,q⟩:=h
    refine⟨_,(aq (aA (gg (tg:=.Name "k" _) (outer:=ag (br)) (N:=["deck","few","most"]) (N':=["k","deck","few"]) (nl:=1) (ix:=[0,1]) rfl rfl rfl (bz rfl aD (ad (al aw (hr.mono (show 1<=2 by decide)) rfl c__law_take.mg c__law_take.kp c__law_take.b .nil aG (ad (pv 0) (ad (pv 2) ae))) ae))
        (fun C fp s₀ H₀=>(ax (i:=0) fo rfl (Or.inl rfl) (.inr rfl))) (fun C fp s₀ H₀=>b5)
        (fun C fp s₀ H₀=>(al dy hr rfl c__law_kind.mg c__law_kind.kp c__law_kind.b .nil aG (ad (pv 1) (ad (pv 2) ae))))))),?_⟩
    dsimp only [lg]
    refine bo _ _ _ _ _ _ _ _ _ ?_
    refine⟨_,rfl,_,rfl,p,m,rfl,dk,m0,fun r H1 r0 r1 dk1 B1=>⟨r,rfl,by omega,by omega,?_⟩⟩
    intro D nD
    obtain⟨k,rfl⟩:∃ k:Nat,r=(k:Int):=⟨r.toNat,by omega⟩
    rw [Int.toNat_natCast]
    refine fB (Pr:=fun _ y=>∃ z,y=V.str z/\aJ z) nD dk1 (by omega) (fun x=>rfl) (fun G i R hi BG dG kG=>?_) (fun ys H3 len pr hD3 B3 dk3=>?_)
    · exact⟨_,rfl,_,rfl,p,n,rfl,dG,n0,n1,fun z G' kz dG' BG'=>kG _ _ ⟨z,rfl,kz⟩ dG' BG'⟩
    obtain⟨ss,rfl,hss⟩:=cv fun y hy=>by
      obtain⟨i,e⟩:=List.mem_iff_getElem?.mp hy
      exact pr i y e
    rw [List.length_map] at len
    exact q D ss H3 (B1.free (dk1.ne nD) nD) hD3 (by omega) hss dk3 (B1.trans B3)
end
def hid (S:List Addr)(H:Hp):Hp:=fun b=>if b∈S then none else H b
theorem aZ {S:List Addr}{H:Hp}{b:Addr}{u:HO}(n:b ∉ S)(e:H b=some u):hid S H b=some u:=by unfold hid;rw [if_neg n];exact e
theorem cB {S:List Addr}{H:Hp}{b:Addr}{u:HO}(e:hid S H b=some u):b ∉ S/\H b=some u:=by
  unfold hid at e
  by_cases h:b∈S
  · rw [if_pos h] at e;cases e
  · rw [if_neg h] at e;exact⟨h,e⟩
theorem hid_same {S:List Addr}{H:Hp}:Same (hid S H) H:=fun b u e=>(cB e).2
theorem jg {S:List Addr}{H H':Hp}(k:∀ b u,b ∉ S->H b=some u->H' b=some u):Same (hid S H) (hid S H'):=fun b u e=>aZ (cB e).1 (k b u (cB e).1 (cB e).2)
theorem dR {p:Addr}{S:List Addr}{H H':Hp}(B:But p H H'):Same (hid (p::S) H) (hid (p::S) H'):=jg fun b u n e=>B b u (fun z=>n (by rw [z];exact List.mem_cons_self)) e
theorem ji {a:Addr}{o:HO}{S:List Addr}{H:Hp}(h:a∈S):Same (hid S H) (hid S (upd H a o)):=jg fun b u n e=>by rw [au (show b≠a from fun z=>n (by rw [z];exact h))];exact e
theorem lw {S T:List Addr}{H:Hp}(h:∀ b∈T,b∈S):Same (hid S H) (hid T H):=fun b u e=>aZ (fun z=>(cB e).1 (h b z)) (cB e).2
theorem RoomsAt.nil {H:Hp}:RoomsAt H [] []:=⟨rfl,fun i v r e=>by simp at e⟩
theorem RoomsAt.snoc {H:Hp}{vs:List V}{rs:List Rm}{v:V}{r:Rm}(x:RoomsAt H vs rs)(y:RoomAt H v r):RoomsAt H (vs++[v]) (rs++[r]):=by
  refine⟨by rw [List.length_append,List.length_append,x.1];rfl,fun i v' r' e1 e2=>?_⟩
  by_cases h:i < vs.length
  · rw [List.getElem?_append_left h] at e1
    rw [List.getElem?_append_left (by rw [← x.1];exact h)] at e2
    exact x.2 i v' r' e1 e2
  · have hl:i < (vs++[v]).length:=(List.getElem?_eq_some_iff.mp e1).1
    rw [List.length_append,List.length_singleton] at hl
    have ei:i=vs.length:=by omega
    subst ei
    rw [List.getElem?_append_right (Nat.le_refl _),Nat.sub_self] at e1
    rw [x.1,List.getElem?_append_right (Nat.le_refl _),Nat.sub_self] at e2
    cases e1
    cases e2
    exact y
theorem DeckAt.up {H:Hp}{p b:Addr}{o:HO}(x:DeckAt H p)(n:b≠p):DeckAt (upd H b o) p:=let ⟨ns,e,k⟩:=x;⟨ns,by rw [au n.symm];exact e,k⟩
structure HouseF (most:Nat)(h:Hs):Prop where
  ok:bX h
  rl:h.2.length<=most
  kl:h.1.length<=20
  wl:∀ r∈h.2,r.2.length<=20
def gd:Sp:=fun vs H Q _=>∃ (p:Addr) (most:Nat),vs=[.ref p,.int most,.int 4]/\DeckAt H p/\most<=60/\∀ (v:V) (h:Hs) (H':Hp),HouseAt (hid [p] H') v h->HouseF most h->DeckAt H' p->But p H H'->Q v H'
inductive HsI (p rA:Addr)(most:Nat)(few:Int)(H:Hp)(i:Nat)(σ':L2.St)(H':Hp):Prop
  | mk (vs:List V) (rs:List Rm) (x5 x6:Option V):σ'=[some (.ref p),some (.int most),some (.int 4),some (.int few),some (.ref rA),x5,x6]->H' rA=some (.lst vs)->RoomsAt (hid [p,rA] H') vs rs->(∀ r∈rs,cO r/\r.2.length<=20)->rs.length=i->DeckAt H' p->But p H H'->HsI p rA most few H i σ' H'
def kB:Sp:=fun vs H Q _=>∃ (v:V) (h:Hs),vs=[v]/\HouseAt H v h/\bX h/\∀ (u:V) (H':Hp),Same H H'->HouseAt H' u h->Q u H'
def lP (e:Expr):Expr:=match e with
  | .Tuple es _ _=>es.getLastD e
  | e=>e
def RoomOff (D:Addr)(H:Hp)(v:V)(r:Rm):Prop:=∃ t a b:Addr,v=.ref t/\H t=some (.tup [.ref a,.ref b])/\H a=some (.lst (r.1.map V.str))/\H b=some (.lst (r.2.map V.str))/\t≠D/\a≠D/\b≠D
theorem RoomOff.at {D:Addr}{H:Hp}{v:V}{r:Rm}(h:RoomOff D H v r):RoomAt H v r:=let ⟨t,a,b,e,h1,h2,h3,_⟩:=h;⟨t,a,b,e,h1,h2,h3⟩
theorem RoomOff.on {D:Addr}{H H':Hp}{v:V}{r:Rm}(h:RoomOff D H v r)(s:∀ b u,b≠D->H b=some u->H' b=some u):RoomOff D H' v r:=by
  obtain⟨t,a,b,e,h1,h2,h3,n1,n2,n3⟩:=h
  exact⟨t,a,b,e,s _ _ n1 h1,s _ _ n2 h2,s _ _ n3 h3,n1,n2,n3⟩
section
variable {P:Program}{w:World}{K:PySem.W.Frag}{mg:Str->Option Value}{base:Heap}
theorem nL:aB ["house"] ["house"] (ag fu):=⟨rfl,rfl,rfl,by decide +kernel,rfl,by decide +kernel,by decide +kernel⟩
abbrev lB:Expr:=lP (gl ((av fu).getD 0 (.Pass ⟨0,0,0,0⟩)))
theorem nN:eK (ag fu) (dD lB) ["house"] ["locks","keys"] 2 []=true:=by decide +kernel
theorem nd5:(["locks","keys"]:List Str).Nodup:=by decide +kernel
theorem mK {f:Addr}{fd:FuncData}(F:Fun K "_law_copy" "_law_copy" fu f fd)(mLi:mg "list" = none):FnOk P w K mg base CX0 1 f fd ["house"] kB:=by
  refine F.ok nL (fun vs H Q E h=>?_) (fun cdv A outer s H vs Q E hr h=>?_)
  · obtain⟨v,r,rfl,_⟩:=h
    rfl
  · obtain⟨v,hs,rfl,⟨t,a,r,vs,rfl,ht,ha,hr',hR⟩,ok,k⟩:=h
    obtain⟨S,Cp⟩:=eG (X:=(ld CX0 P w K mg base ["house"] "_law_copy" (ag fu) f cdv A outer s H E).nox) (outer:=ag fu) (N:=["house"]) rfl rfl nN
    refine⟨_,aq (aA (cD (ad (bR dW rfl mLi (by decide +kernel) (ad (bv b6 (pv 0) ak (fun _ _=>rfl)) ae))
      (ad (dB rfl S Cp (cy (bv b6 (pv 0) ak (fun _ _=>rfl)))
        (fun C fp s₀ H₀=>jZ (K:=K) (n:=2) rfl rfl (aM (ax (i:=0) nd5 rfl (Or.inl rfl) (.inr rfl)) (aM (ax (i:=1) nd5 rfl (Or.inl rfl) (.inr rfl)) cz))) (fun C fp s₀ H₀=>b5)
        (fun C fp s₀ H₀=>cD (ad (bR (cT (K:=K) rfl) rfl mLi (by decide +kernel) (ad (pv 0) ae)) (ad (bR (cT (K:=K) rfl) rfl mLi (by decide +kernel) (ad (pv 1) ae)) ae)))) ae)))),?_⟩
    refine⟨_,rfl,t,_,0,.ref a,rfl,rfl,SqT.of ht,rfl,a,_,rfl,.inl (SqL.of ha),fun a1 ha1=>?_⟩
    have sm0:Same H (upd H a1 (.lst (hs.1.map V.str))):=fun b u e=>by rw [au (ah e ha1)];exact e
    dsimp only [fm,lc]
    refine bo _ _ _ _ _ _ _ _ _ ?_
    refine⟨_,rfl,t,_,1,.ref r,rfl,rfl,SqT.of (sm0 _ _ ht),rfl,r,rfl,⟨_,SqL.of (sm0 _ _ hr')⟩,?_⟩
    intro D hD
    have hl:vs.length<=1000:=by rw [hR.1];exact ok.rl
    have naD:a1≠D:=ah (show (upd H a1 (.lst (hs.1.map V.str))) a1=some _ from af) hD
    refine b8 (xs:=vs) (fun i ys H2=>i<=1000/\ys.length=i/\(∀ (j:Nat) (v:V) (rm:Rm),ys[j]? = some v->hs.2[j]? = some rm->RoomOff D H2 v rm)/\H2 D=some (.lst ys)/\Same (upd H a1 (.lst (hs.1.map V.str))) H2)
      ⟨by decide,rfl,(fun j v rm e=>by simp at e),af,fun b u e=>by rw [au (ah e hD)];exact e⟩ (fun i ys H2 ⟨_,_,_,h,_⟩=>h) (fun i ys H2 ⟨_,_,_,_,sm⟩=>SqL.of (sm r _ (sm0 _ _ hr'))) ?_ ?_
    · rintro i ys H2 x hx ⟨hi0,hyl,hrm,hD2,sm⟩
      have hi:i < vs.length:=(List.getElem?_eq_some_iff.mp hx).1
      have hi':i < hs.2.length:=by rw [← hR.1];exact hi
      obtain⟨tt,aa,bb,rfl,g1,g2,g3⟩:=((hR.2 i x _ hx (List.getElem?_eq_getElem hi')).same sm0).same sm
      refine jl tt (.ref aa) (.ref bb) rfl (SqT.of g1) rfl ?_
      refine⟨_,rfl,aa,_,rfl,.inl (SqL.of g2),fun l1 n1=>?_⟩
      have m1:Same H2 (upd H2 l1 (.lst ((hs.2[i]).1.map V.str))):=fun b u e=>by rw [au (ah e n1)];exact e
      refine⟨_,rfl,bb,_,rfl,.inl (SqL.of (m1 _ _ g3)),fun l2 n2=>?_⟩
      have m2:Same (upd H2 l1 (.lst ((hs.2[i]).1.map V.str))) (upd (upd H2 l1 (.lst ((hs.2[i]).1.map V.str))) l2 (.lst ((hs.2[i]).2.map V.str))):=fun b u e=>by rw [au (ah e n2)];exact e
      refine⟨by show 2<=sizeLine;decide,fun tn n3=>?_⟩
      generalize hH3:upd (upd H2 l1 (.lst ((hs.2[i]).1.map V.str))) l2 (.lst ((hs.2[i]).2.map V.str))=H3 at *
      have e1:H3 l1=some (.lst ((hs.2[i]).1.map V.str)):=m2 _ _ af
      have e2:H3 l2=some (.lst ((hs.2[i]).2.map V.str)):=by rw [← hH3];exact af
      have m3:Same H3 (upd H3 tn (.tup [.ref l1,.ref l2])):=fun b u e=>by rw [au (ah e n3)];exact e
      have m03:Same H2 (upd H3 tn (.tup [.ref l1,.ref l2])):=(m1.trans m2).trans m3
      have d1:D≠l1:=ah hD2 n1
      have d2:D≠l2:=ah (m1 _ _ hD2) n2
      have d3:D≠tn:=ah ((m1.trans m2) _ _ hD2) n3
      have rmNew:RoomOff D (upd H3 tn (.tup [.ref l1,.ref l2])) (.ref tn) hs.2[i]:=⟨tn,l1,l2,rfl,af,m3 _ _ e1,m3 _ _ e2,d3.symm,d1.symm,d2.symm⟩
      have hDn:=m03 D _ hD2
      have mD:∀ o,(∀ b u,b≠D->(upd H3 tn (.tup [.ref l1,.ref l2])) b=some u->(upd (upd H3 tn (.tup [.ref l1,.ref l2])) D o) b=some u):=fun o b u nb e=>by rw [au nb];exact e
      refine⟨hDn,by rw [hyl];exact bt (by omega),nx hi ⟨by omega,by rw [List.length_append,hyl];rfl,fun j v rm q1 q2=>?_,af,fun b u e=>?_⟩⟩
      · by_cases hj:j < i
        · rw [List.getElem?_append_left (by omega)] at q1
          exact ((hrm j v rm q1 q2).on fun b u _ e=>m03 b u e).on (mD _)
        · have hjl:j < (ys++[V.ref tn]).length:=(List.getElem?_eq_some_iff.mp q1).1
          rw [List.length_append,List.length_singleton] at hjl
          have ej:j=i:=by omega
          subst ej
          rw [List.getElem?_append_right (by omega),hyl,Nat.sub_self] at q1
          cases q1
          rw [List.getElem?_eq_getElem hi'] at q2
          cases q2
          exact rmNew.on (mD _)
      · rw [au (ah e hD)]
        exact m03 b u (sm b u e)
    · rintro ys H2 ⟨_,hyl,hrm,hD2,sm⟩
      refine⟨by show 2<=sizeLine;decide,fun tn n3=>?_⟩
      have m3:Same H2 (upd H2 tn (.tup [.ref a1,.ref D])):=fun b u e=>by rw [au (ah e n3)];exact e
      refine k (.ref tn) _ ((sm0.trans sm).trans m3) ⟨tn,a1,D,ys,rfl,af,m3 _ _ (sm _ _ af),m3 _ _ hD2,⟨by rw [hyl,hR.1],fun j v rm e1 e2=>(hrm j v rm e1 e2).at.same m3⟩⟩
end
theorem jv {K:PySem.W.Frag}{nl:Nat}{ix:List Nat}{te:TE}{σ:L2.St}{H1:Hp}{D r:Addr}{Q:VK}{vs:List V}{rs:List Rm}{g:Rm->Rm}(hr:H1 r=some (.lst vs))(hR:RoomsAt H1 vs rs)(nD:H1 D=none)(hl:rs.length<=1000)
    (hc:∀ x y,(((d6 nl ix σ).set 0 (some x)).set 1 (some y)).drop nl=ix.map fun j=>(σ[j]?).join)
    (ht:∀ (H:Hp) (q:Rm) (aa bb:Addr) (R:VK),q∈rs->H1 aa=some (.lst (q.1.map V.str))->H1 bb=some (.lst (q.2.map V.str))->Same H1 H->(∀ (tn l1 l2:Addr) (H':Hp),Same H H'->H tn=none->(H l1=none\/l1=aa)->(H l2=none\/l2=bb)->H' tn=some (.tup [.ref l1,.ref l2])->H' l1=some (.lst ((g q).1.map V.str))->H' l2=some (.lst ((g q).2.map V.str))->R (.ref tn) H')->te (((d6 nl ix σ).set 0 (some (.ref aa))).set 1 (some (.ref bb))) H R)
    (hd:∀ ys H,Same H1 H->H D=some (.lst ys)->RoomsAt H ys (rs.map g)->Q (.ref D) H):ik nl ix (nQ K 2 (jD (cF 0) (jD (cF 1) oI))) mE te σ (Itl K r) H1 D Q:=by
  have hl1:=hR.1
  refine b8 (xs:=vs) (fun i ys H2=>i<=1000/\ys.length=i/\(∀ (j:Nat) (v:V) (rm:Rm),ys[j]? = some v->rs[j]? = some rm->RoomOff D H2 v (g rm))/\H2 D=some (.lst ys)/\Same H1 H2)
    ⟨by decide,rfl,(fun j v rm e=>by simp at e),af,ai nD⟩ (fun i ys H2 ⟨_,_,_,h,_⟩=>h) (fun i ys H2 ⟨_,_,_,_,sm⟩=>SqL.of (sm r _ hr)) ?_ ?_
  · rintro i ys H2 x hx ⟨hi0,hyl,hrm,hD2,sm⟩
    have hi:i < vs.length:=(List.getElem?_eq_some_iff.mp hx).1
    have hi':i < rs.length:=by omega
    have er:rs[i]? = some rs[i]:=List.getElem?_eq_getElem hi'
    obtain⟨tt,aa,bb,rfl,g1,g2,g3⟩:=hR.2 i x _ hx er
    refine jl tt (.ref aa) (.ref bb) rfl (SqT.of (sm _ _ g1)) (hc _ _) ?_
    refine ht H2 rs[i] aa bb _ (List.getElem_mem hi') g2 g3 sm fun tn l1 l2 H3 m03 n3 n1 n2 e0 e1 e2=>?_
    have d1:D≠l1:=by
      rcases n1 with n1 | n1
      · exact ah hD2 n1
      · rw [n1];exact (ah g2 nD).symm
    have d2:D≠l2:=by
      rcases n2 with n2 | n2
      · exact ah hD2 n2
      · rw [n2];exact (ah g3 nD).symm
    have d3:D≠tn:=ah hD2 n3
    have rmNew:RoomOff D H3 (.ref tn) (g rs[i]):=⟨tn,l1,l2,rfl,e0,e1,e2,d3.symm,d1.symm,d2.symm⟩
    have hDn:=m03 D _ hD2
    have mD:∀ o,(∀ b u,b≠D->H3 b=some u->(upd H3 D o) b=some u):=fun o b u nb e=>by rw [au nb];exact e
    refine⟨hDn,by rw [hyl];exact bt (by omega),nx hi ⟨by omega,by rw [List.length_append,hyl];rfl,fun j v rm q1 q2=>?_,af,fun b u e=>?_⟩⟩
    · by_cases hj:j < i
      · rw [List.getElem?_append_left (by omega)] at q1
        exact ((hrm j v rm q1 q2).on fun b u _ e=>m03 b u e).on (mD _)
      · have hjl:j < (ys++[V.ref tn]).length:=(List.getElem?_eq_some_iff.mp q1).1
        rw [List.length_append,List.length_singleton] at hjl
        have ej:j=i:=by omega
        subst ej
        rw [List.getElem?_append_right (by omega),hyl,Nat.sub_self] at q1
        cases q1
        rw [er] at q2
        cases q2
        exact rmNew.on (mD _)
    · rw [au (ah e nD)]
      exact m03 b u (sm b u e)
  · rintro ys H2 ⟨_,hyl,hrm,hD2,sm⟩
    refine hd ys H2 sm hD2 ⟨by rw [hyl,List.length_map,hl1],fun j v rm e1 e2=>?_⟩
    rw [List.getElem?_map] at e2
    obtain⟨q,hq,rfl⟩:=Option.map_eq_some_iff.mp e2
    exact (hrm j v q e1 hq).at
end K7
namespace L2
open PySem PySem.Spec PyProof.Rows
section
variable {X:Cx}{o e:Expr}{es:List Expr}{to:TE}{t:TA}{name:Str}{apos cpos:Pos}{T id:String}{r:V->List V->Hp->VK->Prop}{K:PySem.W.Frag}
end
end L2
namespace K7
open PySem L2 PyProof.Rows
section
variable {P:Program}{w:World}{K:PySem.W.Frag}{mg:Str->Option Value}{base:Heap}
theorem sc__law_house:aB ["deck","most","locks","few","rooms","k","some"] ["deck","most","locks"] (ag bm):=⟨rfl,rfl,rfl,by decide +kernel,rfl,by decide +kernel,by decide +kernel⟩
theorem eF:(["j","deck","few"]:List Str).Nodup:=by decide +kernel
theorem kX {f fS fK fE:Addr}{fd fdS fdK fdE:FuncData}(F:Fun K "_law_house" "_law_house" bm f fd)(aw:FnOk P w K mg base CX0 1 fS fdS ["deck","many"] dn)(c__law_take:Cal K mg "_law_take" ["deck","many"] fS fdS)(dy:FnOk P w K mg base CX0 2 fK fdK ["deck","few"] gx)(c__law_kind:Cal K mg "_law_kind" ["deck","few"] fK fdK)
    (eo:FnOk P w K mg base CX0 3 fE fdE ["deck","few","most"] iM)(c__law_keys:Cal K mg "_law_keys" ["deck","few","most"] fE fdE)(aD:mg "range" = none)(bn:mg "sorted" = none)(dh:mg "int" = none):FnOk P w K mg base CX0 4 f fd ["deck","most","locks"] gd:=by
  refine F.ok sc__law_house (fun vs H Q E h=>?_) (fun cdv A outer s H vs Q E hr h=>?_)
  · obtain⟨p,most,rfl,_⟩:=h
    rfl
  · obtain⟨p,most,rfl,dk,hm,q⟩:=h
    refine⟨_,(aj (aS (i:=3) sc__law_house.nd rfl (Or.inr rfl) (bv bO (bT (ad ak (ad ak (ad ak ae)))) (al aw (hr.mono (show 1<=3 by decide)) rfl c__law_take.mg c__law_take.kp c__law_take.b .nil aG (ad (pv 0) (ad ak ae))) (fun _ _=>rfl)))
      (aj (aS (i:=4) sc__law_house.nd rfl (Or.inl rfl) iT)
      (aj (cq (fi PassesOwn.never rfl (bz rfl aD (ad (al aw (hr.mono (show 1<=3 by decide)) rfl c__law_take.mg c__law_take.kp c__law_take.b .nil aG (ad (pv 0) (ad (aV cE (pv 1) ak) ae))) ae)) (ax (i:=5) sc__law_house.nd rfl (Or.inl rfl))
        (aj (aS (i:=6) sc__law_house.nd rfl (Or.inl rfl) (ao eT rfl bn boot_sorted (ad (gg (tg:=.Name "j" _) (outer:=ag (bm)) (N:=["deck","most","locks","few","rooms","k","some"]) (N':=["j","deck","few"]) (nl:=1) (ix:=[0,3]) rfl rfl rfl (bz rfl aD (ad (aV cE ak (al aw (hr.mono (show 1<=3 by decide)) rfl c__law_take.mg c__law_take.kp c__law_take.b .nil aG (ad (pv 0) (ad (pv 2) ae)))) ae))
        (fun C fp s₀ H₀=>(ax (i:=0) eF rfl (Or.inl rfl) (.inr rfl))) (fun C fp s₀ H₀=>b5)
        (fun C fp s₀ H₀=>(al dy (hr.mono (show 2<=3 by decide)) rfl c__law_kind.mg c__law_kind.kp c__law_kind.b .nil aG (ad (pv 1) (ad (pv 2) ae))))) ae)))
        (aq (dQ (dt PySem.F.plainAttrs_list PySem.F.slot_list_append PySem.F.type_list_append cn (pv 4) (ad (cD (ad (pv 6) (ad (al eo hr rfl c__law_keys.mg c__law_keys.kp c__law_keys.b .nil aG (ad (pv 0) (ad (pv 3) (ad (bv bO (bT (ad ak (ad ak (ad ak (ad ak (ad (bv bO (bT (ad ak (ad ak ae))) (bR eC rfl dh (by decide +kernel) (ad (b9 nw (pv 1) ak (aN _)) ae)) (fun _ _=>rfl)) ae)))))) (al aw (hr.mono (show 1<=3 by decide)) rfl c__law_take.mg c__law_take.kp c__law_take.b .nil aG (ad (pv 0) (ad ak ae))) (fun _ _=>rfl)) ae)))) ae))) ae)))))))
      (aq (aA (cD (ad (al eo hr rfl c__law_keys.mg c__law_keys.kp c__law_keys.b .nil aG (ad (pv 0) (ad (pv 3) (ad (@bv _ _ _ _ _ _ _ bO (@bT _ _ _ _ (@aQ _ _ _ _ _ (@ak _ _ _ _) (@aQ _ _ _ _ _ (@ak _ _ _ _) (@aQ _ _ _ _ _ (@ak _ _ _ _) (@aQ _ _ _ _ _ (@ak _ _ _ _) (@ae _) rfl) rfl) rfl) rfl)) (al aw (hr.mono (show 1<=3 by decide)) rfl c__law_take.mg c__law_take.kp c__law_take.b .nil aG (ad (pv 0) (ad ak ae))) (fun _ _=>rfl)) ae)))) (ad (pv 4) ae)))))))),?_⟩
    refine⟨by show 3<=sizeLine;decide,fun l nl=>?_⟩
    have s1:Same H (upd H l (.lst (([2,3,8]:List Int).map V.int))):=ai nl
    have e1:(upd H l (.lst (([2,3,8]:List Int).map V.int))) l=some (.lst (([2,3,8]:List Int).map V.int)):=af
    refine⟨_,rfl,p,3,rfl,dk.same s1,by decide,fun r H2 r0 r1 dk2 B2=>?_⟩
    obtain⟨few,hfew,ef⟩:=o9 (xs:=[2,3,8]) r0 r1
    have hf:0 < few/\few<=8:=by simp only [List.mem_cons,List.not_mem_nil,or_false] at hfew;omega
    refine⟨l,_,_,.int few,rfl,rfl,SqL.of (B2 _ _ (dk.ne nl) e1),ef,?_⟩
    refine⟨Nat.zero_le _,fun rA nR=>?_⟩
    have s3:Same H2 (upd H2 rA (.lst [])):=ai nR
    have e3:(upd H2 rA (.lst [])) rA=some (.lst []):=af
    have rp:=dk2.ne nR
    have B03:But p H (upd H2 rA (.lst [])):=(aE s1).trans (B2.trans (aE s3))
    have nR0:H rA=none:=((aE s1).trans B2).free rp nR
    have dk3:=dk2.same s3
    generalize upd H2 rA (.lst [])=H3 at *
    clear e1 s1 s3 ef
    refine⟨fun σ' H'=>∃ i,i<=most/\HsI p rA most few H i σ' H',?_,?_⟩
    · rintro σ H4 ⟨i,im,vs,rs,x5,x6,rfl,hR,hRs,rok,rl,dk4,B4⟩
      refine⟨_,rfl,_,rfl,by show 4<=sizeLine;decide,fun l nl=>?_⟩
      have s5:Same H4 (upd H4 l (.lst (([5,5,5,13]:List Int).map V.int))):=ai nl
      have e5:(upd H4 l (.lst (([5,5,5,13]:List Int).map V.int))) l=some (.lst (([5,5,5,13]:List Int).map V.int)):=af
      refine⟨_,rfl,p,4,rfl,dk4.same s5,by decide,fun r H6 r0 r1 dk6 B6=>?_⟩
      obtain⟨m,hmm,em⟩:=o9 (xs:=[5,5,5,13]) r0 r1
      have hm':0 < m/\m<=20:=by simp only [List.mem_cons,List.not_mem_nil,or_false] at hmm;omega
      refine⟨l,_,_,.int m,rfl,rfl,SqL.of (B6 _ _ (dk4.ne nl) e5),em,?_⟩
      refine⟨p,few,m,rfl,dk6,hf.1,hf.2,hm'.1,hm'.2,fun kA ks H7 nk hk kl kk dk7 B7=>?_⟩
      have B47:But p H4 H7:=(aE s5).trans (B6.trans B7)
      refine⟨_,rfl,by show 2<=sizeLine;decide,fun t nt=>?_⟩
      have s8:Same H7 (upd H7 t (.tup [.ref kA,.ref rA])):=ai nt
      have e8:(upd H7 t (.tup [.ref kA,.ref rA])) t=some (.tup [.ref kA,.ref rA]):=af
      have kp:kA≠p:=dk6.ne nk
      have tp:t≠p:=dk7.ne nt
      generalize upd H7 t (.tup [.ref kA,.ref rA])=H8 at *
      have np:∀ {b:Addr},b≠p->b ∉ [p]:=fun h z=>h (List.mem_singleton.mp z)
      refine q (.ref t) (ks,rs) H8 ⟨t,kA,rA,vs,rfl,aZ (np tp) e8,aZ (np kp) (s8 _ _ hk),aZ (np rp) (s8 _ _ (B47 _ _ rp hR)),?_⟩ ⟨⟨kk,by show ks.length<=1000;omega,fun r hr=>(rok r hr).1,by show rs.length<=1000;omega⟩,by show rs.length<=most;omega,kl,fun r hr=>(rok r hr).2⟩ (dk7.same s8) (B4.trans (B47.trans (aE s8)))
      exact hRs.same ((dR (S:=[rA]) (B47.trans (aE s8))).trans (lw fun b hb=>List.mem_cons.mpr (.inl (List.mem_singleton.mp hb))))
    refine⟨_,rfl,_,rfl,most,1,rfl,rfl,p,(most:Int)+1,rfl,dk3,by omega,fun r H4 r0 r1 dk4 B4=>⟨r,rfl,by omega,by omega,?_⟩⟩
    obtain⟨n,rfl⟩:∃ n:Nat,r=(n:Int):=⟨r.toNat,by omega⟩
    rw [Int.toNat_natCast]
    refine cN (fun i σ' H'=>HsI p rA most few H i σ' H') ⟨[],[],_,_,rfl,B4 _ _ rp e3,.nil,(fun r h=>nomatch h),rfl,dk4,B03.trans B4⟩ ?_ (fun σ H' z=>⟨n,by omega,z⟩)
    rintro i σ H5 hi ⟨vs,rs,x5,x6,rfl,hR,hRs,rok,rl,dk5,B5⟩
    dsimp only [cF,oZ,oE,tCB,fm,lc]
    refine bo _ _ _ _ _ _ _ _ _ ?_
    refine⟨_,rfl,_,rfl,p,4,rfl,dk5,by decide,fun r H6 r0 r1 dk6 B6=>⟨1,r,rfl,rfl,1+r,rfl,by omega,by omega,?_⟩⟩
    intro D nD
    obtain⟨k,ek⟩:∃ k:Nat,1+r=(k:Int):=⟨(1+r).toNat,by omega⟩
    rw [ek,Int.toNat_natCast]
    refine fB (Pr:=fun _ y=>∃ z,y=V.str z/\aJ z) nD dk6 (by omega) (fun x=>rfl) (fun G i R hi BG dG kG=>?_) (fun ys H7 len pr hD7 B7 dk7=>?_)
    · exact⟨_,rfl,_,rfl,p,few,rfl,dG,hf.1,hf.2,fun z G' kz dG' BG'=>kG _ _ ⟨z,rfl,kz⟩ dG' BG'⟩
    obtain⟨ss,rfl,hss⟩:=cv fun y hy=>by
      obtain⟨i,e⟩:=List.mem_iff_getElem?.mp hy
      exact pr i y e
    rw [List.length_map] at len
    refine⟨D,ss,rfl,SqL.of hD7,by omega,fun kL ss' nS pm so=>?_⟩
    have s8:Same H7 (upd H7 kL (.lst (ss'.map V.str))):=ai nS
    have e8:(upd H7 kL (.lst (ss'.map V.str))) kL=some (.lst (ss'.map V.str)):=af
    have sp:kL≠p:=dk7.ne nS
    have B58:But p H5 (upd H7 kL (.lst (ss'.map V.str))):=B6.trans (B7.trans (aE s8))
    have dk8:=dk7.same s8
    have sr:kL≠rA:=(ah ((B6.trans B7) _ _ rp hR) nS).symm
    generalize upd H7 kL (.lst (ss'.map V.str))=H8 at *
    have hR8:=B58 _ _ rp hR
    refine⟨_,rfl,.inl ⟨rfl,_,SqL.of hR8⟩,_,rfl,_,rfl,_,rfl,by show 2<=sizeLine;decide,fun li nli=>?_⟩
    have s9:Same H8 (upd H8 li (.lst [.int 9,.int 3])):=ai nli
    have e9:(upd H8 li (.lst [.int 9,.int 3])) li=some (.lst (([9,3]:List Int).map V.int)):=af
    generalize upd H8 li (.lst [.int 9,.int 3])=H9 at *
    obtain⟨v9,h9,a9⟩:∃ v9∈([9,3]:List Int),atI (([9,3]:List Int).map V.int) (if decide ((most:Int) > 12)=true then 1 else 0)=some (.int v9):=by
      cases decide ((most:Int) > 12)
      · exact⟨9,by simp,rfl⟩
      · exact⟨3,by simp,rfl⟩
    have hv9:0 < v9/\v9<=9:=by simp only [List.mem_cons,List.not_mem_nil,or_false] at h9;omega
    refine⟨_,rfl,most,12,rfl,rfl,.inr ⟨_,rfl,li,_,_,.int v9,rfl,rfl,SqL.of e9,a9,by show 5<=sizeLine;decide,fun lo nlo=>?_⟩⟩
    have sA:Same H9 (upd H9 lo (.lst (([2,3,4,2,v9]:List Int).map V.int))):=ai nlo
    have eA:(upd H9 lo (.lst (([2,3,4,2,v9]:List Int).map V.int))) lo=some (.lst (([2,3,4,2,v9]:List Int).map V.int)):=af
    have dk9:=dk8.same s9
    refine⟨_,rfl,p,5,rfl,dk9.same sA,by decide,fun r HB r0 r1 dkB BB=>?_⟩
    obtain⟨m,hmm,em⟩:=o9 (xs:=[2,3,4,2,v9]) r0 r1
    have hm':0 < m/\m<=20:=by simp only [List.mem_cons,List.not_mem_nil,or_false] at hmm;omega
    refine⟨lo,_,_,.int m,rfl,rfl,SqL.of (BB _ _ (dk9.ne nlo) eA),em,?_⟩
    refine⟨p,few,m,rfl,dkB,hf.1,hf.2,hm'.1,hm'.2,fun kA ks HC nk hk kl kk dkC BC=>?_⟩
    have B8C:But p H8 HC:=(aE (s9.trans sA)).trans (BB.trans BC)
    refine⟨by show 2<=sizeLine;decide,fun t nt=>?_⟩
    have sD:Same HC (upd HC t (.tup [.ref kL,.ref kA])):=ai nt
    have eD:(upd HC t (.tup [.ref kL,.ref kA])) t=some (.tup [.ref kL,.ref kA]):=af
    have hRC:=B8C _ _ rp hR8
    have kp:kA≠p:=dkB.ne nk
    have tp:t≠p:=dkC.ne nt
    have tr:t≠rA:=(ah hRC nt).symm
    have hRB:HB rA=some (.lst vs):=((aE (s9.trans sA)).trans BB) _ _ rp hR8
    have kr:kA≠rA:=(ah hRB nk).symm
    have hkL:=B8C _ _ sp e8
    generalize upd HC t (.tup [.ref kL,.ref kA])=HD at *
    refine⟨rA,_,_,rfl,rfl,sD _ _ hRC,by rw [hRs.1];exact bt (by omega),?_⟩
    have B5D:But p H5 HD:=B58.trans (B8C.trans (aE sD))
    have out:∀ {b:Addr},b≠p->b≠rA->b ∉ [p,rA]:=fun h1 h2 z=>by
      rcases List.mem_cons.mp z with y | y
      · exact h1 y
      · exact h2 (List.mem_singleton.mp y)
    have ml:∀ x∈ss',aJ x:=fun x hx=>hss x (pm.mem_iff.mp hx)
    have ll:=pm.length_eq
    refine⟨vs++[.ref t],rs++[(ss',ks)],_,_,rfl,af,?_,fun r hr=>?_,by rw [List.length_append,rl];rfl,(dkC.same sD).up rp,fun b u nb e=>by rw [au (ah e nR0)];exact B5D b u nb (B5 b u nb e)⟩
    · refine RoomsAt.snoc (hRs.same ((dR (S:=[rA]) B5D).trans (ji (List.mem_cons_of_mem _ List.mem_cons_self)))) ⟨t,kL,kA,rfl,?_,?_,?_⟩
      · exact aZ (out tp tr) (by rw [au tr];exact eD)
      · exact aZ (out sp sr) (by rw [au sr];exact sD _ _ hkL)
      · exact aZ (out kp kr) (by rw [au kr];exact sD _ _ hk)
    · rcases List.mem_append.mp hr with y | y
      · exact rok r y
      · rw [List.mem_singleton.mp y]
        exact⟨⟨ml,by show 1<=ss'.length;omega,by show ss'.length<=4;omega,bW so,kk,by show ks.length<=1000;omega⟩,kl⟩
end
end K7
namespace L2
open PySem PySem.Spec PyProof.Rows
theorem gi {X:Cx}{K:PySem.W.Frag}(hK:X.K=K):dv X (.builtin "sorted") (fun xs H Q=>∃ (p:Addr) (ss:List Str),xs=[.ref p]/\SqL K H p (ss.map V.str)/\ss.length<=sizeLine/\∀ (l:Addr) (ss':List Str),H l=none->ss'.Perm ss->sortedS ss'=true->Q (.ref l) (upd H l (.lst (ss'.map V.str)))):=by subst hK;exact ci
end L2
namespace K7
open PySem L2 PyProof.Rows
def leB (a b:Str):Bool:=!Spec.ltCps b.cps.toList a.cps.toList
theorem leB_iff {a b:Str}:leB a b=true↔leS a b:=by unfold leB leS;rw [Bool.not_eq_true']
def aK (l:List Str):List Str:=l.mergeSort leB
theorem cS (l:List Str):(aK l).Perm l:=List.mergeSort_perm l leB
theorem j0 (a b:Str):leS a b\/leS b a:=by
  rcases List.le_total a.cps.toList b.cps.toList with h | h
  · exact .inl (leS_iff.mpr h)
  · exact .inr (leS_iff.mpr h)
theorem ge (l:List Str):(aK l).Pairwise leS:=by
  have h:=List.pairwise_mergeSort (le:=leB) (fun a b c h1 h2=>leB_iff.mpr (ic (leB_iff.mp h1) (leB_iff.mp h2))) (fun a b=>by
    rw [Bool.or_eq_true,leB_iff,leB_iff];exact j0 a b) l
  exact h.imp fun h=>leB_iff.mp h
theorem gy {l l':List Str}(pm:l'.Perm l)(so:sortedS l'=true):l'=aK l:=de (bW so) (ge l) (pm.trans (cS l).symm)
theorem lJ {l:List Str}(so:l.Pairwise leS):aK l=l:=de (ge l) so (cS l)
theorem sortS_mem {l:List Str}{x:Str}:x∈aK l↔x∈l:=(cS l).mem_iff
theorem bA (l:List Str):(aK l).length=l.length:=(cS l).length_eq
def fx (r:Rm):Rm:=(r.1,aK r.2)
def eZ (h:Hs):Hs:=(aK h.1,h.2.map fx)
def eQ:Sp:=fun vs H Q _=>∃ (v:V) (h:Hs),vs=[v]/\HouseAt H v h/\bX h/\∀ (v':V) (H':Hp),Same H H'->HouseAt H' v' (eZ h)->Q v' H'
section
variable {P:Program}{w:World}{K:PySem.W.Frag}{mg:Str->Option Value}{base:Heap}
theorem fv:aB ["house"] ["house"] (ag aY):=⟨rfl,rfl,rfl,by decide +kernel,rfl,by decide +kernel,by decide +kernel⟩
theorem cA:(["locks","keys"]:List Str).Nodup:=by decide +kernel
theorem jE {f:Addr}{fd:FuncData}(F:Fun K "_law_sorted" "_law_sorted" aY f fd)(bP:mg "list" = none)(bn:mg "sorted" = none):FnOk P w K mg base CX0 1 f fd ["house"] eQ:=by
  refine F.ok fv (fun vs H Q E h=>?_) (fun cdv A outer s H vs Q E hr h=>?_)
  · obtain⟨v,h,rfl,_⟩:=h
    rfl
  · obtain⟨v,h,rfl,hh,ok,k⟩:=h
    refine⟨_,(aq (aA (cD (ad (ao ci rfl bn boot_sorted (ad (bv b6 (pv 0) ak (fun _ _=>rfl)) ae)) (ad (gg (outer:=ag (aY)) (N:=["house"]) (N':=["locks","keys"]) (nl:=2) (ix:=[]) rfl rfl rfl (cy (bv b6 (pv 0) ak (fun _ _=>rfl)))
        (fun C fp s₀ H₀=>(jZ (K:=K) (n:=2) rfl rfl (aM (ax (i:=0) cA rfl (Or.inl rfl) (.inr rfl)) (aM (ax (i:=1) cA rfl (Or.inl rfl) (.inr rfl)) cz)))) (fun C fp s₀ H₀=>b5)
        (fun C fp s₀ H₀=>(cD (ad (bR (cT (K:=K) rfl) rfl bP (by decide +kernel) (ad (pv 0) ae)) (ad (ao (gi (K:=K) rfl) rfl bn boot_sorted (ad (pv 1) ae)) ae))))) ae))))),?_⟩
    have lim:1000<=sizeLine:=by decide
    obtain⟨t,a,r,vs,rfl,ht,ha,hrr,hR⟩:=hh
    have hkl:=ok.kl
    refine⟨_,rfl,t,_,0,.ref a,rfl,rfl,SqT.of ht,rfl,a,h.1,rfl,SqL.of ha,by omega,fun l1 ss' n1 pm so=>?_⟩
    rw [gy pm so]
    have s1:Same H (upd H l1 (.lst ((aK h.1).map V.str))):=ai n1
    have e1:(upd H l1 (.lst ((aK h.1).map V.str))) l1=some (.lst ((aK h.1).map V.str)):=af
    generalize upd H l1 (.lst ((aK h.1).map V.str))=H1 at *
    dsimp only [fm,lc]
    refine bo _ _ _ _ _ _ _ _ _ ?_
    refine⟨_,rfl,t,_,1,.ref r,rfl,rfl,SqT.of (s1 _ _ ht),rfl,r,rfl,⟨_,SqL.of (s1 _ _ hrr)⟩,?_⟩
    intro D nD
    refine jv (g:=fx) (s1 _ _ hrr) (hR.same s1) nD ok.rl (fun x y=>rfl) (fun H2 q aa bb R hq g2 g3 s2 done=>?_) fun ys H2 s2 hD2 hR2=>?_
    · have rok:=ok.rs q hq
      have kl:=rok.kl
      refine⟨_,rfl,aa,_,rfl,.inl (SqL.of (s2 _ _ g2)),fun l2 n2=>?_⟩
      have s3:Same H2 (upd H2 l2 (.lst (q.1.map V.str))):=ai n2
      have e3:(upd H2 l2 (.lst (q.1.map V.str))) l2=some (.lst (q.1.map V.str)):=af
      generalize upd H2 l2 (.lst (q.1.map V.str))=H3 at *
      refine⟨_,rfl,bb,q.2,rfl,SqL.of (s3 _ _ (s2 _ _ g3)),by omega,fun l3 ss' n3 pm so=>?_⟩
      rw [gy pm so]
      have s4:Same H3 (upd H3 l3 (.lst ((aK q.2).map V.str))):=ai n3
      have e4:(upd H3 l3 (.lst ((aK q.2).map V.str))) l3=some (.lst ((aK q.2).map V.str)):=af
      generalize upd H3 l3 (.lst ((aK q.2).map V.str))=H4 at *
      refine⟨by show 2<=sizeLine;decide,fun tn n4=>?_⟩
      have s5:=ai (o:=.tup [.ref l2,.ref l3]) n4
      exact done tn l2 l3 _ (s3.trans (s4.trans s5)) ((s3.trans s4).free n4) (.inl n2) (.inl (s3.free n3)) af (s5 _ _ (s4 _ _ e3)) (s5 _ _ e4)
    · refine⟨by show 2<=sizeLine;decide,fun tn n3=>?_⟩
      have s5:=ai (o:=.tup [.ref l1,.ref D]) n3
      exact k (.ref tn) _ (s1.trans (s2.trans s5)) ⟨tn,l1,D,ys,rfl,af,s5 _ _ (s2 _ _ e1),s5 _ _ hD2,hR2.same s5⟩
end
theorem RoomsAt.take {H:Hp}{vs:List V}{rs:List Rm}(x:RoomsAt H vs rs)(n:Nat):RoomsAt H (vs.take n) (rs.take n):=⟨by rw [List.length_take,List.length_take,x.1],fun i v r e1 e2=>by
  rw [List.getElem?_take] at e1 e2
  split at e1
  · rename_i h
    rw [if_pos h] at e2
    exact x.2 i v r e1 e2
  · cases e1⟩
theorem RoomsAt.drop {H:Hp}{vs:List V}{rs:List Rm}(x:RoomsAt H vs rs)(n:Nat):RoomsAt H (vs.drop n) (rs.drop n):=⟨by rw [List.length_drop,List.length_drop,x.1],fun i v r e1 e2=>by
  rw [List.getElem?_drop] at e1 e2
  exact x.2 _ v r e1 e2⟩
theorem RoomsAt.app {H:Hp}{vs us:List V}{rs qs:List Rm}(x:RoomsAt H vs rs)(y:RoomsAt H us qs):RoomsAt H (vs++us) (rs++qs):=by
  refine⟨by rw [List.length_append,List.length_append,x.1,y.1],fun i v r e1 e2=>?_⟩
  by_cases h:i < vs.length
  · rw [List.getElem?_append_left h] at e1
    rw [List.getElem?_append_left (by rw [← x.1];exact h)] at e2
    exact x.2 i v r e1 e2
  · rw [List.getElem?_append_right (by omega)] at e1
    rw [List.getElem?_append_right (by rw [← x.1];omega),← x.1] at e2
    exact y.2 _ v r e1 e2
theorem RoomsAt.one {H:Hp}{v:V}{r:Rm}(x:RoomAt H v r):RoomsAt H [v] [r]:=RoomsAt.snoc (vs:=[]) (rs:=[]) .nil x
structure HouseG (h:Hs):Prop where
  ok:bX h
  rl:h.2.length<=100
  kl:h.1.length<=300
  wl:∀ r∈h.2,r.2.length<=300
theorem HouseF.g {n:Nat}{h:Hs}(x:HouseF n h)(hn:n<=60):HouseG h:=⟨x.ok,by have:=x.rl;omega,by have:=x.kl;omega,fun r hr=>by have:=x.wl r hr;omega⟩
theorem mz {xs:List V}(k:Nat):mn xs none (some (k:Int))=xs.take k:=by
  unfold mn
  rw [HT.sIx_none,HT.sIx_nat,Nat.sub_zero,List.drop_zero]
  rcases Nat.le_total k xs.length with h | h
  · rw [Nat.min_eq_left h]
  · rw [Nat.min_eq_right h,List.take_length,List.take_of_length_le h]
theorem lh {xs:List V}{k:Nat}(h:k<=xs.length):mn xs (some (k:Int)) none=xs.drop k:=by
  unfold mn
  rw [HT.sIx_none,HT.sIx_nat,Nat.min_eq_left h]
  exact List.take_of_length_le (by rw [List.length_drop];exact Nat.le_refl _)
def words8c:List Str:=["a","b","ab","c","zz","abcd","ba","abce"]
def nO (n:Int)(i:Nat):Str:=(words8c[((n / 7+(0+(i:Int)) * (n % 97+(0+(i:Int)))) % 8).toNat]?).getD "a"
theorem j7 (n:Int)(i:Nat):atI (words8c.map V.str) ((n / 7+(0+(i:Int)) * (n % 97+(0+(i:Int)))) % 8)=some (.str (nO n i))/\aJ (nO n i):=by
  have h0:0<=(n / 7+(0+(i:Int)) * (n % 97+(0+(i:Int)))) % 8:=Int.emod_nonneg _ (by decide)
  have h1:(n / 7+(0+(i:Int)) * (n % 97+(0+(i:Int)))) % 8 < 8:=Int.emod_lt_of_pos _ (by decide)
  unfold nO
  generalize (n / 7+(0+(i:Int)) * (n % 97+(0+(i:Int)))) % 8=r at *
  obtain⟨j,rfl⟩:∃ j:Nat,r=(j:Int):=⟨r.toNat,by omega⟩
  have hj:j < words8c.length:=by show j < 8;omega
  rw [Int.toNat_natCast,List.getElem?_eq_getElem hj]
  exact⟨bN (by rw [List.getElem?_map,List.getElem?_eq_getElem hj];rfl),gJ (by decide +kernel) _ (List.getElem_mem hj)⟩
def iB:Sp:=fun vs H Q _=>∃ p:Addr,vs=[.ref p]/\DeckAt H p/\∀ (l:Addr) (ks:List Str) (H':Hp),H l=none->H' l=some (.lst (ks.map V.str))->ks.length<=200->(∀ k∈ks,aJ k)->DeckAt H' p->But p H H'->Q (.ref l) H'
def kC:Sp:=fun vs H Q _=>∃ (p:Addr) (v:V) (h:Hs),vs=[.ref p,v]/\DeckAt H p/\HouseAt (hid [p] H) v h/\HouseG h/\∀ (v':V) (h':Hs) (H':Hp),HouseAt (hid [p] H') v' h'->HouseG h'->DeckAt H' p->But p H H'->Q v' H'
section
variable {P:Program}{w:World}{K:PySem.W.Frag}{mg:Str->Option Value}{base:Heap}
theorem sc__law_many_keys:aB ["deck","number","menu"] ["deck"] (ag aH):=⟨rfl,rfl,rfl,by decide +kernel,rfl,by decide +kernel,by decide +kernel⟩
theorem dr:(["k","menu","number"]:List Str).Nodup:=by decide +kernel
theorem sc__law_many:aB ["deck","house","rooms","some","at"] ["deck","house"] (ag bK):=⟨rfl,rfl,rfl,by decide +kernel,rfl,by decide +kernel,by decide +kernel⟩
theorem mm {f fS:Addr}{fd fdS:FuncData}(F:Fun K "_law_many_keys" "_law_many_keys" aH f fd)(aw:FnOk P w K mg base CX0 1 fS fdS ["deck","many"] dn)(c__law_take:Cal K mg "_law_take" ["deck","many"] fS fdS)(aD:mg "range" = none):FnOk P w K mg base CX0 2 f fd ["deck"] iB:=by
  refine F.ok sc__law_many_keys (fun vs H Q E h=>?_) (fun cdv A outer s H vs Q E hr h=>?_)
  · obtain⟨p,rfl,_⟩:=h
    rfl
  · obtain⟨p,rfl,dk,q⟩:=h
    refine⟨_,(aj (aS (i:=1) sc__law_many_keys.nd rfl (Or.inr rfl) (al aw hr rfl c__law_take.mg c__law_take.kp c__law_take.b .nil aG (ad (pv 0) (ad ak ae))))
      (@aj _ _ _ _ _ (@aS _ _ 2 _ _ _ _ sc__law_many_keys.nd rfl (Or.inr rfl) (@bT _ _ _ _ (@aQ _ _ _ _ _ (@ar _ _ _ _) (@aQ _ _ _ _ _ (@ar _ _ _ _) (@aQ _ _ _ _ _ (@ar _ _ _ _) (@aQ _ _ _ _ _ (@ar _ _ _ _) (@aQ _ _ _ _ _ (@ar _ _ _ _) (@aQ _ _ _ _ _ (@ar _ _ _ _) (@aQ _ _ _ _ _ (@ar _ _ _ _) (@aQ _ _ _ _ _ (@ar _ _ _ _) (@ae _) rfl) rfl) rfl) rfl) rfl) rfl) rfl) rfl)) rfl (by first | exact .inl rfl | exact .inr rfl))
      (aq (aA (gg (tg:=.Name "k" _) (outer:=ag (aH)) (N:=["deck","number","menu"]) (N':=["k","menu","number"]) (nl:=1) (ix:=[2,1]) rfl rfl rfl (bz rfl aD (ad (aV cE ak (aV cM (pv 1) ak)) ae))
        (fun C fp s₀ H₀=>(ax (i:=0) dr rfl (Or.inl rfl) (.inr rfl))) (fun C fp s₀ H₀=>b5)
        (fun C fp s₀ H₀=>(bv (dz (K:=K) rfl) (pv 1) (aV cM (aV cE (aV gb (pv 2) ak) (aV gN (pv 0) (aV cE (aV cM (pv 2) ak) (pv 0)))) ak) (fun _ _=>rfl)))))))),?_⟩
    refine⟨_,rfl,p,720720,rfl,dk,by decide,fun n H1 n0 n1 dk1 B1=>?_⟩
    refine⟨by show 8<=sizeLine;decide,fun l nl=>?_⟩
    have s2:Same H1 (upd H1 l (.lst (words8c.map V.str))):=ai nl
    have e2:(upd H1 l (.lst (words8c.map V.str))) l=some (.lst (words8c.map V.str)):=af
    have dk2:=dk1.same s2
    have m0:0<=n % 184:=Int.emod_nonneg _ (by decide)
    have m1:n % 184 < 184:=Int.emod_lt_of_pos _ (by decide)
    obtain⟨m,em,hm⟩:∃ m:Nat,17+n % 184=(m:Int)/\m<=200:=⟨(17+n % 184).toNat,by omega,by omega⟩
    dsimp only [lg]
    refine bo _ _ _ _ _ _ _ _ _ ?_
    refine⟨_,rfl,_,184,rfl,rfl,(by show (0:Int) < 184;decide),17,_,rfl,rfl,(m:Int),congrArg (fun z=>[V.int z]) em,by omega,by omega,?_⟩
    intro D nD
    rw [Int.toNat_natCast]
    refine kY (n:=m) (F:=fun i=>V.str (nO n i)) nD (by omega) (fun x=>rfl) (fun G i R hi sG r=>?_) (fun H3 s3 hD3=>?_)
    · have b0:0<=n % 97:=Int.emod_nonneg _ (by decide)
      have b1:n % 97 < 97:=Int.emod_lt_of_pos _ (by decide)
      exact⟨_,rfl,_,rfl,_,7,rfl,rfl,⟨by decide,by decide⟩,_,rfl,_,rfl,_,97,rfl,rfl,(by show (0:Int) < 97;decide),_,rfl,_,_,rfl,rfl,_,_,rfl,rfl,.inl ⟨by omega,by omega⟩,_,_,rfl,rfl,_,8,rfl,rfl,(by show (0:Int) < 8;decide),l,_,_,_,rfl,rfl,SqL.of (sG _ _ e2),(j7 n i).1,r⟩
    refine q D ((List.range m).map (nO n)) H3 (B1.free (dk1.ne (s2.free nD)) (s2.free nD)) (by rw [hD3,List.map_map];rfl) (by rw [List.length_map,List.length_range];exact hm) (fun k hk=>?_) (dk2.same s3) (B1.trans (aE (s2.trans s3)))
    obtain⟨i,_,rfl⟩:=List.mem_map.mp hk
    exact (j7 n i).2
theorem mY {f fS fK:Addr}{fd fdS fdK:FuncData}(F:Fun K "_law_many" "_law_many" bK f fd)(aw:FnOk P w K mg base CX0 1 fS fdS ["deck","many"] dn)(c__law_take:Cal K mg "_law_take" ["deck","many"] fS fdS)(d4:FnOk P w K mg base CX0 2 fK fdK ["deck"] iB)(c__law_many_keys:Cal K mg "_law_many_keys" ["deck"] fK fdK)(bL:mg "len" = none):FnOk P w K mg base CX0 3 f fd ["deck","house"] kC:=by
  refine F.ok sc__law_many (fun vs H Q E h=>?_) (fun cdv A outer s H vs Q E hr h=>?_)
  · obtain⟨p,v,h,rfl,_⟩:=h
    rfl
  · obtain⟨p,v,h,rfl,dk,hh,hg,q⟩:=h
    refine⟨_,(aj (aS (i:=2) sc__law_many.nd rfl (Or.inl rfl) (gk iC (bv b6 (pv 1) ak (fun _ _=>rfl)) iP (iI ak)))
      (aj (aS (i:=3) sc__law_many.nd rfl (Or.inl rfl) (al d4 hr rfl c__law_many_keys.mg c__law_many_keys.kp c__law_many_keys.b .nil aG (ad (pv 0) ae)))
      (aj (aS (i:=4) sc__law_many.nd rfl (Or.inl rfl) (al aw (hr.mono (show 1<=2 by decide)) rfl c__law_take.mg c__law_take.kp c__law_take.b .nil aG (ad (pv 0) (ad (aV cE (ao aC rfl bL PySem.boot_len (ad (pv 2) ae)) ak) ae))))
      (aj (cc (aT iy (pv 4) (ao aC rfl bL PySem.boot_len (ad (pv 2) ae)) (aN _))
        (aq (aA (cD (ad (pv 3) (ad (pv 2) ae))))) aX)
      (aq (aA (cD (ad (bv b6 (pv 1) ak (fun _ _=>rfl)) (ad (aV fI (aV fI (gk iC (pv 2) iP (iI (pv 4))) (bT (ad (cD (ad (bv b6 (bv bO (pv 2) (pv 4) (fun _ _=>rfl)) ak (fun _ _=>rfl)) (ad (pv 3) ae))) ae))) (gk iC (pv 2) (iI (aV cE (pv 4) ak)) iP)) ae))))))))),?_⟩
    have lim:1000<=sizeLine:=by decide
    obtain⟨t,a,r,vs,rfl,ht,ha,hrr,hR⟩:=hh
    have np:∀ {b:Addr},b≠p->b ∉ [p]:=fun h z=>h (List.mem_singleton.mp z)
    have pn:∀ {b:Addr} {u:HO},hid [p] H b=some u->b≠p:=fun e z=>(cB e).1 (List.mem_singleton.mpr z)
    refine⟨_,rfl,t,_,1,.ref r,rfl,rfl,SqT.of (cB ht).2,rfl,(6:Int),rfl,r,_,rfl,SqL.of (cB hrr).2,fun r6 n6=>?_⟩
    rw [show (6:Int)=((6:Nat):Int) from rfl,mz 6]
    have s1:Same H (upd H r6 (.lst (vs.take 6))):=ai n6
    have e1:(upd H r6 (.lst (vs.take 6))) r6=some (.lst (vs.take 6)):=af
    have p6:=dk.ne n6
    have dk1:=dk.same s1
    generalize upd H r6 (.lst (vs.take 6))=H1 at *
    refine⟨_,rfl,p,rfl,dk1,fun sA ks H2 nS hS kl kk dk2 B2=>?_⟩
    have sp:=dk1.ne nS
    have B02:But p H H2:=(aE s1).trans B2
    have h62:=B2 _ _ p6 e1
    obtain⟨n,hn,hn6⟩:∃ n,(vs.take 6).length=n/\n<=6:=⟨_,rfl,by rw [List.length_take];omega⟩
    refine⟨_,rfl,_,rfl,r6,_,rfl,.inl (SqL.of h62),_,1,rfl,rfl,p,_,rfl,dk2,by omega,fun at_ H3 at0 at1 dk3 B3=>?_⟩
    have B03:But p H H3:=B02.trans B3
    have h63:=B3 _ _ p6 h62
    have hS3:=B3 _ _ sp hS
    have hR3:RoomsAt (hid [p] H3) vs h.2:=hR.same (dR (S:=[]) B03)
    obtain⟨k,rfl⟩:∃ k:Nat,at_=(k:Int):=⟨at_.toNat,by omega⟩
    have hlen:=hR.1
    refine⟨_,rfl,_,rfl,r6,_,rfl,.inl (SqL.of h63),rfl,_,rfl,jR (fun _=>?_) (fun hk=>?_)⟩
    · refine⟨_,rfl,_,rfl,by show 2<=sizeLine;decide,fun tn nt=>?_⟩
      have s4:Same H3 (upd H3 tn (.tup [.ref sA,.ref r6])):=ai nt
      refine q (.ref tn) (ks,h.2.take 6) _ ⟨tn,sA,r6,_,rfl,aZ (np (dk3.ne nt)) af,aZ (np sp) (s4 _ _ hS3),aZ (np p6) (s4 _ _ h63),(hR3.take 6).same (dR (S:=[]) (aE s4))⟩ ⟨⟨kk,by show ks.length<=1000;omega,fun r hr=>hg.ok.rs r (List.mem_of_mem_take hr),by show (h.2.take 6).length<=1000;rw [List.length_take];omega⟩,by show (h.2.take 6).length<=100;rw [List.length_take];omega,by show ks.length<=300;omega,fun r hr=>hg.wl r (List.mem_of_mem_take hr)⟩ (dk3.same s4) (B03.trans (aE s4))
    · have hkn:k < n:=by
        have ne:¬ (k:Int)=(n:Int):=fun z=>hk (decide_eq_true (by rw [hn];exact congrArg V.int z))
        omega
      have hkv:k < vs.length:=by rw [List.length_take] at hn;omega
      have hkr:k < h.2.length:=by omega
      have hk6:(vs.take 6)[k]? = some vs[k]:=by rw [List.getElem?_take,if_pos (by omega),List.getElem?_eq_getElem hkv]
      obtain⟨tt,aa,bb,ev,g1,g2,g3⟩:=hR3.2 k vs[k] h.2[k] (List.getElem?_eq_getElem hkv) (List.getElem?_eq_getElem hkr)
      have t3:=B03 _ _ (pn ht) (cB ht).2
      have a3:=B03 _ _ (pn ha) (cB ha).2
      refine⟨_,rfl,t,_,0,.ref a,rfl,rfl,SqT.of t3,rfl,?_⟩
      refine⟨_,rfl,_,rfl,(k:Int),rfl,r6,_,rfl,SqL.of h63,fun l2 n2=>?_⟩
      rw [mz k]
      have s4:Same H3 (upd H3 l2 (.lst ((vs.take 6).take k))):=ai n2
      have e4:(upd H3 l2 (.lst ((vs.take 6).take k))) l2=some (.lst ((vs.take 6).take k)):=af
      have dk4:=dk3.same s4
      generalize upd H3 l2 (.lst ((vs.take 6).take k))=H4 at *
      refine⟨_,rfl,_,rfl,r6,_,_,.ref tt,rfl,rfl,SqL.of (s4 _ _ h63),bN (by rw [hk6,ev]),tt,_,0,.ref aa,rfl,rfl,SqT.of (s4 _ _ (cB g1).2),rfl,_,rfl,by show 2<=sizeLine;decide,fun t1 nt1=>?_⟩
      have s5:Same H4 (upd H4 t1 (.tup [.ref aa,.ref sA])):=ai nt1
      have e5:(upd H4 t1 (.tup [.ref aa,.ref sA])) t1=some (.tup [.ref aa,.ref sA]):=af
      have t1p:=dk4.ne nt1
      have dk5:=dk4.same s5
      generalize upd H4 t1 (.tup [.ref aa,.ref sA])=H5 at *
      refine⟨by show 1<=sizeLine;decide,fun l1 n1=>?_⟩
      have s6:Same H5 (upd H5 l1 (.lst [.ref t1])):=ai n1
      have e6:(upd H5 l1 (.lst [.ref t1])) l1=some (.lst [.ref t1]):=af
      have dk6:=dk5.same s6
      generalize upd H5 l1 (.lst [.ref t1])=H6 at *
      refine⟨l2,l1,_,_,rfl,rfl,s6 _ _ (s5 _ _ e4),e6,by rw [List.length_take,List.length_take];show _+1<=sizeLine;omega,fun l3 n3=>?_⟩
      have s7:Same H6 (upd H6 l3 (.lst ((vs.take 6).take k++[.ref t1]))):=ai n3
      have e7:(upd H6 l3 (.lst ((vs.take 6).take k++[.ref t1]))) l3=some (.lst ((vs.take 6).take k++[.ref t1])):=af
      have dk7:=dk6.same s7
      generalize upd H6 l3 (.lst ((vs.take 6).take k++[.ref t1]))=H7 at *
      have s37:Same H3 H7:=s4.trans (s5.trans (s6.trans s7))
      refine⟨_,rfl,_,rfl,_,1,rfl,rfl,((k+1:Nat):Int),congrArg V.int (show (k:Int)+1=((k+1:Nat):Int) by omega),r6,_,rfl,SqL.of (s37 _ _ h63),fun l4 n4=>?_⟩
      rw [lh (by omega)]
      have s8:Same H7 (upd H7 l4 (.lst ((vs.take 6).drop (k+1)))):=ai n4
      have e8:(upd H7 l4 (.lst ((vs.take 6).drop (k+1)))) l4=some (.lst ((vs.take 6).drop (k+1))):=af
      have dk8:=dk7.same s8
      generalize upd H7 l4 (.lst ((vs.take 6).drop (k+1)))=H8 at *
      refine⟨l3,l4,_,_,rfl,rfl,s8 _ _ e7,e8,by rw [List.length_append,List.length_take,List.length_drop,hn];show _+1+_<=sizeLine;omega,fun l5 n5=>?_⟩
      have s9:Same H8 (upd H8 l5 (.lst ((vs.take 6).take k++[.ref t1]++(vs.take 6).drop (k+1)))):=ai n5
      have e9:(upd H8 l5 (.lst ((vs.take 6).take k++[.ref t1]++(vs.take 6).drop (k+1)))) l5=some (.lst ((vs.take 6).take k++[.ref t1]++(vs.take 6).drop (k+1))):=af
      have l5p:=dk8.ne n5
      have dk9:=dk8.same s9
      generalize upd H8 l5 (.lst ((vs.take 6).take k++[.ref t1]++(vs.take 6).drop (k+1)))=H9 at *
      refine⟨by show 2<=sizeLine;decide,fun tn nt=>?_⟩
      have sA':Same H9 (upd H9 tn (.tup [.ref a,.ref l5])):=ai nt
      have s5A:Same H5 (upd H9 tn (.tup [.ref a,.ref l5])):=s6.trans (s7.trans (s8.trans (s9.trans sA')))
      have s3A:Same H3 (upd H9 tn (.tup [.ref a,.ref l5])):=s37.trans (s8.trans (s9.trans sA'))
      have hRA:=hR3.same (dR (S:=[]) (aE (p:=p) s3A))
      have rok:=hg.ok.rs _ (List.getElem_mem hkr)
      have qr:∀ r∈(h.2.take 6).take k++[((h.2[k]).1,ks)]++(h.2.take 6).drop (k+1),cO r/\r.2.length<=300:=fun r hr=>by
        rcases List.mem_append.mp hr with y | y
        · rcases List.mem_append.mp y with y | y
          · have m:=List.mem_of_mem_take (List.mem_of_mem_take y)
            exact⟨hg.ok.rs r m,hg.wl r m⟩
          · rw [List.mem_singleton.mp y]
            exact⟨⟨rok.lk,rok.l1,rok.l4,rok.so,kk,by show ks.length<=1000;omega⟩,by show ks.length<=300;omega⟩
        · have m:=List.mem_of_mem_take (List.mem_of_mem_drop y)
          exact⟨hg.ok.rs r m,hg.wl r m⟩
      have ln:((h.2.take 6).take k++[((h.2[k]).1,ks)]++(h.2.take 6).drop (k+1)).length<=13:=by
        rw [List.length_append,List.length_append,List.length_take,List.length_take,List.length_drop,List.length_take]
        show _+1+_<=13
        omega
      have ra:RoomAt (hid [p] (upd H9 tn (.tup [.ref a,.ref l5]))) (.ref t1) ((h.2[k]).1,ks):=⟨t1,aa,sA,rfl,aZ (np t1p) (s5A _ _ e5),(dR (S:=[]) (aE (p:=p) s3A)) _ _ g2,aZ (np sp) (s3A _ _ hS3)⟩
      exact q (.ref tn) (h.1,(h.2.take 6).take k++[((h.2[k]).1,ks)]++(h.2.take 6).drop (k+1)) _ ⟨tn,a,l5,_,rfl,aZ (np (dk9.ne nt)) af,aZ (np (pn ha)) (s3A _ _ a3),aZ (np l5p) (sA' _ _ e9),(((hRA.take 6).take k).app (.one ra)).app ((hRA.take 6).drop (k+1))⟩
        ⟨⟨hg.ok.kk,hg.ok.kl,fun r hr=>(qr r hr).1,Nat.le_trans ln (by decide)⟩,Nat.le_trans ln (by decide),hg.kl,fun r hr=>(qr r hr).2⟩ (dk9.same sA') (B03.trans (aE s3A))
end
structure dL (h:Hs):Prop where
  ok:bX h
  rl:h.2.length<=100
  kl:h.1.length<=400
  wl:∀ r∈h.2,r.2.length<=400
theorem HouseG.l {h:Hs}(x:HouseG h):dL h:=⟨x.ok,x.rl,by have:=x.kl;omega,fun r hr=>by have:=x.wl r hr;omega⟩
def RG (r:Rm):Prop:=cO r/\r.2.length<=400
theorem fZ {c:Nat}:∀ {a b x y:List Nat},c ∉ a->c ∉ b->a++c::x=b++c::y->a=b/\x=y
  | [],[],x,y,_,_,e=>⟨rfl,by simpa using e⟩
  | [],d::b,x,y,_,h,e=>by
    rw [List.nil_append,List.cons_append] at e
    injection e with e1 e2
    exact absurd (e1▸List.mem_cons_self) h
  | d::a,[],x,y,h,_,e=>by
    rw [List.nil_append,List.cons_append] at e
    injection e with e1 e2
    exact absurd (e1▸List.mem_cons_self) h
  | d::a,d'::b,x,y,h1,h2,e=>by
    rw [List.cons_append,List.cons_append] at e
    injection e with e1 e2
    obtain⟨h3,h4⟩:=fZ (fun m=>h1 (List.mem_cons_of_mem _ m)) (fun m=>h2 (List.mem_cons_of_mem _ m)) e2
    exact⟨by rw [e1,h3],h4⟩
theorem df (z a:Str):Str.join z [a]=a:=by simp [Str.join]
theorem dJ (z a b:Str)(r:List Str):Str.join z (a::b::r)=a++z++Str.join z (b::r):=rfl
theorem jh {c:Nat}:∀ {ps qs:List Str},ps≠[]->qs≠[]->(∀ p∈ps,c ∉ p.cps.toList)->(∀ q∈qs,c ∉ q.cps.toList)->Str.join ⟨#[c]⟩ ps=Str.join ⟨#[c]⟩ qs->ps=qs
  | [],_,h,_,_,_,_=>absurd rfl h
  | _::_,[],_,h,_,_,_=>absurd rfl h
  | [p],[q],_,_,_,_,e=>by rw [df,df] at e;rw [e]
  | [p],q::q'::t,_,_,hp,_,e=>by
    rw [df,dJ] at e
    refine absurd ?_ (hp p List.mem_cons_self)
    rw [e,aI,aI]
    simp
  | p::p'::t,[q],_,_,_,hq,e=>by
    rw [df,dJ] at e
    refine absurd ?_ (hq q List.mem_cons_self)
    rw [← e,aI,aI]
    simp
  | p::p'::t,q::q'::t',_,_,hp,hq,e=>by
    rw [dJ,dJ] at e
    have e':=congrArg (fun s:Str=>s.cps.toList) e
    simp only [aI,List.append_assoc] at e'
    obtain⟨h1,h2⟩:=fZ (hp p List.mem_cons_self) (hq q List.mem_cons_self) e'
    rw [gp h1,jh (c:=c) (by simp) (by simp) (fun x hx=>hp x (List.mem_cons_of_mem _ hx)) (fun x hx=>hq x (List.mem_cons_of_mem _ hx)) (gp h2)]
theorem lF (z:Str)(ss:List Str):Txt.join z ss=Str.join z ss:=StrLaws.glued_eq_join z ss
theorem dO {c:Nat}{ps:List Str}(ne:ps≠[])(h:∀ p∈ps,c ∉ p.cps.toList):Txt.split (Txt.join ⟨#[c]⟩ ps) ⟨#[c]⟩=ps:=by
  refine jh (c:=c) (fun z=>?_) ne (StrLaws.split_free _ c) h ?_
  · have:=split_pos (Txt.join ⟨#[c]⟩ ps) ⟨#[c]⟩
    rw [z] at this
    simp at this
  · rw [StrLaws.join_split,lF]
theorem cZ (z:Str):∀ ss:List Str,(Txt.join z ss).length<=(ss.map (·.length)).sum+ss.length * z.length:=by
  intro ss
  rw [lF]
  have el:∀ s:Str,s.length=s.cps.toList.length:=fun s=>Array.length_toList.symm
  induction ss with
  | nil =>
    have e0:(Str.join z []).length=0:=rfl
    rw [e0];exact Nat.zero_le _
  | cons a r ih =>
    cases r with
    | nil=>rw [df];simp
    | cons b t =>
      rw [dJ]
      have e:(a++z++Str.join z (b::t)).length=a.length+z.length+(Str.join z (b::t)).length:=by
        rw [el,aI,aI,List.length_append,List.length_append,← el,← el,← el]
      rw [e,List.map_cons,List.sum_cons,List.length_cons,Nat.succ_mul]
      omega
theorem bS:∀ {ks:List Str},(∀ k∈ks,aJ k)->(ks.map (·.length)).sum<=4 * ks.length
  | [],_=>Nat.le_refl _
  | k::ks,h=>by
    have h1:=(h k List.mem_cons_self).2.1
    have h2:=bS fun x hx=>h x (List.mem_cons_of_mem _ hx)
    rw [List.map_cons,List.sum_cons,List.length_cons]
    omega
def cBl:Str:=Str.ofString " "
def cPl:Str:=Str.ofString "+"
def cNl:Str:=Str.ofString "\n"
def cCo:Str:=Str.ofString ": "
def cDa:Str:=Str.ofString "-"
theorem fk:cBl=⟨#[32]⟩:=by decide +kernel
theorem dU:cPl=⟨#[43]⟩:=by decide +kernel
theorem kM:cNl=⟨#[10]⟩:=by decide +kernel
theorem dF:cCo=⟨#[58,32]⟩:=by decide +kernel
theorem jr:cDa=⟨#[45]⟩:=by decide +kernel
def aR (ks:List Str):Str:=if ks=[] then cDa else Txt.join cBl (aK ks)
def bM (r:Rm):Str:=Txt.join cPl r.1++cCo++aR r.2
def gf (h:Hs):Str:=Txt.join cNl (aR h.1::h.2.map bM)
theorem eW:aK []=[]:=List.length_eq_zero_iff.mp (by rw [bA];rfl)
theorem jb {ks:List Str}(h:ks≠[]):aK ks≠[]:=fun z=>h (List.length_eq_zero_iff.mp (by rw [← bA,z];rfl))
theorem jN (ks:List Str):aK (aK ks)=aK ks:=lJ (ge ks)
theorem fG (ks:List Str):aR (aK ks)=aR ks:=by
  unfold aR
  by_cases h:ks=[]
  · rw [h,eW,if_pos rfl,if_pos rfl]
  · rw [if_neg h,if_neg (jb h),jN]
theorem jM (h:Hs):gf (eZ h)=gf h:=by
  unfold gf eZ
  dsimp only
  rw [fG,List.map_map]
  congr 2
  refine List.map_congr_left fun r _=>?_
  show Txt.join cPl r.1++cCo++aR (aK r.2)=_
  rw [fG]
  rfl
theorem dc {k:Str}(h:aJ k){c:Nat}(hc:c < 97):c ∉ k.cps.toList:=fun m=>by have:=(h.2.2 c m).1;omega
theorem d8 {z:Str}{ks:List Str}{c:Nat}(h:∀ k∈ks,c ∉ k.cps.toList)(hz:c ∉ z.cps.toList):c ∉ (Txt.join z ks).cps.toList:=fun m=>by
  rw [lF] at m
  rcases (mem_join z c ks).mp m with ⟨t,ht,y⟩ | ⟨_,y⟩
  · exact h t ht y
  · exact hz y
theorem hZ {ks:List Str}(h:∀ k∈ks,aJ k){c:Nat}(hc:c < 97)(h1:c≠32)(h2:c≠45):c ∉ (aR ks).cps.toList:=by
  unfold aR
  by_cases e:ks=[]
  · rw [if_pos e,jr];simpa using h2
  · rw [if_neg e]
    exact d8 (fun k hk=>dc (h k (sortS_mem.mp hk)) hc) (by rw [fk];simpa using h1)
theorem j5 {r:Rm}(h:cO r):10 ∉ (bM r).cps.toList:=by
  unfold bM
  rw [aI,aI]
  intro m
  rcases List.mem_append.mp m with y | y
  · rcases List.mem_append.mp y with y | y
    · exact d8 (fun k hk=>dc (h.lk k hk) (by decide)) (by rw [dU];simp) y
    · rw [dF] at y;simp at y
  · exact hZ h.kk (by decide) (by decide) (by decide) y
theorem ph {ks:List Str}(h:∀ k∈ks,aJ k)(ne:ks≠[]):aR ks≠cDa/\Txt.split (aR ks) cBl=aK ks:=by
  have n1:=jb ne
  have hk:∀ k∈aK ks,aJ k:=fun k hk=>h k (sortS_mem.mp hk)
  unfold aR
  rw [if_neg ne]
  refine⟨fun z=>?_,?_⟩
  · obtain⟨a,r,e⟩:=List.exists_cons_of_ne_nil n1
    have ha:=hk a (by rw [e];exact List.mem_cons_self)
    have m:45∈(Txt.join cBl (aK ks)).cps.toList:=by rw [z,jr];simp
    exact d8 (fun k hk'=>dc (hk k hk') (by decide)) (by rw [fk];simp) m
  · rw [fk]
    exact dO n1 fun k hk'=>dc (hk k hk') (by decide)
theorem oN {r:Rm}(h:cO r):Txt.split (Txt.join cPl r.1) cPl=r.1:=by
  rw [dU]
  exact dO (fun z=>by have:=h.l1;rw [z] at this;simp at this) fun k hk=>dc (h.lk k hk) (by decide)
theorem nr {a b:Str}(h:58 ∉ a.cps.toList):Txt.partition (a++cCo++b) cCo=(a,cCo,b):=by
  have cod:(a++cCo++b).cps.toList=a.cps.toList++([58,32]++b.cps.toList):=by rw [aI,aI,dF,List.append_assoc]
  have el:∀ s:Str,s.length=s.cps.toList.length:=fun s=>Array.length_toList.symm
  have l2:cCo.length=2:=by rw [dF];rfl
  have hat:StrLaws.At (a++cCo++b) cCo (a++cCo++b).length a.length:=by
    refine⟨by rw [l2,el (a++cCo++b),cod,el a];simp,?_⟩
    rw [StrLaws.subAt_eq,cod,el a,List.drop_left,l2,dF]
    simp
  rcases partition_whole (a++cCo++b) cCo with ⟨_,hn⟩ | ⟨i,e,hi,hm⟩
  · exact absurd hat (hn _)
  · have i1:i<=a.length:=Nat.le_of_not_lt fun z=>hm _ z hat
    have i2:¬ i < a.length:=fun z=>by
      have hs:=hi.2
      rw [StrLaws.subAt_eq,cod,l2,dF,beq_iff_eq,List.drop_append_of_le_length (by rw [← el];omega)] at hs
      have hl:i < a.cps.toList.length:=by rw [← el];exact z
      rw [List.drop_eq_getElem_cons hl,List.cons_append] at hs
      injection hs with h1 _
      exact h (h1▸List.getElem_mem hl)
    have ei:i=a.length:=by omega
    subst ei
    rw [e]
    congr 1
    · refine gp ?_
      rw [StrLaws.strSub_toList,List.drop_zero,Nat.sub_zero,cod,el a,List.take_left]
    · congr 1
      refine gp ?_
      rw [StrLaws.strSub_toList,l2,cod,el (a++cCo++b),cod]
      have e2:(a.cps.toList++([58,32]++b.cps.toList)).drop (a.length+2)=b.cps.toList:=by
        rw [← List.append_assoc,show a.length+2=(a.cps.toList++[58,32]).length by rw [List.length_append,← el];rfl,List.drop_left]
      rw [e2]
      refine List.take_of_length_le ?_
      rw [List.length_append,List.length_append,← el,← el]
      show b.length<=a.length+(2+b.length) - (a.length+2)
      omega
theorem oM {r:Rm}(h:cO r):Txt.partition (bM r) cCo=(Txt.join cPl r.1,cCo,aR r.2):=nr (d8 (fun k hk=>dc (h.lk k hk) (by decide)) (by rw [dU];simp))
theorem o3 {h:Hs}(ok:bX h):Txt.split (gf h) cNl=aR h.1::h.2.map bM:=by
  unfold gf
  rw [kM]
  refine dO (by simp) fun p hp=>?_
  rcases List.mem_cons.mp hp with y | y
  · rw [y];exact hZ ok.kk (by decide) (by decide) (by decide)
  · obtain⟨r,hr,rfl⟩:=List.mem_map.mp y
    exact j5 (ok.rs r hr)
theorem cP {ks:List Str}(h:∀ k∈ks,aJ k):(aR ks).length<=5 * ks.length+1:=by
  unfold aR
  by_cases e:ks=[]
  · rw [if_pos e,jr];exact Nat.le_add_left _ _
  · rw [if_neg e]
    have a:=cZ cBl (aK ks)
    have b:=bS fun k hk=>h k (sortS_mem.mp hk)
    have c:cBl.length=1:=by rw [fk];rfl
    rw [c,bA] at a
    rw [bA] at b
    omega
theorem gH {r:Rm}(h:cO r)(w:r.2.length<=400):(bM r).length<=2100:=by
  have el:∀ s:Str,s.length=s.cps.toList.length:=fun s=>Array.length_toList.symm
  have a:=cZ cPl r.1
  have b:=bS h.lk
  have c:cPl.length=1:=by rw [dU];rfl
  have d:=cP h.kk
  have e:(bM r).length=(Txt.join cPl r.1).length+2+(aR r.2).length:=by
    unfold bM
    rw [el,aI,aI,List.length_append,List.length_append,← el,← el,← el,dF]
    rfl
  have l4:=h.l4
  rw [c] at a
  omega
theorem fh {h:Hs}(x:dL h):((aR h.1::h.2.map bM).map (·.length)).sum+(aR h.1::h.2.map bM).length * cNl.length<=300000:=by
  have c:cNl.length=1:=by rw [kM];rfl
  have k:=cP x.ok.kk
  have kl:=x.kl
  have rl:=x.rl
  have s:∀ rs:List Rm,(∀ r∈rs,cO r/\r.2.length<=400)->((rs.map bM).map (·.length)).sum<=2100 * rs.length:=by
    intro rs
    induction rs with
    | nil=>intro _;exact Nat.le_refl _
    | cons r rs ih =>
      intro hr
      have h1:=gH (hr r List.mem_cons_self).1 (hr r List.mem_cons_self).2
      have h2:=ih fun q hq=>hr q (List.mem_cons_of_mem _ hq)
      rw [List.map_cons,List.map_cons,List.sum_cons,List.length_cons]
      omega
  have s':=s h.2 fun r hr=>⟨x.ok.rs r hr,x.wl r hr⟩
  rw [c,List.map_cons,List.sum_cons,List.length_cons,List.length_map]
  omega
theorem gU {h:Hs}(x:dL h):(gf h).length<=300000:=Nat.le_trans (cZ _ _) (fh x)
def gm:Sp:=fun vs H Q _=>∃ (a:Addr) (ks:List Str),vs=[.ref a]/\H a=some (.lst (ks.map V.str))/\(∀ k∈ks,aJ k)/\ks.length<=400/\∀ H',Same H H'->Q (.str (aR ks)) H'
def iO:Sp:=fun vs H Q _=>∃ (v:V) (r:Rm),vs=[v]/\RoomAt H v r/\RG r/\∀ H',Same H H'->Q (.str (bM r)) H'
def gh:Sp:=fun vs H Q _=>∃ (v:V) (h:Hs),vs=[v]/\HouseAt H v h/\dL h/\∀ H',Same H H'->Q (.str (gf h)) H'
def d5:Sp:=fun vs H Q _=>∃ ks:List Str,vs=[.str (aR ks)]/\(∀ k∈ks,aJ k)/\ks.length<=400/\∀ l,H l=none->Q (.ref l) (upd H l (.lst ((aK ks).map V.str)))
def gj:Sp:=fun vs H Q _=>∃ r:Rm,vs=[.str (bM r)]/\RG r/\∀ (tn l1 l2:Addr) (H':Hp),Same H H'->H tn=none->H l1=none->H l2=none->l1≠l2->H' tn=some (.tup [.ref l1,.ref l2])->H' l1=some (.lst ((fx r).1.map V.str))->H' l2=some (.lst ((fx r).2.map V.str))->Q (.ref tn) H'
abbrev ce (L:List (Addr×Addr×Addr)):List Addr:=L.flatMap fun x=>[x.2.1,x.2.2]
inductive Apart (H0 H:Hp)(v:V)(h:Hs):Prop
  | mk (tn kA rA:Addr) (L:List (Addr×Addr×Addr)):v=.ref tn->H tn=some (.tup [.ref kA,.ref rA])->H kA=some (.lst (h.1.map V.str))->H rA=some (.lst (L.map fun x=>V.ref x.1))->L.length=h.2.length->(∀ (i:Nat) (x:Addr×Addr×Addr) (r:Rm),L[i]? = some x->h.2[i]? = some r->H x.1=some (.tup [.ref x.2.1,.ref x.2.2])/\H x.2.1=some (.lst (r.1.map V.str))/\H x.2.2=some (.lst (r.2.map V.str)))->(kA::rA::ce L).Nodup->(∀ b∈kA::rA::ce L,H0 b=none)->Apart H0 H v h
theorem Apart.same {H0 H H':Hp}{v:V}{h:Hs}(x:Apart H0 H v h)(s:Same H H'):Apart H0 H' v h:=by
  obtain⟨tn,kA,rA,L,e,h1,h2,h3,hl,hs,nd,fr⟩:=x
  exact⟨tn,kA,rA,L,e,s _ _ h1,s _ _ h2,s _ _ h3,hl,fun i x r a b=>⟨s _ _ (hs i x r a b).1,s _ _ (hs i x r a b).2.1,s _ _ (hs i x r a b).2.2⟩,nd,fr⟩
theorem Apart.at {H0 H:Hp}{v:V}{h:Hs}(x:Apart H0 H v h):HouseAt H v h:=by
  obtain⟨tn,kA,rA,L,e,h1,h2,h3,hl,hs,nd,fr⟩:=x
  refine⟨tn,kA,rA,_,e,h1,h2,h3,by rw [List.length_map,hl],fun i v r a b=>?_⟩
  rw [List.getElem?_map] at a
  obtain⟨y,hy,rfl⟩:=Option.map_eq_some_iff.mp a
  obtain⟨g1,g2,g3⟩:=hs i y r hy b
  exact⟨y.1,y.2.1,y.2.2,rfl,g1,g2,g3⟩
def ku:Sp:=fun vs H Q _=>∃ h:Hs,vs=[.str (gf h)]/\dL h/\∀ (v:V) (H':Hp),Same H H'->Apart H H' v (eZ h)->Q v H'
section
variable {P:Program}{w:World}{K:PySem.W.Frag}{mg:Str->Option Value}{base:Heap}
theorem gR:aB ["keys"] ["keys"] (ag bI):=⟨rfl,rfl,rfl,by decide +kernel,rfl,by decide +kernel,by decide +kernel⟩
theorem sc_show_room:aB ["room","locks","within"] ["room"] (ag bH):=⟨rfl,rfl,rfl,by decide +kernel,rfl,by decide +kernel,by decide +kernel⟩
theorem sc_show_house:aB ["house","keys","rooms"] ["house"] (ag bh):=⟨rfl,rfl,rfl,by decide +kernel,rfl,by decide +kernel,by decide +kernel⟩
theorem eM:(["room"]:List Str).Nodup:=by decide +kernel
theorem gB:aB ["text"] ["text"] (ag bu):=⟨rfl,rfl,rfl,by decide +kernel,rfl,by decide +kernel,by decide +kernel⟩
theorem sc_split_room:aB ["line","locks","colon","within"] ["line"] (ag bx):=⟨rfl,rfl,rfl,by decide +kernel,rfl,by decide +kernel,by decide +kernel⟩
theorem sc_read_house:aB ["text","first","lines","house"] ["text"] (ag bi):=⟨rfl,rfl,rfl,by decide +kernel,rfl,by decide +kernel,by decide +kernel⟩
theorem eN:(["line"]:List Str).Nodup:=by decide +kernel
theorem lY {f:Addr}{fd:FuncData}(F:Fun K "show_keys" "show_keys" bI f fd)(bn:mg "sorted" = none):FnOk P w K mg base CX0 1 f fd ["keys"] gm:=by
  refine F.ok gR (fun vs H Q E h=>?_) (fun cdv A outer s H vs Q E hr h=>?_)
  · obtain⟨a,ks,rfl,_⟩:=h
    rfl
  · obtain⟨a,ks,rfl,ha,kk,kl,q⟩:=h
    refine⟨_,(aq (aA (iW (lZ (pv 0) (by intro _;rfl)) (dt PySem.F.plainAttrs_str PySem.F.slot_str_join PySem.F.type_str_join dP ar (ad (ao ci rfl bn boot_sorted (ad (pv 0) ae)) ae)) ar))),?_⟩
    have lim:1000<=sizeLine:=by decide
    refine⟨_,rfl,!(ks.map V.str).isEmpty,?_,?_⟩
    · exact .inl ⟨_,SqL.of ha,rfl⟩
    by_cases e:ks=[]
    · subst e
      refine dM ?_
      have:=q H (Same.refl H)
      unfold aR at this
      rw [if_pos rfl] at this
      exact this
    · rw [show (!(ks.map V.str).isEmpty)=true by cases ks with | nil=>exact absurd rfl e | cons _ _=>rfl]
      refine ip ?_
      refine⟨rfl,_,rfl,a,ks,rfl,SqL.of ha,by omega,fun l ss' nl pm so=>?_⟩
      rw [gy pm so]
      have z:=q _ (ai (o:=.lst ((aK ks).map V.str)) nl)
      unfold aR at z
      rw [if_neg e] at z
      refine⟨cBl,l,aK ks,rfl,rfl,SqL.of af,?_,z⟩
      have b:=bS fun k hk=>kk k (sortS_mem.mp hk)
      have c:cBl.length=1:=by rw [fk];rfl
      have d:=bA ks
      rw [c]
      omega
theorem lC {f fS:Addr}{fd fdS:FuncData}(F:Fun K "show_room" "show_room" bH f fd)(dq:FnOk P w K mg base CX0 1 fS fdS ["keys"] gm)(c_show_keys:Cal K mg "show_keys" ["keys"] fS fdS):FnOk P w K mg base CX0 2 f fd ["room"] iO:=by
  refine F.ok sc_show_room (fun vs H Q E h=>?_) (fun cdv A outer s H vs Q E hr h=>?_)
  · obtain⟨v,r,rfl,_⟩:=h
    rfl
  · obtain⟨v,r,rfl,⟨t,a,b,rfl,ht,ha,hb⟩,ok,q⟩:=h
    refine⟨_,(aj (gM (pv 0) (eB rfl (aM (ax (i:=1) sc_show_room.nd rfl (Or.inl rfl)) (aM (ax (i:=2) sc_show_room.nd rfl (Or.inl rfl)) cz))))
      (aq (aA (aV cp (aV cp (dt PySem.F.plainAttrs_str PySem.F.slot_str_join PySem.F.type_str_join dP ar (ad (pv 1) ae)) ar) (al dq hr rfl c_show_keys.mg c_show_keys.kp c_show_keys.b .nil aG (ad (pv 2) ae)))))),?_⟩
    have lim:10000<=sizeLine:=by decide
    have l4:=ok.1.l4
    have c1:cPl.length=1:=by rw [dU];rfl
    have c2:cCo.length=2:=by rw [dF];rfl
    have s1:=bS ok.1.lk
    have s2:=cZ cPl r.1
    have s3:=cP ok.1.kk
    have wl:=ok.2
    have s4:(Txt.join cPl r.1++cCo).length=(Txt.join cPl r.1).length+2:=by
      have el:∀ s:Str,s.length=s.cps.toList.length:=fun s=>Array.length_toList.symm
      rw [el,aI,List.length_append,← el,← el,c2]
    rw [c1] at s2
    refine⟨_,rfl,t,_,rfl,SqT.of ht,rfl,_,_,rfl,_,_,rfl,rfl,?_⟩
    refine⟨rfl,_,rfl,cPl,a,r.1,rfl,rfl,SqL.of ha,by rw [c1];omega,_,cCo,rfl,rfl,by omega,?_⟩
    exact⟨_,rfl,b,r.2,rfl,hb,ok.1.kk,wl,fun H' s'=>⟨_,_,rfl,rfl,by omega,q H' s'⟩⟩
theorem lp {f fQ fS fR:Addr}{fd fdQ fdS fdR:FuncData}(F:Fun K "show_house" "show_house" bh f fd)(eE:FnOk P w K mg base CX0 6 fQ fdQ ["thing"] mR)(c_require_house:Cal K mg "require_house" ["thing"] fQ fdQ)(dq:FnOk P w K mg base CX0 1 fS fdS ["keys"] gm)(c_show_keys:Cal K mg "show_keys" ["keys"] fS fdS)(iL:FnOk P w K mg base CX0 2 fR fdR ["room"] iO)(c_show_room:Cal K mg "show_room" ["room"] fR fdR):FnOk P w K mg base CX0 7 f fd ["house"] gh:=by
  refine F.ok sc_show_house (fun vs H Q E h=>?_) (fun cdv A outer s H vs Q E hr h=>?_)
  · obtain⟨v,h,rfl,_⟩:=h
    rfl
  · obtain⟨v,h,rfl,hh,hl,q⟩:=h
    refine⟨_,(aj (dQ (al eE hr rfl c_require_house.mg c_require_house.kp c_require_house.b .nil aG (ad (pv 0) ae)))
      (aj (gM (pv 0) (eB rfl (aM (ax (i:=1) sc_show_house.nd rfl (Or.inl rfl)) (aM (ax (i:=2) sc_show_house.nd rfl (Or.inl rfl)) cz))))
      (aq (aA (dt PySem.F.plainAttrs_str PySem.F.slot_str_join PySem.F.type_str_join dP ar (ad (aV fI (bT (ad (al dq (hr.mono (show 1<=6 by decide)) rfl c_show_keys.mg c_show_keys.kp c_show_keys.b .nil aG (ad (pv 1) ae)) ae)) (gg (tg:=.Name "room" _) (outer:=ag (bh)) (N:=["house","keys","rooms"]) (N':=["room"]) (nl:=1) (ix:=[]) rfl rfl rfl (cy (pv 2))
        (fun C fp s₀ H₀=>(ax (i:=0) eM rfl (Or.inl rfl) (.inr rfl))) (fun C fp s₀ H₀=>b5)
        (fun C fp s₀ H₀=>(al iL (hr.mono (show 2<=6 by decide)) rfl c_show_room.mg c_show_room.kp c_show_room.b .nil aG (ad (pv 0) ae))))) ae)))))),?_⟩
    have lim:10000<=sizeLine:=by decide
    refine⟨_,rfl,v,h,rfl,hh,hl.ok,fun H1 s1=>?_⟩
    obtain⟨t,a,r,vs,rfl,ht,ha,hrr,hR⟩:=hh.same s1
    have rl:=hl.rl
    have hlen:=hR.1
    refine⟨_,rfl,t,_,rfl,SqT.of ht,rfl,_,_,rfl,_,_,rfl,rfl,?_⟩
    refine⟨rfl,_,rfl,a,h.1,rfl,ha,hl.ok.kk,hl.kl,fun H2 s2=>?_⟩
    refine⟨by show 1<=sizeLine;decide,fun l1 n1=>?_⟩
    have s3:Same H2 (upd H2 l1 (.lst [.str (aR h.1)])):=ai n1
    have e3:(upd H2 l1 (.lst [.str (aR h.1)])) l1=some (.lst [.str (aR h.1)]):=af
    generalize upd H2 l1 (.lst [.str (aR h.1)])=H3 at *
    have hr3:=s3 _ _ (s2 _ _ hrr)
    have hR3:=(hR.same s2).same s3
    dsimp only [fm,lc]
    refine bo _ _ _ _ _ _ _ _ _ ?_
    refine⟨_,rfl,r,rfl,⟨_,SqL.of hr3⟩,?_⟩
    intro D nD
    refine b8 (xs:=vs) (fun i ys H4=>ys=((h.2.take i).map bM).map V.str/\i<=1000/\H4 D=some (.lst ys)/\Same H3 H4) ⟨rfl,by decide,af,ai nD⟩ (fun i ys H4 ⟨_,_,h,_⟩=>h) (fun i ys H4 ⟨_,_,_,sm⟩=>SqL.of (sm r _ hr3)) ?_ ?_
    · rintro i ys H4 x hx ⟨rfl,hi0,hD4,sm⟩
      have hi:i < vs.length:=(List.getElem?_eq_some_iff.mp hx).1
      have hi':i < h.2.length:=by omega
      have er:h.2[i]? = some h.2[i]:=List.getElem?_eq_getElem hi'
      refine bU rfl ?_
      refine⟨_,rfl,x,h.2[i],rfl,(hR3.2 i x _ hx er).same sm,⟨hl.ok.rs _ (List.getElem_mem hi'),hl.wl _ (List.getElem_mem hi')⟩,fun H5 s5=>?_⟩
      refine⟨s5 D _ hD4,by rw [List.length_map,List.length_map,List.length_take];omega,nx hi ⟨?_,by omega,af,fun b u e=>?_⟩⟩
      · rw [List.take_succ,er,List.map_append,List.map_append]
        rfl
      · rw [au (ah e nD)]
        exact s5 b u (sm b u e)
    · rintro ys H4 ⟨rfl,_,hD4,sm⟩
      rw [hlen,List.take_length] at hD4
      refine⟨l1,D,_,_,rfl,rfl,sm _ _ e3,hD4,by rw [List.length_map,List.length_map];show 1+_<=sizeLine;omega,fun l2 n2=>?_⟩
      have z:=fh hl
      refine⟨cNl,l2,aR h.1::h.2.map bM,rfl,rfl,SqL.of (by rw [af];rfl),by omega,?_⟩
      exact q _ (s1.trans (s2.trans (s3.trans (sm.trans (ai n2)))))
theorem kc {f:Addr}{fd:FuncData}(F:Fun K "split_keys" "split_keys" bu f fd):FnOk P w K mg base CX0 1 f fd ["text"] d5:=by
  refine F.ok gB (fun vs H Q E h=>?_) (fun cdv A outer s H vs Q E hr h=>?_)
  · obtain⟨ks,rfl,_⟩:=h
    rfl
  · obtain⟨ks,rfl,kk,kl,q⟩:=h
    refine⟨_,(aq (aA (iW (aT iy (pv 0) ar (aN _)) iT (dt PySem.F.plainAttrs_str PySem.F.slot_str_split PySem.F.type_str_split gq (pv 0) (ad ar ae))))),?_⟩
    have len:=cP kk
    refine⟨_,rfl,rfl,_,rfl,?_⟩
    by_cases e:ks=[]
    · subst e
      have es:aR []=cDa:=by unfold aR;rw [if_pos rfl]
      rw [es]
      refine ip ⟨Nat.zero_le _,fun l nl=>?_⟩
      have z:=q l nl
      rw [eW] at z
      exact z
    · have rd:=ph kk e
      refine jR (fun z=>absurd (by have:=of_decide_eq_true z;injection this) rd.1) (fun _=>?_)
      refine⟨_,rfl,rfl,_,cBl,rfl,rfl,by rw [fk];rfl,by omega,fun l nl=>?_⟩
      rw [rd.2]
      exact q l nl
theorem kQ {f fS:Addr}{fd fdS:FuncData}(F:Fun K "split_room" "split_room" bx f fd)(cI:FnOk P w K mg base CX0 1 fS fdS ["text"] d5)(c_split_keys:Cal K mg "split_keys" ["text"] fS fdS):FnOk P w K mg base CX0 2 f fd ["line"] gj:=by
  refine F.ok sc_split_room (fun vs H Q E h=>?_) (fun cdv A outer s H vs Q E hr h=>?_)
  · obtain⟨r,rfl,_⟩:=h
    rfl
  · obtain⟨r,rfl,ok,q⟩:=h
    refine⟨_,(aj (gM (dt PySem.F.plainAttrs_str PySem.F.slot_str_partition PySem.F.type_str_partition h8 (pv 0) (ad ar ae)) (eB rfl (aM (ax (i:=1) sc_split_room.nd rfl (Or.inl rfl)) (aM (ax (i:=2) sc_split_room.nd rfl (Or.inl rfl)) (aM (ax (i:=3) sc_split_room.nd rfl (Or.inl rfl)) cz)))))
      (aq (aA (cD (ad (dt PySem.F.plainAttrs_str PySem.F.slot_str_split PySem.F.type_str_split gq (pv 1) (ad ar ae)) (ad (al cI hr rfl c_split_keys.mg c_split_keys.kp c_split_keys.b .nil aG (ad (pv 3) ae)) ae)))))),?_⟩
    have lim:10000<=sizeLine:=by decide
    have len:=gH ok.1 ok.2
    have rp:=oM ok.1
    have s1:=bS ok.1.lk
    have s2:=cZ cPl r.1
    have l4:=ok.1.l4
    have c1:cPl.length=1:=by rw [dU];rfl
    rw [c1] at s2
    refine⟨_,rfl,rfl,_,cCo,rfl,rfl,by rw [dF];rfl,by omega,fun t nt=>?_⟩
    rw [rp]
    have st:=ai (o:=.tup [.str (Txt.join cPl r.1),.str cCo,.str (aR r.2)]) nt
    refine⟨t,_,rfl,SqT.of af,rfl,_,_,rfl,_,_,rfl,_,_,rfl,rfl,?_⟩
    refine⟨_,rfl,rfl,_,cPl,rfl,rfl,by rw [dU];rfl,by show (Txt.join cPl r.1).length<=1000000;omega,fun l1 n1=>?_⟩
    rw [oN ok.1]
    generalize upd H t (.tup [.str (Txt.join cPl r.1),.str cCo,.str (aR r.2)])=H1 at *
    have s3:Same H1 (upd H1 l1 (.lst (r.1.map V.str))):=ai n1
    have e3:(upd H1 l1 (.lst (r.1.map V.str))) l1=some (.lst (r.1.map V.str)):=af
    generalize upd H1 l1 (.lst (r.1.map V.str))=H3 at *
    refine⟨_,rfl,r.2,rfl,ok.1.kk,ok.2,fun l2 n2=>?_⟩
    have s4:Same H3 (upd H3 l2 (.lst ((aK r.2).map V.str))):=ai n2
    have e4:(upd H3 l2 (.lst ((aK r.2).map V.str))) l2=some (.lst ((aK r.2).map V.str)):=af
    generalize upd H3 l2 (.lst ((aK r.2).map V.str))=H4 at *
    refine⟨by show 2<=sizeLine;decide,fun tn n5=>?_⟩
    have s5:Same H4 (upd H4 tn (.tup [.ref l1,.ref l2])):=ai n5
    exact q tn l1 l2 _ (st.trans (s3.trans (s4.trans s5))) ((st.trans (s3.trans s4)).free n5) (st.free n1) ((st.trans s3).free n2) (ah e3 n2) af (s5 _ _ (s4 _ _ e3)) (s5 _ _ e4)
theorem i5 {h:Hs}(x:dL h):dL (eZ h):=by
  refine⟨⟨fun k hk=>x.ok.kk k (sortS_mem.mp hk),by show (aK h.1).length<=1000;rw [bA];exact x.ok.kl,fun r hr=>?_,by show (h.2.map fx).length<=1000;rw [List.length_map];exact x.ok.rl⟩,by show (h.2.map fx).length<=100;rw [List.length_map];exact x.rl,by show (aK h.1).length<=400;rw [bA];exact x.kl,fun r hr=>?_⟩
  · obtain⟨q,hq,rfl⟩:=List.mem_map.mp hr
    have ok:=x.ok.rs q hq
    exact⟨ok.lk,ok.l1,ok.l4,ok.so,fun k hk=>ok.kk k (sortS_mem.mp hk),by show (aK q.2).length<=1000;rw [bA];exact ok.kl⟩
  · obtain⟨q,hq,rfl⟩:=List.mem_map.mp hr
    show (aK q.2).length<=400
    rw [bA]
    exact x.wl q hq
theorem nB {f fH fO fS fR:Addr}{fd fdH fdO fdS fdR:FuncData}(F:Fun K "read_house" "read_house" bi f fd)(jJ:FnOk P w K mg base CX0 5 fH fdH ["thing"] gn)(c_is_house:Cal K mg "is_house" ["thing"] fH fdH)(cg:FnOk P w K mg base CX0 7 fO fdO ["house"] gh)(c_show_house:Cal K mg "show_house" ["house"] fO fdO)
    (cI:FnOk P w K mg base CX0 1 fS fdS ["text"] d5)(c_split_keys:Cal K mg "split_keys" ["text"] fS fdS)(ig:FnOk P w K mg base CX0 2 fR fdR ["line"] gj)(c_split_room:Cal K mg "split_room" ["line"] fR fdR)(am:mg "isinstance" = none)(du:mg "str" = none):FnOk P w K mg base CX0 8 f fd ["text"] ku:=by
  refine F.ok sc_read_house (fun vs H Q E h=>?_) (fun cdv A outer s H vs Q E hr h=>?_)
  · obtain⟨h,rfl,_⟩:=h
    rfl
  · obtain⟨h,rfl,hl,q⟩:=h
    refine⟨_,(aj (cc (cC (cu (ao ay rfl am (by decide +kernel) (ad (pv 0) (ad (bp (v:=.ty "str") (u:=.type "str") rfl du (by decide +kernel) rfl) ae)))))
        d9 aX)
      (aj (gM (dt PySem.F.plainAttrs_str PySem.F.slot_str_split PySem.F.type_str_split gq (pv 0) (ad ar ae)) (mO rfl (aM (ax (i:=1) sc_read_house.nd rfl (Or.inl rfl)) (aM (ax (i:=2) sc_read_house.nd rfl (Or.inl rfl)) cz))))
      (aj (aS (i:=3) sc_read_house.nd rfl (Or.inl rfl) (cD (ad (al cI (hr.mono (show 1<=7 by decide)) rfl c_split_keys.mg c_split_keys.kp c_split_keys.b .nil aG (ad (pv 1) ae)) (ad (gg (tg:=.Name "line" _) (outer:=ag (bi)) (N:=["text","first","lines","house"]) (N':=["line"]) (nl:=1) (ix:=[]) rfl rfl rfl (cy (pv 2))
        (fun C fp s₀ H₀=>(ax (i:=0) eN rfl (Or.inl rfl) (.inr rfl))) (fun C fp s₀ H₀=>b5)
        (fun C fp s₀ H₀=>(al ig (hr.mono (show 2<=7 by decide)) rfl c_split_room.mg c_split_room.kp c_split_room.b .nil aG (ad (pv 0) ae)))) ae))))
      (aj (cc (PW.pt (fq (cC (cu (al jJ (hr.mono (show 5<=7 by decide)) rfl c_is_house.mg c_is_house.kp c_is_house.b .nil aG (ad (pv 3) ae)))) (dE (aT gr (al cg hr rfl c_show_house.mg c_show_house.kp c_show_house.b .nil aG (ad (pv 3) ae)) (pv 0) (aN _)))))
        d9 aX)
      (aq (aA (pv 3))))))),?_⟩
    have lim:10000<=sizeLine:=by decide
    have len:=gU hl
    have rl:=hl.rl
    refine⟨_,rfl,_,_,_,true,rfl,.str _,bY K _,true,rfl,?_⟩
    refine dM ?_
    refine⟨_,rfl,rfl,_,cNl,rfl,rfl,by rw [kM];rfl,by omega,fun l nl=>?_⟩
    rw [o3 hl.ok]
    have s1:Same H (upd H l (.lst ((aR h.1::h.2.map bM).map V.str))):=ai nl
    have e1:(upd H l (.lst ((aR h.1::h.2.map bM).map V.str))) l=some (.lst ((aR h.1::h.2.map bM).map V.str)):=af
    generalize upd H l (.lst ((aR h.1::h.2.map bM).map V.str))=H1 at *
    refine⟨l,.str (aR h.1),(h.2.map bM).map V.str,rfl,SqL.of e1,by rw [List.length_map,List.length_map];omega,fun l2 n2=>?_⟩
    have s2:Same H1 (upd H1 l2 (.lst ((h.2.map bM).map V.str))):=ai n2
    have e2:(upd H1 l2 (.lst ((h.2.map bM).map V.str))) l2=some (.lst ((h.2.map bM).map V.str)):=af
    generalize upd H1 l2 (.lst ((h.2.map bM).map V.str))=H2 at *
    refine⟨_,_,rfl,_,_,rfl,rfl,?_⟩
    refine⟨_,rfl,h.1,rfl,hl.ok.kk,hl.kl,fun l3 n3=>?_⟩
    have s3:Same H2 (upd H2 l3 (.lst ((aK h.1).map V.str))):=ai n3
    have e3:(upd H2 l3 (.lst ((aK h.1).map V.str))) l3=some (.lst ((aK h.1).map V.str)):=af
    generalize upd H2 l3 (.lst ((aK h.1).map V.str))=H3 at *
    dsimp only [fm,lc]
    refine bo _ _ _ _ _ _ _ _ _ ?_
    have e23:=s3 _ _ e2
    refine⟨_,rfl,l2,rfl,⟨_,SqL.of e23⟩,?_⟩
    intro D nD
    refine b8 (xs:=(h.2.map bM).map V.str) (fun i ys H4=>∃ L:List (Addr×Addr×Addr),i<=1000/\L.length=i/\ys=L.map (fun x=>V.ref x.1)/\(∀ (j:Nat) (x:Addr×Addr×Addr) (r:Rm),L[j]? = some x->h.2[j]? = some r->hid [D] H4 x.1=some (.tup [.ref x.2.1,.ref x.2.2])/\hid [D] H4 x.2.1=some (.lst ((fx r).1.map V.str))/\hid [D] H4 x.2.2=some (.lst ((fx r).2.map V.str)))/\(ce L).Nodup/\(∀ b∈ce L,H3 b=none/\∃ u,H4 b=some u)/\(∀ b∈ce L,b≠D)/\H4 D=some (.lst ys)/\Same H3 H4) ⟨[],by decide,rfl,rfl,(fun j x r e=>by simp at e),.nil,(fun b hb=>nomatch hb),(fun b hb=>nomatch hb),af,ai nD⟩ (fun i ys H4 ⟨_,_,_,_,_,_,_,_,h,_⟩=>h) (fun i ys H4 ⟨_,_,_,_,_,_,_,_,_,sm⟩=>SqL.of (sm l2 _ e23)) ?_ ?_
    · rintro i ys H4 x hx ⟨L,hi0,hyl,rfl,hs,nd,fr,nDs,hD4,sm⟩
      have hi:i < ((h.2.map bM).map V.str).length:=(List.getElem?_eq_some_iff.mp hx).1
      have hi':i < h.2.length:=by rw [List.length_map,List.length_map] at hi;exact hi
      have er:h.2[i]? = some h.2[i]:=List.getElem?_eq_getElem hi'
      rw [List.getElem?_map,List.getElem?_map,er] at hx
      cases hx
      have mi:=List.getElem_mem hi'
      refine bU rfl ?_
      refine⟨_,rfl,h.2[i],rfl,⟨hl.ok.rs _ mi,hl.wl _ mi⟩,fun tn l4 l5 H5 s5 nt n4 n5 n45 g0 g1 g2=>?_⟩
      have od:∀ {b:Addr},H4 b=none->b ∉ [D]:=fun n z=>by rw [List.mem_singleton.mp z,hD4] at n;cases n
      have up:Same (hid [D] H5) (hid [D] (upd H5 D (.lst (L.map (fun x=>V.ref x.1)++[.ref tn])))):=ji List.mem_cons_self
      have up4:Same (hid [D] H4) (hid [D] (upd H5 D (.lst (L.map (fun x=>V.ref x.1)++[.ref tn])))):=(jg fun b u _ e=>s5 b u e).trans up
      have ef:ce (L++[(tn,l4,l5)])=ce L++[l4,l5]:=by unfold ce;rw [List.flatMap_append];rfl
      have q1:=aZ (od nt) g0
      have q2:=aZ (od n4) g1
      have q3:=aZ (od n5) g2
      have o4:∀ b∈ce L,b≠l4/\b≠l5:=fun b hb=>by
        obtain⟨_,u,e⟩:=fr b hb
        exact⟨ah e n4,ah e n5⟩
      refine⟨s5 D _ hD4,by rw [List.length_map,hyl];exact bt (by omega),nx hi ⟨L++[(tn,l4,l5)],by omega,by rw [List.length_append,hyl];rfl,by rw [List.map_append];rfl,fun j x r e1 e2=>?_,?_,fun b hb=>?_,fun b hb=>?_,af,fun b u e=>?_⟩⟩
      · by_cases hj:j < L.length
        · rw [List.getElem?_append_left hj] at e1
          obtain⟨z1,z2,z3⟩:=hs j x r e1 e2
          exact⟨up4 _ _ z1,up4 _ _ z2,up4 _ _ z3⟩
        · have hjl:j < (L++[(tn,l4,l5)]).length:=(List.getElem?_eq_some_iff.mp e1).1
          rw [List.length_append,List.length_singleton] at hjl
          have ej:j=L.length:=by omega
          subst ej
          rw [List.getElem?_append_right (Nat.le_refl _),Nat.sub_self] at e1
          cases e1
          rw [hyl,er] at e2
          cases e2
          exact⟨up _ _ q1,up _ _ q2,up _ _ q3⟩
      · rw [ef,List.nodup_append]
        refine⟨nd,?_,fun b hb c hc=>?_⟩
        · rw [List.nodup_cons]
          exact⟨fun z=>n45 (List.mem_singleton.mp z),by simp⟩
        · rcases List.mem_cons.mp hc with y | y
          · rw [y];exact (o4 b hb).1
          · rw [List.mem_singleton.mp y];exact (o4 b hb).2
      · rw [ef] at hb
        have st:∀ {b:Addr} {u:HO},b≠D->H5 b=some u->∃ u,(upd H5 D (.lst (L.map (fun x=>V.ref x.1)++[.ref tn]))) b=some u:=fun n e=>⟨_,by rw [au n];exact e⟩
        rcases List.mem_append.mp hb with y | y
        · obtain⟨f1,u,e⟩:=fr b y
          exact⟨f1,st (nDs b y) (s5 _ _ e)⟩
        · rcases List.mem_cons.mp y with y | y
          · rw [y];exact⟨sm.free n4,st (fun z=>od n4 (List.mem_singleton.mpr z)) g1⟩
          · rw [List.mem_singleton.mp y];exact⟨sm.free n5,st (fun z=>od n5 (List.mem_singleton.mpr z)) g2⟩
      · rw [ef] at hb
        rcases List.mem_append.mp hb with y | y
        · exact nDs b y
        · rcases List.mem_cons.mp y with y | y
          · rw [y];exact fun z=>od n4 (List.mem_singleton.mpr z)
          · rw [List.mem_singleton.mp y];exact fun z=>od n5 (List.mem_singleton.mpr z)
      · rw [au (ah e nD)]
        exact s5 b u (sm b u e)
    · rintro ys H4 ⟨L,_,hyl,rfl,hs,nd,fr,nDs,hD4,sm⟩
      rw [show ((h.2.map bM).map V.str).length=h.2.length by rw [List.length_map,List.length_map]] at hyl
      refine⟨by show 2<=sizeLine;decide,fun tn nt=>?_⟩
      have s5:Same H4 (upd H4 tn (.tup [.ref l3,.ref D])):=ai nt
      have hd5:Same (hid [D] H4) (upd H4 tn (.tup [.ref l3,.ref D])):=hid_same.trans s5
      have l3D:l3≠D:=ah e3 nD
      have l3f:∀ b∈ce L,l3≠b:=fun b hb z=>by have:=(fr b hb).1;rw [← z,e3] at this;cases this
      have hap:Apart H (upd H4 tn (.tup [.ref l3,.ref D])) (.ref tn) (eZ h):=by
        refine⟨tn,l3,D,L,rfl,af,s5 _ _ (sm _ _ e3),s5 _ _ hD4,by rw [hyl];show _=(h.2.map fx).length;rw [List.length_map],fun i x r a b=>?_,?_,fun b hb=>?_⟩
        · have b':(h.2.map fx)[i]? = some r:=b
          rw [List.getElem?_map] at b'
          obtain⟨q0,hq,rfl⟩:=Option.map_eq_some_iff.mp b'
          obtain⟨z1,z2,z3⟩:=hs i x q0 a hq
          exact⟨hd5 _ _ z1,hd5 _ _ z2,hd5 _ _ z3⟩
        · rw [List.nodup_cons,List.nodup_cons]
          refine⟨fun z=>?_,fun z=>nDs D z rfl,nd⟩
          rcases List.mem_cons.mp z with y | y
          · exact l3D y
          · exact l3f l3 y rfl
        · rcases List.mem_cons.mp hb with y | y
          · rw [y];exact (s1.trans s2).free n3
          rcases List.mem_cons.mp y with y | y
          · rw [y];exact (s1.trans (s2.trans s3)).free nD
          · exact (s1.trans (s2.trans s3)).free (fr b y).1
      have hh:=hap.at
      have S:Same H (upd H4 tn (.tup [.ref l3,.ref D])):=s1.trans (s2.trans (s3.trans (sm.trans s5)))
      generalize upd H4 tn (.tup [.ref l3,.ref D])=H5 at *
      have sok:=i5 hl
      refine⟨_,rfl,.ref tn,eZ h,rfl,hh,sok.ok,fun H6 s6=>⟨true,rfl,dM ?_⟩⟩
      refine⟨_,rfl,.ref tn,eZ h,rfl,hh.same s6,sok,fun H7 s7=>?_⟩
      rw [jM]
      refine⟨_,rfl,rfl,_,rfl,jR (fun z=>absurd z (by simp)) fun _=>?_⟩
      exact⟨_,rfl,q _ H7 (S.trans (s6.trans s7)) (hap.same (s6.trans s7))⟩
end
end K7
namespace L2
open PySem PySem.Spec PyProof.Rows
def pL (K:PySem.W.Frag):R2:=fun x y H Q=>oS K x y H Q\/pq K x y H Q
theorem kU {X:Cx}{K:PySem.W.Frag}(hK:X.K=K):IxR X (pL K):=by
  subst hK
  intro value slice pins s σ H x y v u Q I rx ry h e
  rcases h with h | h
  · exact bO value slice pins s σ H x y v u Q I rx ry h e
  · exact b6 value slice pins s σ H x y v u Q I rx ry h e
theorem Sees.on {H H':Hp}{v:V}{d:PyData}(s:Same H H')(x:Sees H v d):Sees H' v d:=Sees.same (fun b o e _=>s b o e) x
theorem SeesAll.get {H:Hp}:∀ {vs:List V} {ds:List PyData},SeesAll H vs ds->∀ {i:Nat} {d:PyData},ds[i]? = some d->∃ v,vs[i]? = some v/\Sees H v d
  | _,_,.nil,i,d,e=>by simp at e
  | _,_,.cons a b,0,d,e=>by cases e;exact⟨_,rfl,a⟩
  | _,_,.cons a b,i+1,d,e=>SeesAll.get b (by simpa using e)
end L2
namespace K7
open PySem L2 PyProof.Rows
def Tr:Nat->PyData->Prop
  | 0,d=>∃ x,d=.str x/\PyData.strOk x=true
  | n+1,d=>(∃ x,d=.str x/\PyData.strOk x=true)\/∃ ds,(d=.list ds\/d=.tuple ds)/\ds.length<=1000/\∀ e∈ds,Tr n e
def nW:Nat->Sp
  | 0=>fun _ _ _ _=>False
  | n+1=>fun vs H Q _=>∃ (x y:V) (d:PyData),vs=[x,y]/\Sees H x d/\Sees H y d/\Tr n d/\∀ H',Same H H'->Q (.bl true) H'
theorem m8 {P:Program}{w:World}{K:PySem.W.Frag}{mg:Str->Option Value}{base:Heap}{f:Addr}{fd:FuncData}:FnOk P w K mg base CX0 0 f fd ["found","due"] (nW 0):=by
  constructor
  · intro vs H Q E h
    exact h.elim
  · intros
    rename_i h
    first | exact h.elim | (exfalso;assumption)
section
variable {P:Program}{w:World}{K:PySem.W.Frag}{mg:Str->Option Value}{base:Heap}
theorem gv:aB ["found","due"] ["found","due"] (ag bg):=⟨rfl,rfl,rfl,by decide +kernel,rfl,by decide +kernel,by decide +kernel⟩
theorem fc:(["k","found","due"]:List Str).Nodup:=by decide +kernel
theorem j8 {f:Addr}{fd:FuncData}{n:Nat}(F:Fun K "_law_alike" "_law_alike" bg f fd)(cf:FnOk P w K mg base CX0 n f fd ["found","due"] (nW n))(c__law_alike:Cal K mg "_law_alike" ["found","due"] f fd)(eg:mg "bool" = none)(dh:mg "int" = none)(am:mg "isinstance" = none)(bL:mg "len" = none)(bP:mg "list" = none)(aD:mg "range" = none)(du:mg "str" = none)(ca:mg "tuple" = none):FnOk P w K mg base CX0 (n+1) f fd ["found","due"] (nW (n+1)):=by
  refine F.ok gv (fun vs H Q E h=>?_) (fun cdv A outer s H vs Q E hr h=>?_)
  · obtain⟨x,y,d,rfl,_⟩:=h
    rfl
  · obtain⟨x,y,d,rfl,hx,hy,tr,q⟩:=h
    have hu:=jx hr
    refine⟨_,(aj (cc (aT mG (pv 1) mr (aN _))
        (aq (aA (b9 mG (pv 0) mr (aN _)))) aX)
      (aj (cq (cc (PW.pt (fq (cu (ao ay rfl am (by decide +kernel) (ad (pv 1) (ad (bp (v:=.ty "tuple") (u:=.type "tuple") rfl ca (by decide +kernel) rfl) ae)))) (dE (cu (ao ay rfl am (by decide +kernel) (ad (pv 1) (ad (bp (v:=.ty "list") (u:=.type "list") rfl bP (by decide +kernel) rfl) ae)))))))
        (aj (cc (PW.pt (fq (aT gr (ao ay rfl am (by decide +kernel) (ad (pv 0) (ad (bp (v:=.ty "tuple") (u:=.type "tuple") rfl ca (by decide +kernel) rfl) ae))) (ao ay rfl am (by decide +kernel) (ad (pv 1) (ad (bp (v:=.ty "tuple") (u:=.type "tuple") rfl ca (by decide +kernel) rfl) ae))) (aN _)) (dE (aT gr (ao ay rfl am (by decide +kernel) (ad (pv 0) (ad (bp (v:=.ty "list") (u:=.type "list") rfl bP (by decide +kernel) rfl) ae))) (ao ay rfl am (by decide +kernel) (ad (pv 1) (ad (bp (v:=.ty "list") (u:=.type "list") rfl bP (by decide +kernel) rfl) ae))) (aN _)))))
          (aq (aA gZ)) aX)
        (aj (cc (aT gr (ao aC rfl bL PySem.boot_len (ad (pv 0) ae)) (ao aC rfl bL PySem.boot_len (ad (pv 1) ae)) (aN _))
          (aq (aA gZ)) aX)
        (aq (aA (b9 eX (gg (tg:=.Name "k" _) (outer:=ag (bg)) (N:=["found","due"]) (N':=["k","found","due"]) (nl:=1) (ix:=[0,1]) rfl rfl rfl (bz rfl aD (ad (ao aC rfl bL PySem.boot_len (ad (pv 1) ae)) ae))
        (fun C fp s₀ H₀=>(ax (i:=0) fc rfl (Or.inl rfl) (.inr rfl))) (fun C fp s₀ H₀=>(kt (cC (cu (al cf hr rfl c__law_alike.mg c__law_alike.kp c__law_alike.b .nil aG (ad (bv (kU (K:=K) rfl) (pv 1) (pv 0) (fun _ _=>rfl)) (ad (bv (kU (K:=K) rfl) (pv 2) (pv 0) (fun _ _=>rfl)) ae)))))))
        (fun C fp s₀ H₀=>(pv 0))) iT (aN _)))))) aX))
      (aj (cc (cu (ao ay rfl am (by decide +kernel) (ad (pv 1) (ad (bp (v:=.ty "str") (u:=.type "str") rfl du (by decide +kernel) rfl) ae))))
        (aq (aA (cJ (ao ay rfl am (by decide +kernel) (ad (pv 0) (ad (bp (v:=.ty "str") (u:=.type "str") rfl du (by decide +kernel) rfl) ae))) (fX (b9 eX (pv 0) (pv 1) (aN _)))))) aX)
      (aq (aA (cJ (ao ay rfl am (by decide +kernel) (ad (pv 0) (ad (bp (v:=.ty "int") (u:=.type "int") rfl dh (by decide +kernel) rfl) ae))) (cJ (nK (ao ay rfl am (by decide +kernel) (ad (pv 0) (ad (bp (v:=.ty "bool") (u:=.type "bool") rfl eg (by decide +kernel) rfl) ae)))) (fX (b9 eX (pv 0) (pv 1) (aN _)))))))))),?_⟩
    have ts:(∃ x,d=.str x/\PyData.strOk x=true)\/∃ ds,(d=.list ds\/d=.tuple ds)/\ds.length<=1000/\∀ (e:PyData) (H1:Hp) (x y:V) (Q1:VK),e∈ds->Sees H1 x e->Sees H1 y e->(∀ H',Same H1 H'->Q1 (.bl true) H')->nW n [x,y] H1 Q1 E0:=by
      cases n with
      | zero=>exact .inl tr
      | succ m =>
        rcases tr with z | ⟨ds,a,b,c⟩
        · exact .inl z
        · exact .inr ⟨ds,a,b,fun e H1 x y Q1 he h1 h2 k=>⟨x,y,e,rfl,h1,h2,c e he,k⟩⟩
    rcases ts with ⟨z,rfl,zo⟩ | ⟨ds,hd,dl,rec⟩
    · cases hx
      cases hy
      refine⟨_,rfl,rfl,false,rfl,dM ?_⟩
      refine⟨fun σ' H'=>σ'=[some (.str z),some (.str z)]/\H'=H,?_,?_⟩
      · rintro σ' H' ⟨rfl,rfl⟩
        refine⟨_,rfl,_,_,_,true,rfl,.str z,bY K _,true,rfl,ip ?_⟩
        refine⟨_,rfl,_,_,_,true,rfl,.str z,bY K _,true,rfl,ip ?_⟩
        refine⟨_,rfl,_,rfl,.str z,.str z,.str z,.str z,zo,zo,?_,?_⟩
        · exact Nat.lt_of_le_of_lt (Nat.add_le_add_left (Nat.zero_le 1) _) hu
        · have e:PyData.eqv (.str z) (.str z)=true:=by simp [PyData.eqv]
          rw [e]
          exact q _ (Same.refl _)
      · refine⟨_,rfl,_,_,_,false,rfl,.str z,rfl,false,rfl,dM ?_⟩
        exact⟨_,rfl,_,_,_,false,rfl,.str z,rfl,false,rfl,dM ⟨rfl,rfl⟩⟩
    rcases hd with rfl | rfl
    · cases hx with | @lst a vs _ ha sa=>?_
      cases hy with | @lst b us _ hb sb=>?_
      have lv:=sa.length
      have lu:=sb.length
      refine⟨_,rfl,rfl,false,rfl,dM ?_⟩
      refine⟨fun σ' H'=>False,fun _ _ h=>h.elim,?_⟩
      refine⟨_,rfl,_,_,_,false,rfl,.lst hb,rfl,false,rfl,dM ?_⟩
      refine⟨_,rfl,_,_,_,true,rfl,.lst hb,rfl,true,rfl,ip ?_⟩
      refine⟨_,rfl,_,_,_,false,rfl,.lst ha,rfl,_,rfl,_,_,_,false,rfl,.lst hb,rfl,rfl,false,rfl,dM ?_⟩
      refine⟨_,rfl,_,_,_,true,rfl,.lst ha,rfl,_,rfl,_,_,_,true,rfl,.lst hb,rfl,rfl,false,rfl,dM ?_⟩
      refine⟨_,rfl,a,_,rfl,.inl (SqL.of ha),_,rfl,b,_,rfl,.inl (SqL.of hb),rfl,false,by rw [lv,lu];simp,dM ?_⟩
      dsimp only [jA,lg,tOp]
      refine bo _ _ _ _ _ _ _ _ _ ?_
      refine⟨_,rfl,b,_,rfl,.inl (SqL.of hb),_,rfl,by omega,by omega,?_⟩
      intro D nD
      rw [Int.toNat_natCast,lu]
      refine cm (fun i ys H2=>ys=[]/\H2 D=some (.lst ys)/\Same H H2) ⟨rfl,af,ai nD⟩ (fun i ys H2 ⟨_,h,_⟩=>h) ?_ ?_
      · rintro i ys H2 hi ⟨rfl,hD,sm⟩
        have ed:ds[i]? = some ds[i]:=List.getElem?_eq_getElem hi
        obtain⟨v,ev,sv⟩:=sa.get ed
        obtain⟨u,eu,su⟩:=sb.get ed
        unfold bE cF
        refine⟨⟨by simp,rfl⟩,?_⟩
        refine⟨_,rfl,_,rfl,.inl ⟨a,_,_,v,rfl,rfl,SqL.of (sm _ _ ha),by rw [Int.zero_add];exact bN ev,?_⟩⟩
        refine⟨_,rfl,_,rfl,.inl ⟨b,_,_,u,rfl,rfl,SqL.of (sm _ _ hb),by rw [Int.zero_add];exact bN eu,?_⟩⟩
        refine rec _ H2 v u _ (List.getElem_mem hi) (sv.on sm) (su.on sm) fun H3 s3=>⟨true,rfl,?_⟩
        show (if (!true)=true then _ else _)
        rw [if_neg (by decide)]
        exact nx hi ⟨rfl,s3 _ _ hD,sm.trans s3⟩
      · rintro ys H2 ⟨rfl,hD,sm⟩
        refine⟨Nat.zero_le _,fun l0 n0=>?_⟩
        have s3:Same H2 (upd H2 l0 (.lst [])):=ai n0
        exact dA (ds:=[]) (s3 _ _ hD) .nil rfl af hu (q _ (sm.trans s3))
    · cases hx with | @tup a vs _ ha sa=>?_
      cases hy with | @tup b us _ hb sb=>?_
      have lv:=sa.length
      have lu:=sb.length
      refine⟨_,rfl,rfl,false,rfl,dM ?_⟩
      refine⟨fun σ' H'=>False,fun _ _ h=>h.elim,?_⟩
      refine⟨_,rfl,_,_,_,true,rfl,.tup hb,rfl,true,rfl,ip ?_⟩
      refine⟨_,rfl,_,_,_,true,rfl,.tup ha,rfl,_,rfl,_,_,_,true,rfl,.tup hb,rfl,rfl,false,rfl,dM ?_⟩
      refine⟨_,rfl,_,_,_,false,rfl,.tup ha,rfl,_,rfl,_,_,_,false,rfl,.tup hb,rfl,rfl,false,rfl,dM ?_⟩
      refine⟨_,rfl,a,_,rfl,.inr (SqT.of ha),_,rfl,b,_,rfl,.inr (SqT.of hb),rfl,false,by rw [lv,lu];simp,dM ?_⟩
      dsimp only [jA,lg,tOp]
      refine bo _ _ _ _ _ _ _ _ _ ?_
      refine⟨_,rfl,b,_,rfl,.inr (SqT.of hb),_,rfl,by omega,by omega,?_⟩
      intro D nD
      rw [Int.toNat_natCast,lu]
      refine cm (fun i ys H2=>ys=[]/\H2 D=some (.lst ys)/\Same H H2) ⟨rfl,af,ai nD⟩ (fun i ys H2 ⟨_,h,_⟩=>h) ?_ ?_
      · rintro i ys H2 hi ⟨rfl,hD,sm⟩
        have ed:ds[i]? = some ds[i]:=List.getElem?_eq_getElem hi
        obtain⟨v,ev,sv⟩:=sa.get ed
        obtain⟨u,eu,su⟩:=sb.get ed
        unfold bE cF
        refine⟨⟨by simp,rfl⟩,?_⟩
        refine⟨_,rfl,_,rfl,.inr ⟨a,_,_,v,rfl,rfl,SqT.of (sm _ _ ha),by rw [Int.zero_add];exact bN ev,?_⟩⟩
        refine⟨_,rfl,_,rfl,.inr ⟨b,_,_,u,rfl,rfl,SqT.of (sm _ _ hb),by rw [Int.zero_add];exact bN eu,?_⟩⟩
        refine rec _ H2 v u _ (List.getElem_mem hi) (sv.on sm) (su.on sm) fun H3 s3=>⟨true,rfl,?_⟩
        show (if (!true)=true then _ else _)
        rw [if_neg (by decide)]
        exact nx hi ⟨rfl,s3 _ _ hD,sm.trans s3⟩
      · rintro ys H2 ⟨rfl,hD,sm⟩
        refine⟨Nat.zero_le _,fun l0 n0=>?_⟩
        have s3:Same H2 (upd H2 l0 (.lst [])):=ai n0
        exact dA (ds:=[]) (s3 _ _ hD) .nil rfl af hu (q _ (sm.trans s3))
end
def iq:Sp:=fun vs H Q _=>∃ (a:Addr) (ks:List Str),vs=[.ref a]/\H a=some (.lst (ks.map V.str))/\(∀ k∈ks,aJ k)/\ks.length<=400/\∀ H',Same H H'->Q (.str (aR ks)) H'
def iK:Sp:=fun vs H Q _=>∃ (v:V) (h:Hs),vs=[v]/\HouseAt H v h/\dL h/\∀ (l:Addr) (H':Hp),Same H H'->H' l=some (.lst ((aR h.1::h.2.map bM).map V.str))->Q (.ref l) H'
section
variable {P:Program}{w:World}{K:PySem.W.Frag}{mg:Str->Option Value}{base:Heap}
theorem di:aB ["keys"] ["keys"] (ag aF):=⟨rfl,rfl,rfl,by decide +kernel,rfl,by decide +kernel,by decide +kernel⟩
theorem sc__law_lines:aB ["house","lines","locks","keys"] ["house"] (ag bw):=⟨rfl,rfl,rfl,by decide +kernel,rfl,by decide +kernel,by decide +kernel⟩
theorem lx {f:Addr}{fd:FuncData}(F:Fun K "_law_keys_written" "_law_keys_written" aF f fd)(bn:mg "sorted" = none)(dh:mg "int" = none):FnOk P w K mg base CX0 1 f fd ["keys"] iq:=by
  refine F.ok di (fun vs H Q E h=>?_) (fun cdv A outer s H vs Q E hr h=>?_)
  · obtain⟨a,ks,rfl,_⟩:=h
    rfl
  · obtain⟨a,ks,rfl,ha,kk,kl,q⟩:=h
    have hu:=jx hr
    refine⟨_,(aq (aA (dt PySem.F.plainAttrs_str PySem.F.slot_str_join PySem.F.type_str_join dP ar (ad (aV fI (ao ci rfl bn boot_sorted (ad (pv 0) ae)) (aV oh (bT (ad ar ae)) (bR eC rfl dh (by decide +kernel) (ad (b9 eX (pv 0) iT (aN _)) ae)))) ae)))),?_⟩
    have lim:1000<=sizeLine:=by decide
    refine⟨rfl,_,rfl,a,ks,rfl,SqL.of ha,by omega,fun l1 ss' n1 pm so=>?_⟩
    rw [gy pm so]
    have s1:Same H (upd H l1 (.lst ((aK ks).map V.str))):=ai n1
    have e1:(upd H l1 (.lst ((aK ks).map V.str))) l1=some (.lst ((aK ks).map V.str)):=af
    generalize upd H l1 (.lst ((aK ks).map V.str))=H1 at *
    refine⟨by show 1<=sizeLine;decide,fun l2 n2=>?_⟩
    have s2:Same H1 (upd H1 l2 (.lst [.str cDa])):=ai n2
    have e2:(upd H1 l2 (.lst [.str cDa])) l2=some (.lst [.str cDa]):=af
    generalize hH2:upd H1 l2 (.lst [.str cDa])=H2 at *
    have hH2':upd H1 l2 (.lst [V.str (Str.ofString "-")])=H2:=hH2
    rw [hH2']
    refine⟨_,rfl,Nat.zero_le _,fun l3 n3=>?_⟩
    have s3:Same H2 (upd H2 l3 (.lst [])):=ai n3
    have e3:(upd H2 l3 (.lst [])) l3=some (.lst []):=af
    generalize upd H2 l3 (.lst [])=H3 at *
    have S3:Same H H3:=s1.trans (s2.trans s3)
    refine dA (S3 _ _ ha) (SeesAll.strs _) (dd kk) e3 hu (.inr ⟨_,rfl,?_⟩)
    obtain⟨c,ec,hc⟩:∃ c:Nat,(if (ks.map V.str).isEmpty=true then (1:Int) else 0)=(c:Int)/\c=if ks=[] then 1 else 0:=by
      cases ks with
      | nil=>exact⟨1,rfl,rfl⟩
      | cons _ _=>exact⟨0,rfl,by simp⟩
    have c1:c<=1:=by rw [hc];split<;>omega
    refine⟨l2,(c:Int),[.str cDa],rfl,congrArg V.int ec,s3 _ _ e2,by omega,by omega,by rw [Int.toNat_natCast];show 1 * c<=sizeLine;omega,fun l4 n4=>?_⟩
    rw [Int.toNat_natCast]
    have s4:Same H3 (upd H3 l4 (.lst (List.replicate c [V.str cDa]).flatten)):=ai n4
    have e4:(upd H3 l4 (.lst (List.replicate c [V.str cDa]).flatten)) l4=some (.lst (List.replicate c [V.str cDa]).flatten):=af
    generalize upd H3 l4 (.lst (List.replicate c [V.str cDa]).flatten)=H4 at *
    have fl:(List.replicate c [V.str cDa]).flatten=(List.replicate c cDa).map V.str:=by
      rcases (show c=0\/c=1 by omega) with z | z<;>rw [z]<;>rfl
    rw [fl] at e4
    have sl:=bA ks
    refine⟨l1,l4,_,_,rfl,rfl,s4 _ _ (s3 _ _ (s2 _ _ e1)),e4,by rw [List.length_map,List.length_map,List.length_replicate];omega,fun l5 n5=>?_⟩
    rw [← List.map_append]
    have b:=bS fun k hk=>kk k (sortS_mem.mp hk)
    have cb:cBl.length=1:=by rw [fk];rfl
    have cd:cDa.length=1:=by rw [jr];rfl
    refine⟨cBl,l5,aK ks++List.replicate c cDa,rfl,rfl,SqL.of af,?_,?_⟩
    · rw [List.map_append,List.sum_append,List.length_append,List.length_replicate,cb,List.map_replicate,List.sum_replicate_nat,cd]
      omega
    · have z:=q _ (S3.trans (s4.trans (ai (o:=.lst ((aK ks++List.replicate c cDa).map V.str)) n5)))
      have e:Txt.join cBl (aK ks++List.replicate c cDa)=aR ks:=by
        unfold aR
        by_cases k0:ks=[]
        · rw [hc,if_pos k0,if_pos k0,k0,eW,lF]
          exact df _ _
        · rw [hc,if_neg k0,if_neg k0]
          simp
      rw [e]
      exact z
theorem lj {f fS:Addr}{fd fdS:FuncData}(F:Fun K "_law_lines" "_law_lines" bw f fd)(b7:FnOk P w K mg base CX0 1 fS fdS ["keys"] iq)(c__law_keys_written:Cal K mg "_law_keys_written" ["keys"] fS fdS):FnOk P w K mg base CX0 2 f fd ["house"] iK:=by
  refine F.ok sc__law_lines (fun vs H Q E h=>?_) (fun cdv A outer s H vs Q E hr h=>?_)
  · obtain⟨v,h,rfl,_⟩:=h
    rfl
  · obtain⟨v,h,rfl,hh,hl,q⟩:=h
    refine⟨_,(aj (aS (i:=1) sc__law_lines.nd rfl (Or.inl rfl) (bT (ad (al b7 hr rfl c__law_keys_written.mg c__law_keys_written.kp c__law_keys_written.b .nil aG (ad (bv b6 (pv 0) ak (fun _ _=>rfl)) ae)) ae)))
      (aj (cq (fi PassesOwn.never rfl (cy (bv b6 (pv 0) ak (fun _ _=>rfl))) (eB rfl (aM (ax (i:=2) sc__law_lines.nd rfl (Or.inl rfl)) (aM (ax (i:=3) sc__law_lines.nd rfl (Or.inl rfl)) cz)))
        (aq (dQ (dt PySem.F.plainAttrs_list PySem.F.slot_list_append PySem.F.type_list_append cn (pv 1) (ad (aV cp (aV cp (dt PySem.F.plainAttrs_str PySem.F.slot_str_join PySem.F.type_str_join dP ar (ad (pv 2) ae)) ar) (al b7 hr rfl c__law_keys_written.mg c__law_keys_written.kp c__law_keys_written.b .nil aG (ad (pv 3) ae))) ae))))))
      (aq (aA (pv 1))))),?_⟩
    have lim:10000<=sizeLine:=by decide
    obtain⟨t,a,r,vs,rfl,ht,ha,hrr,hR⟩:=hh
    have hlen:=hR.1
    have rl:=hl.rl
    refine⟨_,rfl,t,_,0,.ref a,rfl,rfl,SqT.of ht,rfl,a,h.1,rfl,ha,hl.ok.kk,hl.kl,fun H1 s1=>⟨by show 1<=sizeLine;decide,fun l nl=>?_⟩⟩
    have s2:Same H1 (upd H1 l (.lst [.str (aR h.1)])):=ai nl
    have e2:(upd H1 l (.lst [.str (aR h.1)])) l=some (.lst [.str (aR h.1)]):=af
    have nl0:=s1.free nl
    generalize upd H1 l (.lst [.str (aR h.1)])=H2 at *
    have S2:=s1.trans s2
    refine⟨fun σ' H'=>∃ x2 x3,σ'=[some (.ref t),some (.ref l),x2,x3]/\Same H H'/\H' l=some (.lst ((aR h.1::h.2.map bM).map V.str)),?_,?_⟩
    · rintro σ' H' ⟨x2,x3,rfl,sm,e⟩
      exact⟨_,rfl,q l H' sm e⟩
    refine⟨_,rfl,t,_,1,.ref r,rfl,rfl,SqT.of (S2 _ _ ht),rfl,r,rfl,⟨_,SqL.of (S2 _ _ hrr)⟩,?_⟩
    refine ja (xs:=vs) (fun i σ' H'=>∃ x2 x3,σ'=[some (.ref t),some (.ref l),x2,x3]/\Same H H'/\H' l=some (.lst ((aR h.1::(h.2.take i).map bM).map V.str))) ⟨_,_,rfl,S2,e2⟩ (fun i σ' H' _ ⟨_,_,_,sm,_⟩=>SqL.of (sm _ _ hrr)) ?_ (fun σ' H' ⟨x2,x3,e,sm,z⟩=>⟨x2,x3,e,sm,by rw [hlen,List.take_length] at z;exact z⟩)
    rintro i x σ' H3 hx ⟨x2,x3,rfl,sm,e3⟩
    have hi:i < vs.length:=(List.getElem?_eq_some_iff.mp hx).1
    have hi':i < h.2.length:=by omega
    have er:h.2[i]? = some h.2[i]:=List.getElem?_eq_getElem hi'
    obtain⟨tt,aa,bb,rfl,g1,g2,g3⟩:=(hR.2 i x _ hx er).same sm
    have mi:=List.getElem_mem hi'
    have rok:=hl.ok.rs _ mi
    have wl:=hl.wl _ mi
    have tk:h.2.take (i+1)=h.2.take i++[h.2[i]]:=by rw [List.take_succ,er];rfl
    rw [tk]
    generalize h.2[i]=rm at *
    have l4:=rok.l4
    have c1:cPl.length=1:=by rw [dU];rfl
    have c2:cCo.length=2:=by rw [dF];rfl
    have k1:=bS rok.lk
    have k2:=cZ cPl rm.1
    have k3:=cP rok.kk
    have k4:(Txt.join cPl rm.1++cCo).length=(Txt.join cPl rm.1).length+2:=by
      have el:∀ s:Str,s.length=s.cps.toList.length:=fun s=>Array.length_toList.symm
      rw [el,aI,List.length_append,← el,← el,c2]
    rw [c1] at k2
    refine⟨tt,_,rfl,SqT.of g1,rfl,_,_,rfl,_,_,rfl,rfl,?_⟩
    refine⟨_,rfl,.inl ⟨rfl,_,SqL.of e3⟩,rfl,_,rfl,cPl,aa,rm.1,rfl,rfl,SqL.of g2,by rw [c1];omega,_,cCo,rfl,rfl,by omega,?_⟩
    refine⟨_,rfl,bb,rm.2,rfl,g3,rok.kk,wl,fun H4 s4=>⟨_,_,rfl,rfl,by omega,l,_,_,rfl,rfl,s4 _ _ e3,by rw [List.length_map,List.length_cons,List.length_map,List.length_take];omega,?_⟩⟩
    refine⟨_,_,rfl,fun b u e=>by rw [au (ah e nl0)];exact s4 b u (sm b u e),?_⟩
    rw [af,List.map_append,← List.cons_append,List.map_append]
    rfl
end
def Cont (H:Hp)(As:List Addr)(cs:List (List V)):Prop:=As.length=cs.length/\∀ (i:Nat) (a:Addr) (c:List V),As[i]? = some a->cs[i]? = some c->H a=some (.lst c)
theorem Cont.same {H H':Hp}{As:List Addr}{cs:List (List V)}(x:Cont H As cs)(s:Same H H'):Cont H' As cs:=⟨x.1,fun i a c e1 e2=>s _ _ (x.2 i a c e1 e2)⟩
theorem Cont.nil {H:Hp}:Cont H [] []:=⟨rfl,fun i a c e=>by simp at e⟩
theorem Cont.cons {H:Hp}{As:List Addr}{cs:List (List V)}{a:Addr}{c:List V}(h:H a=some (.lst c))(x:Cont H As cs):Cont H (a::As) (c::cs):=⟨by rw [List.length_cons,List.length_cons,x.1],fun i b d e1 e2=>by
  cases i with
  | zero=>cases e1;cases e2;exact h
  | succ i=>exact x.2 i b d (by simpa using e1) (by simpa using e2)⟩
theorem Cont.mem {H:Hp}{As:List Addr}{cs:List (List V)}(x:Cont H As cs){a:Addr}(h:a∈As):∃ c,H a=some (.lst c):=by
  obtain⟨i,e⟩:=List.mem_iff_getElem?.mp h
  have hi:i < As.length:=(List.getElem?_eq_some_iff.mp e).1
  have hc:i < cs.length:=by rw [← x.1];exact hi
  exact⟨_,x.2 i a _ e (List.getElem?_eq_getElem hc)⟩
theorem fT {H:Hp}:∀ {L:List (Addr×Addr×Addr)} {rs:List Rm},L.length=rs.length->(∀ (i:Nat) (x:Addr×Addr×Addr) (r:Rm),L[i]? = some x->rs[i]? = some r->H x.1=some (.tup [.ref x.2.1,.ref x.2.2])/\H x.2.1=some (.lst (r.1.map V.str))/\H x.2.2=some (.lst (r.2.map V.str)))->Cont H (ce L) (rs.flatMap fun r=>[r.1.map V.str,r.2.map V.str])
  | [],[],_,_=>.nil
  | [],_::_,h,_=>by simp at h
  | _::_,[],h,_=>by simp at h
  | x::L,r::rs,h,k=>by
    obtain⟨_,h2,h3⟩:=k 0 x r rfl rfl
    exact .cons h2 (.cons h3 (fT (by simpa using h) fun i y q a b=>k (i+1) y q (by simpa using a) (by simpa using b)))
theorem jf (L:List (Addr×Addr×Addr)):(ce L).length=2 * L.length:=by
  induction L with
  | nil=>rfl
  | cons x L ih =>
    have e:ce (x::L)=x.2.1::x.2.2::ce L:=rfl
    rw [e,List.length_cons,List.length_cons,ih,List.length_cons]
    omega
def nv (H:Hp)(As:List Addr)(cs:List (List V))(n:Nat):Prop:=∀ (i:Nat) (a:Addr) (c:List V),As[i]? = some a->cs[i]? = some c->H a=some (.lst (if i < n then c++[.int (0+(i:Int))] else c))
def iU:Sp:=fun vs H Q _=>∃ (v:V) (H0:Hp) (h:Hs),vs=[v]/\Apart H0 H v h/\dL h/\Same H0 H/\∀ H',Same H0 H'->Q (.bl true) H'
section
variable {P:Program}{w:World}{K:PySem.W.Frag}{mg:Str->Option Value}{base:Heap}
theorem sc__law_apart:aB ["told","lists","locks","keys","kept","k"] ["told"] (ag aU):=⟨rfl,rfl,rfl,by decide +kernel,rfl,by decide +kernel,by decide +kernel⟩
theorem eS:(["one"]:List Str).Nodup:=by decide +kernel
theorem fj:(["k","lists","kept"]:List Str).Nodup:=by decide +kernel
theorem lD {f:Addr}{fd:FuncData}(F:Fun K "_law_apart" "_law_apart" aU f fd)(bP:mg "list" = none)(bL:mg "len" = none)(aD:mg "range" = none):FnOk P w K mg base CX0 1 f fd ["told"] iU:=by
  refine F.ok sc__law_apart (fun vs H Q E h=>?_) (fun cdv A outer s H vs Q E hr h=>?_)
  · obtain⟨v,H0,h,rfl,_⟩:=h
    rfl
  · obtain⟨v,H0,h,rfl,ap,hl,S0,q⟩:=h
    have hu:=jx hr
    refine⟨_,(aj (aS (i:=1) sc__law_apart.nd rfl (Or.inr rfl) (bT (ad (bv b6 (pv 0) ak (fun _ _=>rfl)) (ad (bv b6 (pv 0) ak (fun _ _=>rfl)) ae))))
      (aj (cq (fi PassesOwn.never rfl (cy (bv b6 (pv 0) ak (fun _ _=>rfl))) (eB rfl (aM (ax (i:=2) sc__law_apart.nd rfl (Or.inl rfl)) (aM (ax (i:=3) sc__law_apart.nd rfl (Or.inl rfl)) cz)))
        (aq (aS (i:=1) sc__law_apart.nd rfl (Or.inr rfl) (aV fI (pv 1) (bT (ad (pv 2) (ad (pv 3) ae))))))))
      (aj (aS (i:=4) sc__law_apart.nd rfl (Or.inr rfl) (gg (tg:=.Name "one" _) (outer:=ag (aU)) (N:=["told","lists","locks","keys","kept","k"]) (N':=["one"]) (nl:=1) (ix:=[]) rfl rfl rfl (cy (pv 1))
        (fun C fp s₀ H₀=>(ax (i:=0) eS rfl (Or.inl rfl) (.inr rfl))) (fun C fp s₀ H₀=>b5)
        (fun C fp s₀ H₀=>(bR (cT (K:=K) rfl) rfl bP (by decide +kernel) (ad (pv 0) ae)))))
      (aj (cq (fi PassesOwn.never rfl (bz rfl aD (ad (ao aC rfl bL PySem.boot_len (ad (pv 1) ae)) ae)) (ax (i:=5) sc__law_apart.nd rfl (Or.inl rfl))
        (aq (dQ (dt PySem.F.plainAttrs_list PySem.F.slot_list_append PySem.F.type_list_append cn (bv bO (pv 1) (pv 5) (fun _ _=>rfl)) (ad (pv 5) ae))))))
      (aq (aA (b9 eX (gg (tg:=.Name "k" _) (outer:=ag (aU)) (N:=["told","lists","locks","keys","kept","k"]) (N':=["k","lists","kept"]) (nl:=1) (ix:=[1,4]) rfl rfl rfl (bz rfl aD (ad (ao aC rfl bL PySem.boot_len (ad (pv 1) ae)) ae))
        (fun C fp s₀ H₀=>(ax (i:=0) fj rfl (Or.inl rfl) (.inr rfl))) (fun C fp s₀ H₀=>(kt (PW.pt (fq (aT gr (ao (gG (K:=K) rfl) rfl bL PySem.boot_len (ad (bv (dz (K:=K) rfl) (pv 1) (pv 0) (fun _ _=>rfl)) ae)) (aV cE (ao (gG (K:=K) rfl) rfl bL PySem.boot_len (ad (bv (dz (K:=K) rfl) (pv 2) (pv 0) (fun _ _=>rfl)) ae)) ak) (aN _)) (dE (aT gr (bv (dz (K:=K) rfl) (bv (dz (K:=K) rfl) (pv 1) (pv 0) (fun _ _=>rfl)) (oe mB ak) (fun _ _=>rfl)) (pv 0) (aN _)))))))
        (fun C fp s₀ H₀=>(pv 0))) iT (aN _)))))))),?_⟩
    have lim:10000<=sizeLine:=by decide
    obtain⟨tn,kA,rA,L,rfl,h1,h2,h3,ll,hs,nd,fr⟩:=ap
    have rl:=hl.rl
    have kl:=hl.kl
    have ct:Cont H (kA::rA::ce L) ((h.1.map V.str)::(L.map fun x=>V.ref x.1)::h.2.flatMap fun r=>[r.1.map V.str,r.2.map V.str]):=.cons h2 (.cons h3 (fT ll hs))
    refine⟨_,rfl,tn,_,0,.ref kA,rfl,rfl,SqT.of h1,rfl,_,rfl,tn,_,1,.ref rA,rfl,rfl,SqT.of h1,rfl,by show 2<=sizeLine;decide,fun l nl=>?_⟩
    have s1:Same H (upd H l (.lst [.ref kA,.ref rA])):=ai nl
    have e1:(upd H l (.lst [.ref kA,.ref rA])) l=some (.lst [.ref kA,.ref rA]):=af
    generalize upd H l (.lst [.ref kA,.ref rA])=H1 at *
    refine⟨fun σ' H'=>∃ l x2 x3,σ'=[some (.ref tn),some (.ref l),x2,x3,none,none]/\Same H H'/\H l=none/\H' l=some (.lst ((kA::rA::ce L).map V.ref)),?_,?_⟩
    · rintro σ' H2 ⟨l,x2,x3,rfl,s2,nl,e2⟩
      have len:(kA::rA::ce L).length<=202:=by rw [List.length_cons,List.length_cons,jf];omega
      have clen:∀ c∈(h.1.map V.str)::(L.map fun x=>V.ref x.1)::h.2.flatMap (fun r=>[r.1.map V.str,r.2.map V.str]),c.length<=1000:=fun c hc=>by
        rcases List.mem_cons.mp hc with y | y
        · rw [y,List.length_map];omega
        rcases List.mem_cons.mp y with y | y
        · rw [y,List.length_map];omega
        · obtain⟨r,hr,y⟩:=List.mem_flatMap.mp y
          have rok:=hl.ok.rs r hr
          have wl:=hl.wl r hr
          have l4:=rok.l4
          rcases List.mem_cons.mp y with y | y
          · rw [y,List.length_map];omega
          · rw [List.mem_singleton.mp y,List.length_map];omega
      generalize (h.1.map V.str)::(L.map fun x=>V.ref x.1)::h.2.flatMap (fun r=>[r.1.map V.str,r.2.map V.str])=cs at *
      generalize hAs:kA::rA::ce L=As at *
      have ct2:=ct.same s2
      have lAs:l ∉ As:=fun z=>by obtain⟨c,e⟩:=ct.mem z;rw [nl] at e;cases e
      dsimp only [cF,oZ,oE]
      refine bo _ _ _ _ _ _ _ _ _ ?_
      refine⟨_,rfl,l,rfl,⟨_,SqL.of e2⟩,?_⟩
      intro D nD
      refine b8 (xs:=As.map V.ref) (fun i ys H4=>∃ ws:List Addr,ys=ws.map V.ref/\i<=1000/\ws.length=i/\Cont (hid [D] H4) ws (cs.take i)/\(∀ b∈ws,H2 b=none)/\H4 D=some (.lst ys)/\Same H2 H4) ⟨[],rfl,by decide,rfl,.nil,(fun b hb=>nomatch hb),af,ai nD⟩ (fun i ys H4 ⟨_,_,_,_,_,_,h,_⟩=>h) (fun i ys H4 ⟨_,_,_,_,_,_,_,sm⟩=>SqL.of (sm l _ e2)) ?_ ?_
      · rintro i ys H4 x hx ⟨ws,rfl,hi0,wl,cw,fw,hD4,sm⟩
        have hi:i < (As.map V.ref).length:=(List.getElem?_eq_some_iff.mp hx).1
        have hi':i < As.length:=by rw [List.length_map] at hi;exact hi
        have hc:i < cs.length:=by rw [← ct.1];exact hi'
        have ea:As[i]? = some As[i]:=List.getElem?_eq_getElem hi'
        have ec:cs[i]? = some cs[i]:=List.getElem?_eq_getElem hc
        rw [List.getElem?_map,ea] at hx
        cases hx
        have hA:=sm _ _ (ct2.2 i _ _ ea ec)
        refine bU rfl ?_
        refine⟨_,rfl,As[i],_,rfl,.inl (SqL.of hA),fun b nb=>?_⟩
        have s5:Same H4 (upd H4 b (.lst cs[i])):=ai nb
        have bD:b≠D:=fun z=>by rw [z,hD4] at nb;cases nb
        refine⟨s5 D _ hD4,by rw [List.length_map,wl];exact bt (by omega),nx hi ⟨ws++[b],by rw [List.map_append];rfl,by omega,by rw [List.length_append,wl];rfl,?_,fun c hc=>?_,af,fun c u e=>?_⟩⟩
        · have up:Same (hid [D] H4) (hid [D] (upd (upd H4 b (.lst cs[i])) D (.lst (ws.map V.ref++[.ref b])))):=(jg fun b u _ e=>s5 b u e).trans (ji List.mem_cons_self)
          refine⟨by rw [List.length_append,List.length_take,wl];show i+1=_;omega,fun j a c q1 q2=>?_⟩
          rw [List.getElem?_take] at q2
          split at q2
          · by_cases hj:j < ws.length
            · rw [List.getElem?_append_left hj] at q1
              exact up _ _ (cw.2 j a c q1 (by rw [List.getElem?_take,if_pos (by omega)];exact q2))
            · have ej:j=i:=by omega
              subst ej
              rw [List.getElem?_append_right (by omega),wl,Nat.sub_self] at q1
              cases q1
              rw [ec] at q2
              cases q2
              exact (ji (S:=[D]) List.mem_cons_self) _ _ (aZ (fun z=>bD (List.mem_singleton.mp z)) af)
          · cases q2
        · rcases List.mem_append.mp hc with y | y
          · exact fw c y
          · rw [List.mem_singleton.mp y];exact sm.free nb
        · rw [au (ah e nD)]
          exact s5 c u (sm c u e)
      · rintro ys H4 ⟨ws,rfl,_,wl,cw,fw,hD4,sm⟩
        rw [List.length_map] at wl cw
        rw [ct.1,List.take_length] at cw
        have cw4:=cw.same hid_same
        have l4:=sm _ _ e2
        have ct4:=ct2.same sm
        have wAs:∀ b∈ws,b ∉ As:=fun b hb z=>by obtain⟨c,e⟩:=ct2.mem z;rw [fw b hb] at e;cases e
        have DAs:D ∉ As:=fun z=>by obtain⟨c,e⟩:=ct2.mem z;rw [nD] at e;cases e
        have g0:nv H4 As cs 0:=fun i a c x y=>by rw [if_neg (by omega)];exact ct4.2 i a c x y
        refine⟨fun σ' H'=>∃ x5,σ'=[some (.ref tn),some (.ref l),x2,x3,some (.ref D),x5]/\nv H' As cs As.length/\∀ b u,b ∉ As->H4 b=some u->H' b=some u,?_,?_⟩
        · rintro σ' H5 ⟨x5,rfl,g5,k5⟩
          have S5:∀ {H':Hp},Same H5 H'->Same H0 H':=fun s b u e=>s b u (k5 b u (fun z=>by rw [fr b (hAs▸z)] at e;cases e) (sm _ _ (s2 _ _ (S0 _ _ e))))
          have l5:=k5 _ _ lAs l4
          have D5:=k5 _ _ DAs hD4
          dsimp only [lg,tOp]
          refine bo _ _ _ _ _ _ _ _ _ ?_
          refine⟨_,rfl,l,_,rfl,.inl (SqL.of l5),_,rfl,by omega,by rw [List.length_map];omega,?_⟩
          intro E2 nE
          rw [Int.toNat_natCast,List.length_map]
          refine cm (fun i ys H6=>ys=[]/\H6 E2=some (.lst ys)/\Same H5 H6) ⟨rfl,af,ai nE⟩ (fun i ys H6 ⟨_,h,_⟩=>h) ?_ ?_
          · rintro i ys H6 hi ⟨rfl,hE,s6⟩
            have hc:i < cs.length:=by rw [← ct.1];exact hi
            have hw:i < ws.length:=by omega
            have ea:As[i]? = some As[i]:=List.getElem?_eq_getElem hi
            have ec:cs[i]? = some cs[i]:=List.getElem?_eq_getElem hc
            have ew:ws[i]? = some ws[i]:=List.getElem?_eq_getElem hw
            have gA:=g5 i _ _ ea ec
            rw [if_pos hi] at gA
            have gW:=k5 _ _ (wAs _ (List.getElem_mem hw)) (cw4.2 i _ _ ew ec)
            have aL:atI (As.map V.ref) (0+(i:Int))=some (.ref As[i]):=by rw [Int.zero_add];exact bN (by rw [List.getElem?_map,ea];rfl)
            have aW:atI (ws.map V.ref) (0+(i:Int))=some (.ref ws[i]):=by rw [Int.zero_add];exact bN (by rw [List.getElem?_map,ew];rfl)
            unfold bE cF
            refine⟨⟨by simp,rfl⟩,?_⟩
            refine⟨_,rfl,_,rfl,l,_,_,_,rfl,rfl,SqL.of (s6 _ _ l5),aL,As[i],_,rfl,.inl (SqL.of (s6 _ _ gA)),?_⟩
            refine⟨_,rfl,_,rfl,D,_,_,_,rfl,rfl,SqL.of (s6 _ _ D5),aW,ws[i],_,rfl,.inl (SqL.of (s6 _ _ gW)),_,1,rfl,rfl,rfl,false,by simp,dM ?_⟩
            refine⟨_,rfl,_,rfl,l,_,_,_,rfl,rfl,SqL.of (s6 _ _ l5),aL,1,rfl,As[i],_,-1,_,rfl,rfl,SqL.of (s6 _ _ gA),lR _ _,_,rfl,rfl,false,by simp,?_⟩
            show (if false=true then _ else _)
            rw [if_neg (by decide)]
            exact nx hi ⟨rfl,hE,s6⟩
          · rintro ys H6 ⟨rfl,hE,s6⟩
            refine⟨Nat.zero_le _,fun l0 n0=>?_⟩
            have s7:Same H6 (upd H6 l0 (.lst [])):=ai n0
            exact dA (ds:=[]) (s7 _ _ hE) .nil rfl af hu (q _ (S5 (s6.trans s7)))
        refine⟨_,rfl,l,_,rfl,.inl (SqL.of l4),_,rfl,by omega,by rw [List.length_map];omega,?_⟩
        rw [Int.toNat_natCast,List.length_map]
        refine cN (fun i σ' H'=>∃ x5,σ'=[some (.ref tn),some (.ref l),x2,x3,some (.ref D),x5]/\nv H' As cs i/\∀ b u,b ∉ As->H4 b=some u->H' b=some u) ⟨_,rfl,g0,fun _ _ _ e=>e⟩ ?_ (fun σ' H' z=>z)
        rintro i σ' H5 hi ⟨x5,rfl,g5,k5⟩
        have hc:i < cs.length:=by rw [← ct.1];exact hi
        have ea:As[i]? = some As[i]:=List.getElem?_eq_getElem hi
        have ec:cs[i]? = some cs[i]:=List.getElem?_eq_getElem hc
        have gA:=g5 i _ _ ea ec
        rw [if_neg (Nat.lt_irrefl _)] at gA
        have l5:=k5 _ _ lAs l4
        have aL:atI (As.map V.ref) (0+(i:Int))=some (.ref As[i]):=by rw [Int.zero_add];exact bN (by rw [List.getElem?_map,ea];rfl)
        have cl:=clen _ (List.getElem_mem hc)
        refine⟨_,rfl,_,rfl,l,_,_,_,rfl,rfl,SqL.of l5,aL,.inl ⟨rfl,_,SqL.of gA⟩,_,rfl,As[i],_,_,rfl,rfl,gA,by omega,?_⟩
        refine⟨_,rfl,fun j a c x y=>?_,fun b u nb e=>?_⟩
        · by_cases hj:j=i
          · subst hj
            rw [ea] at x
            rw [ec] at y
            cases x
            cases y
            rw [af,if_pos (Nat.lt_succ_self _)]
          · have ne:a≠As[i]:=fun z=>hj ((List.getElem?_inj (List.getElem?_eq_some_iff.mp x).1 nd).mp (by rw [x,ea,z]))
            rw [au ne,g5 j a c x y]
            by_cases lt:j < i
            · rw [if_pos lt,if_pos (by omega)]
            · rw [if_neg lt,if_neg (by omega)]
        · rw [au (show b≠As[i] from fun z=>nb (by rw [z];exact List.getElem_mem hi))]
          exact k5 b u nb e
    refine⟨_,rfl,tn,_,1,.ref rA,rfl,rfl,SqT.of (s1 _ _ h1),rfl,rA,rfl,⟨_,SqL.of (s1 _ _ h3)⟩,?_⟩
    refine ja (xs:=L.map fun x=>V.ref x.1) (fun i σ' H'=>∃ l x2 x3,σ'=[some (.ref tn),some (.ref l),x2,x3,none,none]/\Same H H'/\H l=none/\H' l=some (.lst ((kA::rA::ce (L.take i)).map V.ref))) ⟨l,_,_,rfl,s1,nl,e1⟩ (fun i σ' H' _ ⟨_,_,_,_,sm,_⟩=>SqL.of (sm _ _ h3)) ?_ (fun σ' H' ⟨l,x2,x3,e,sm,n,z⟩=>⟨l,x2,x3,e,sm,n,by rw [List.length_map,List.take_length] at z;exact z⟩)
    rintro i x σ' H2 hx ⟨l,x2,x3,rfl,sm,nl,e2⟩
    rw [List.getElem?_map] at hx
    obtain⟨y,hy,rfl⟩:=Option.map_eq_some_iff.mp hx
    have hi:i < L.length:=(List.getElem?_eq_some_iff.mp hy).1
    have hi':i < h.2.length:=by omega
    obtain⟨g1,_,_⟩:=hs i y h.2[i] hy (List.getElem?_eq_getElem hi')
    refine⟨y.1,_,rfl,SqT.of (sm _ _ g1),rfl,_,_,rfl,_,_,rfl,rfl,?_⟩
    refine⟨_,rfl,_,rfl,_,rfl,by show 2<=sizeLine;decide,fun l2 n2=>?_⟩
    have s3:Same H2 (upd H2 l2 (.lst [.ref y.2.1,.ref y.2.2])):=ai n2
    have e3:(upd H2 l2 (.lst [.ref y.2.1,.ref y.2.2])) l2=some (.lst [.ref y.2.1,.ref y.2.2]):=af
    generalize upd H2 l2 (.lst [.ref y.2.1,.ref y.2.2])=H3 at *
    refine⟨l,l2,_,_,rfl,rfl,s3 _ _ e2,e3,by rw [List.length_map,List.length_cons,List.length_cons,jf,List.length_take];show _+2<=sizeLine;omega,fun l3 n3=>?_⟩
    refine⟨l3,_,_,rfl,sm.trans (s3.trans (ai n3)),(sm.trans s3).free n3,?_⟩
    have et:ce (L.take (i+1))=ce (L.take i)++[y.2.1,y.2.2]:=by
      unfold ce
      rw [List.take_succ,hy,List.flatMap_append]
      rfl
    rw [af,et,← List.cons_append,← List.cons_append,List.map_append]
    rfl
end
def bq (h:Hs):PyData:=.tuple [.list (h.1.map PyData.str),.list (h.2.map bC)]
theorem b4 {H:Hp}{v:V}{h:Hs}(x:HouseAt H v h):Sees H v (bq h):=by
  obtain⟨t,a,r,vs,rfl,h1,h2,h3,h4⟩:=x
  exact .tup h1 (.cons (.lst h2 (SeesAll.strs _)) (.cons (.lst h3 (ga h4)) .nil))
theorem hJ {h:Hs}(ok:bX h):(bq h).canLay0=true:=by
  have e1:=dd ok.kk
  have e2:=il fun r hr=>⟨(ok.rs r hr).lk,(ok.rs r hr).kk⟩
  simp only [bq,PyData.canLay0,PyData.canLayAll0,e1,e2,Bool.and_self]
theorem fe:∀ rs:List Rm,PyData.depthAll (rs.map bC)<=2
  | []=>Nat.zero_le _
  | r::rs=>by
    have:=fe rs
    rw [List.map_cons]
    simp only [PyData.depthAll,bC,PyData.depth,cQ]
    omega
theorem iR (h:Hs):(bq h).depth<=4:=by
  have:=fe h.2
  simp only [bq,PyData.depth,PyData.depthAll,cQ]
  omega
theorem iN:∀ ks ls:List Str,PyData.eqvAll (ks.map PyData.str) (ls.map PyData.str)=decide (ks=ls)
  | [],[]=>rfl
  | [],_::_=>rfl
  | _::_,[]=>rfl
  | k::ks,l::ls=>by
    rw [List.map_cons,List.map_cons]
    simp only [PyData.eqvAll,PyData.eqv,iN ks ls]
    by_cases a:k=l
    · subst a;by_cases b:ks=ls<;>simp [b]
    · simp [a]
theorem mV (r q:Rm):PyData.eqv (bC r) (bC q)=decide (r=q):=by
  simp only [bC,PyData.eqv,PyData.eqvAll,iN]
  obtain⟨a,b⟩:=r
  obtain⟨c,d⟩:=q
  by_cases x:a=c<;>by_cases y:b=d<;>simp [x,y]
theorem i0:∀ rs qs:List Rm,PyData.eqvAll (rs.map bC) (qs.map bC)=decide (rs=qs)
  | [],[]=>rfl
  | [],_::_=>rfl
  | _::_,[]=>rfl
  | k::ks,l::ls=>by
    rw [List.map_cons,List.map_cons]
    simp only [PyData.eqvAll,mV,i0 ks ls]
    by_cases a:k=l
    · subst a;by_cases b:ks=ls<;>simp [b]
    · simp [a]
theorem lI (h g:Hs):PyData.eqv (bq h) (bq g)=decide (h=g):=by
  simp only [bq,PyData.eqv,PyData.eqvAll,iN,i0]
  obtain⟨a,b⟩:=h
  obtain⟨c,d⟩:=g
  by_cases x:a=c<;>by_cases y:b=d<;>simp [x,y]
theorem jS {A:Around}{H:Hp}{v u:V}{h g:Hs}{Q:VK}{neg:Bool}(x:HouseAt H v h)(y:HouseAt H u g)(a:bX h)(b:bX g)(hu:A.units+64 < cLine)(q:Q (.bl (if neg then !decide (h=g) else decide (h=g))) H):oJ A neg v u H Q:=by
  have d1:=iR h
  refine⟨_,_,b4 x,b4 y,hJ a,hJ b,by omega,?_⟩
  rw [lI]
  exact q
theorem fz {k:Str}(h:aJ k):PyData.strOk k=true:=by
  unfold PyData.strOk
  rw [← Array.all_toList,List.all_eq_true]
  intro c hc
  exact decide_eq_true (by have:=h.2.2 c hc;omega)
theorem nG (n:Nat){k:Str}(h:aJ k):Tr n (.str k):=by
  cases n with
  | zero=>exact⟨k,rfl,fz h⟩
  | succ n=>exact .inl ⟨k,rfl,fz h⟩
theorem iH (n:Nat){ks:List Str}(h:∀ k∈ks,aJ k)(l:ks.length<=1000):Tr (n+1) (.list (ks.map PyData.str)):=.inr ⟨_,.inl rfl,by rw [List.length_map];exact l,fun e he=>by
  obtain⟨k,hk,rfl⟩:=List.mem_map.mp he
  exact nG n (h k hk)⟩
theorem m7 (n:Nat){r:Rm}(h:cO r):Tr (n+2) (bC r):=.inr ⟨_,.inr rfl,by show 2<=1000;decide,fun e he=>by
  have l4:=h.l4
  rcases List.mem_cons.mp he with y | y
  · rw [y];exact iH n h.lk (by omega)
  · rw [List.mem_singleton.mp y];exact iH n h.kk h.kl⟩
theorem iY (n:Nat){h:Hs}(ok:bX h):Tr (n+4) (bq h):=.inr ⟨_,.inr rfl,by show 2<=1000;decide,fun e he=>by
  rcases List.mem_cons.mp he with y | y
  · rw [y];exact iH (n+2) ok.kk ok.kl
  · rw [List.mem_singleton.mp y]
    exact .inr ⟨_,.inl rfl,by rw [List.length_map];exact ok.rl,fun e he=>by
      obtain⟨r,hr,rfl⟩:=List.mem_map.mp he
      exact m7 n (ok.rs r hr)⟩⟩
def lU (K:PySem.W.Frag):Sp:=fun vs H Q _=>∃ (a:Addr) (ns:List Int),vs=[.ref a]/\SqL K H a (ns.map V.int)/\ns.length<=63/\∀ H',Q (.bl true) H'
inductive LwI (a:Addr)(H:Hp)(σ':L2.St)(H':Hp):Prop
  | mk (x1 x2 x3 x4 x5 x6 x7:Option V):σ'=[some (.ref a),x1,x2,x3,x4,x5,x6,x7]->Same H H'->LwI a H σ' H'
section
variable {P:Program}{w:World}{K:PySem.W.Frag}{mg:Str->Option Value}{base:Heap}
theorem sc_law:aB ["script","k","deck","house","due","handed","found","told"] ["script"] (ag oj):=⟨rfl,rfl,rfl,by decide +kernel,rfl,by decide +kernel,by decide +kernel⟩
theorem oy {f fC fN fD fH fM fL fY fA fP fS fR fW:Addr}{fd fdC fdN fdD fdH fdM fdL fdY fdA fdP fdS fdR fdW:FuncData}(F:Fun K "law" "law" mF f fd)(cj:FnOk P w K mg base CX0 1 fC fdC ["script","k"] (kZ K))(c__law_cell_at:Cal K mg "_law_cell_at" ["script","k"] fC fdC)
    (ck:FnOk P w K mg base CX0 1 fN fdN ["cell","many"] jo)(c__law_numbers:Cal K mg "_law_numbers" ["cell","many"] fN fdN)(eV:FnOk P w K mg base CX0 2 fD fdD ["cell","many"] jW)(c__law_deck:Cal K mg "_law_deck" ["cell","many"] fD fdD)
    (gT:FnOk P w K mg base CX0 4 fH fdH ["deck","most","locks"] gd)(c__law_house:Cal K mg "_law_house" ["deck","most","locks"] fH fdH)(iw:FnOk P w K mg base CX0 3 fM fdM ["deck","house"] kC)(c__law_many:Cal K mg "_law_many" ["deck","house"] fM fdM)
    (gX:FnOk P w K mg base CX0 2 fL fdL ["house"] iK)(c__law_lines:Cal K mg "_law_lines" ["house"] fL fdL)(ir:FnOk P w K mg base CX0 1 fY fdY ["house"] kB)(c__law_copy:Cal K mg "_law_copy" ["house"] fY fdY)(cf:FnOk P w K mg base CX0 6 fA fdA ["found","due"] (nW 5))(c__law_alike:Cal K mg "_law_alike" ["found","due"] fA fdA)
    (hW:FnOk P w K mg base CX0 1 fP fdP ["told"] iU)(c__law_apart:Cal K mg "_law_apart" ["told"] fP fdP)(dC:FnOk P w K mg base CX0 1 fS fdS ["house"] eQ)(c__law_sorted:Cal K mg "_law_sorted" ["house"] fS fdS)
    (dS:FnOk P w K mg base CX0 8 fR fdR ["text"] ku)(c_read_house:Cal K mg "read_house" ["text"] fR fdR)(cg:FnOk P w K mg base CX0 7 fW fdW ["house"] gh)(c_show_house:Cal K mg "show_house" ["house"] fW fdW)
    (aD:mg "range" = none)(bL:mg "len" = none)(mQ:mg "min" = none)(nq:mg "max" = none)(dh:mg "int" = none)(am:mg "isinstance" = none)(du:mg "str" = none):FnOk P w K mg base CX0 9 f fd ["script"] (lU K):=by
  refine F.ok sc_law (fun vs H Q E h=>?_) (fun cdv A outer s H vs Q E hr h=>?_)
  · obtain⟨a,ns,rfl,_⟩:=h
    rfl
  · obtain⟨a,ns,rfl,hS,hn,k⟩:=h
    have hu:=jx hr
    have hu64:=hr.units
    refine⟨_,(aj (cq (fi PassesOwn.never rfl (bz rfl aD (ad (ao (kP rfl) rfl nq (by decide +kernel) (ad ak (ad (ao (kW rfl) rfl mQ (by decide +kernel) (ad (ao aC rfl bL PySem.boot_len (ad (pv 0) ae)) (ad ak ae))) ae))) ae)) (ax (i:=1) sc_law.nd rfl (Or.inl rfl))
        (aj (aS (i:=2) sc_law.nd rfl (Or.inl rfl) (al eV (hr.mono (show 2<=8 by decide)) rfl c__law_deck.mg c__law_deck.kp c__law_deck.b .nil aG (ad (al cj (hr.mono (show 1<=8 by decide)) rfl c__law_cell_at.mg c__law_cell_at.kp c__law_cell_at.b .nil aG (ad (pv 0) (ad (pv 1) ae))) (ad ak ae))))
        (aj (aS (i:=3) sc_law.nd rfl (Or.inl rfl) (al gT (hr.mono (show 4<=8 by decide)) rfl c__law_house.mg c__law_house.kp c__law_house.b .nil aG (ad (pv 2) (ad (bv bO (bT (ad ak (ad ak ae))) (bR eC rfl dh (by decide +kernel) (ad (b9 nw (pv 1) ak (aN _)) ae)) (fun _ _=>rfl)) (ad ak ae)))))
        (aj (cq (cc (aT iy (aV cM (bv bO (al ck (hr.mono (show 1<=8 by decide)) rfl c__law_numbers.mg c__law_numbers.kp c__law_numbers.b .nil aG (ad (al cj (hr.mono (show 1<=8 by decide)) rfl c__law_cell_at.mg c__law_cell_at.kp c__law_cell_at.b .nil aG (ad (pv 0) (ad (pv 1) ae))) (ad ak ae))) ak (fun _ _=>rfl)) ak) ak (aN _))
          (aq (aS (i:=3) sc_law.nd rfl (Or.inl rfl) (al iw (hr.mono (show 3<=8 by decide)) rfl c__law_many.mg c__law_many.kp c__law_many.b .nil aG (ad (al eV (hr.mono (show 2<=8 by decide)) rfl c__law_deck.mg c__law_deck.kp c__law_deck.b .nil aG (ad (aV gb (al cj (hr.mono (show 1<=8 by decide)) rfl c__law_cell_at.mg c__law_cell_at.kp c__law_cell_at.b .nil aG (ad (pv 0) (ad (pv 1) ae))) ak) (ad ak ae))) (ad (pv 3) ae))))) aX))
        (aj (aS (i:=4) sc_law.nd rfl (Or.inl rfl) (dt PySem.F.plainAttrs_str PySem.F.slot_str_join PySem.F.type_str_join dP ar (ad (al gX (hr.mono (show 2<=8 by decide)) rfl c__law_lines.mg c__law_lines.kp c__law_lines.b .nil aG (ad (pv 3) ae)) ae)))
        (aj (aS (i:=5) sc_law.nd rfl (Or.inl rfl) (al ir (hr.mono (show 1<=8 by decide)) rfl c__law_copy.mg c__law_copy.kp c__law_copy.b .nil aG (ad (pv 3) ae)))
        (aj (aS (i:=6) sc_law.nd rfl (Or.inl rfl) (al cg (hr.mono (show 7<=8 by decide)) rfl c_show_house.mg c_show_house.kp c_show_house.b .nil aG (ad (pv 5) ae)))
        (aj (cc (PW.pt (fq (cC (cu (ao ay rfl am (by decide +kernel) (ad (pv 6) (ad (bp (v:=.ty "str") (u:=.type "str") rfl du (by decide +kernel) rfl) ae))))) (fq (aT gr (pv 6) (pv 4) (aN _)) (dE (aT oz (pv 5) (pv 3) (aN _))))))
          (aq (aA gZ)) aX)
        (aq (cq (cc (aT kq (ao dZ rfl bL PySem.boot_len (ad (pv 4) ae)) ak (aN _))
          (aj (aS (i:=7) sc_law.nd rfl (Or.inl rfl) (al dS hr rfl c_read_house.mg c_read_house.kp c_read_house.b .nil aG (ad (pv 4) ae)))
          (aj (cc (PW.pt (fq (cC (cu (al cf (hr.mono (show 6<=8 by decide)) rfl c__law_alike.mg c__law_alike.kp c__law_alike.b .nil aG (ad (pv 7) (ad (al dC (hr.mono (show 1<=8 by decide)) rfl c__law_sorted.mg c__law_sorted.kp c__law_sorted.b .nil aG (ad (pv 3) ae)) ae))))) (dE (cC (cu (al hW (hr.mono (show 1<=8 by decide)) rfl c__law_apart.mg c__law_apart.kp c__law_apart.b .nil aG (ad (pv 7) ae)))))))
            (aq (aA gZ)) aX)
          (aq (cc (PW.pt (fq (cC (cu (al cf (hr.mono (show 6<=8 by decide)) rfl c__law_alike.mg c__law_alike.kp c__law_alike.b .nil aG (ad (al dS hr rfl c_read_house.mg c_read_house.kp c_read_house.b .nil aG (ad (pv 4) ae)) (ad (al dC (hr.mono (show 1<=8 by decide)) rfl c__law_sorted.mg c__law_sorted.kp c__law_sorted.b .nil aG (ad (pv 3) ae)) ae))))) (dE (aT gr (al cg (hr.mono (show 7<=8 by decide)) rfl c_show_house.mg c_show_house.kp c_show_house.b .nil aG (ad (pv 5) ae)) (pv 4) (aN _)))))
            (aq (aA gZ)) aX)))) aX))))))))))))
      (aq (aA gZ))),?_⟩
    have lim:1000000<=sizeLine:=by decide
    refine⟨fun σ' H'=>LwI a H σ' H',?_,?_⟩
    · rintro σ H2 ⟨x1,x2,x3,x4,x5,x6,x7,rfl,sm⟩
      exact k _
    generalize hL:((ns.map V.int).length:Int)=L
    have mx:∃ m:Nat,(if (if 10 < L then 10 else L) > 1 then (if 10 < L then 10 else L) else 1)=(m:Int)/\m<=10:=by
      refine⟨((if (if 10 < L then 10 else L) > 1 then (if 10 < L then 10 else L) else 1):Int).toNat,?_,?_⟩<;>split<;>split<;>omega
    obtain⟨m,em,hm⟩:=mx
    subst hL
    refine⟨_,rfl,a,_,rfl,.inl hS,_,10,rfl,1,_,rfl,(m:Int),congrArg (fun z=>[V.int z]) em,by omega,by omega,?_⟩
    rw [Int.toNat_natCast]
    refine cN (fun i σ' H'=>LwI a H σ' H') ⟨none,none,none,none,none,none,none,rfl,Same.refl H⟩ ?_ (fun σ' H' z=>z)
    rintro i σ H2 hi ⟨x1,x2,x3,x4,x5,x6,x7,rfl,sm⟩
    have ei:[V.ref a,V.int (0+(i:Int))]=[V.ref a,V.int (i:Int)]:=congrArg (fun z=>[V.ref a,V.int z]) (show (0+(i:Int))=(i:Int) by omega)
    refine⟨_,rfl,_,rfl,a,i,ns,ei,sm.seq hS,fun cell=>?_⟩
    refine⟨cell,600,rfl,by decide,fun p H3 np s3 dk3=>?_⟩
    have S0:∀ {H':Hp},But p H3 H'->Same H H':=fun {H'} B b u e=>B b u (ah (sm b u e) np) (s3 _ _ (sm _ _ e))
    refine⟨_,rfl,by show 2<=sizeLine;decide,fun li nli=>?_⟩
    have sI:Same H3 (upd H3 li (.lst [.int 60,.int 12])):=ai nli
    have eI:(upd H3 li (.lst [.int 60,.int 12])) li=some (.lst (([60,12]:List Int).map V.int)):=af
    generalize upd H3 li (.lst [.int 60,.int 12])=H3' at *
    have dk3':=dk3.same sI
    obtain⟨mo,hmo,amo⟩:∃ mo:Nat,mo<=60/\atI (([60,12]:List Int).map V.int) (if decide (0+(i:Int) > 0)=true then 1 else 0)=some (.int (mo:Int)):=by
      cases decide (0+(i:Int) > 0)
      · exact⟨60,by decide,rfl⟩
      · exact⟨12,by decide,rfl⟩
    refine⟨_,rfl,_,0,rfl,rfl,.inr ⟨_,rfl,li,_,_,.int (mo:Int),rfl,rfl,SqL.of eI,amo,?_⟩⟩
    refine⟨p,mo,rfl,dk3',hmo,fun v0 h0 H4 hh4 hf4 dk4 B4=>?_⟩
    have hg4:=hf4.g hmo
    have S4:Same H H4:=S0 ((aE sI).trans B4)
    have hh4':HouseAt H4 v0 h0:=hh4.same hid_same
    clear hh4 dk4 dk3' B4 sI eI
    refine⟨fun σ' H'=>∃ v h,σ'=[some (.ref a),some (.int (0+i)),some (.ref p),some v,x4,x5,x6,x7]/\HouseAt H' v h/\HouseG h/\Same H H',?_,?_⟩
    · rintro σ H5 ⟨v,h,rfl,hh5,hg,S5⟩
      have hl:=hg.l
      have len:=gU hl
      have sum:=fh hl
      refine⟨rfl,_,rfl,v,h,rfl,hh5,hl,fun l H6 s6 e6=>?_⟩
      refine⟨cNl,l,_,rfl,rfl,SqL.of e6,by omega,?_⟩
      show cF 4 (V.str (gf h)) _ _ _
      refine⟨_,rfl,v,h,rfl,hh5.same s6,hl.ok,fun u H7 s7 hu7=>?_⟩
      have hh7:=(hh5.same s6).same s7
      refine⟨_,rfl,u,h,rfl,hu7,hl,fun H8 s8=>?_⟩
      have hh8:=hh7.same s8
      have hu8:=hu7.same s8
      refine⟨_,rfl,_,_,_,true,rfl,.str _,bY K _,true,rfl,dM ?_⟩
      refine⟨_,rfl,_,rfl,rfl,false,by simp,dM ?_⟩
      refine⟨_,rfl,_,rfl,jS hu8 hh8 hl.ok hl.ok (Nat.lt_of_lt_of_le hu64 (Nat.le_refl _)) ⟨false,by simp,dM ?_⟩⟩
      have S8:Same H H8:=S5.trans (s6.trans (s7.trans s8))
      refine⟨fun σ' H'=>LwI a H σ' H',fun σ' H' z=>z,?_⟩
      refine⟨_,rfl,_,rfl,by omega,_,3000,rfl,rfl,_,rfl,jR (fun _=>?_) (fun _=>⟨_,_,_,_,_,_,_,rfl,S8⟩)⟩
      have sok:=i5 hl
      refine⟨_,rfl,h,rfl,hl,fun t H9 s9 ap9=>?_⟩
      refine⟨_,rfl,_,rfl,v,h,rfl,hh8.same s9,hl.ok,fun w1 HA sA hA=>?_⟩
      refine⟨t,w1,bq (eZ h),rfl,b4 (ap9.same sA).at,b4 hA,iY 0 sok.ok,fun HB sB=>⟨true,rfl,dM ?_⟩⟩
      refine⟨_,rfl,t,H8,eZ h,rfl,(ap9.same sA).same sB,sok,s9.trans (sA.trans sB),fun HC sC=>⟨true,rfl,dM ?_⟩⟩
      have hhC:=hh8.same sC
      have huC:=hu8.same sC
      refine⟨_,rfl,h,rfl,hl,fun t2 HD sD apD=>?_⟩
      refine⟨_,rfl,v,h,rfl,hhC.same sD,hl.ok,fun w2 HE sE hE=>?_⟩
      refine⟨t2,w2,bq (eZ h),rfl,b4 (apD.same sE).at,b4 hE,iY 0 sok.ok,fun HF sF=>⟨true,rfl,dM ?_⟩⟩
      refine⟨_,rfl,u,h,rfl,((huC.same sD).same sE).same sF,hl,fun HG sG=>⟨_,rfl,rfl,false,by simp,dM ?_⟩⟩
      exact⟨_,_,_,_,_,_,_,rfl,S8.trans (sC.trans (sD.trans (sE.trans (sF.trans sG))))⟩
    · refine⟨_,rfl,_,rfl,a,i,ns,ei,S4.seq hS,fun c2=>?_⟩
      refine⟨c2,601,rfl,by decide,fun l ms H5 nl s5 e5 lm=>?_⟩
      have h6:600 < ms.length:=by omega
      refine⟨l,_,600,.int ms[600],rfl,rfl,SqL.of e5,bN (j:=600) (by rw [List.getElem?_map,List.getElem?_eq_getElem h6];rfl),_,4,rfl,rfl,(by show (0:Int) < 4;decide),rfl,_,rfl,jR (fun _=>?_) (fun _=>⟨v0,h0,rfl,hh4'.same s5,hg4,S4.trans s5⟩)⟩
      have S5:=S4.trans s5
      refine⟨_,rfl,_,rfl,a,i,ns,ei,S5.seq hS,fun c3=>?_⟩
      refine⟨_,3,rfl,rfl,⟨by decide,by decide⟩,_,3,rfl,by decide,fun p2 H6 np2 s6 dk6=>?_⟩
      have inH:Same H5 (hid [p2] H6):=fun b u e=>aZ (fun z=>by rw [List.mem_singleton.mp z] at e;rw [np2] at e;cases e) (s6 b u e)
      refine⟨_,rfl,p2,v0,h0,rfl,dk6,(hh4'.same s5).same inH,hg4,fun v' h' H7 hh7 hg7 dk7 B7=>?_⟩
      exact⟨v',h',rfl,hh7.same hid_same,hg7,fun b u e=>B7 b u (ah (S5 b u e) np2) (s6 _ _ (S5 _ _ e))⟩
end
theorem all_mk {l:PySem.W.OpenLaw}{w:World}{K:PySem.W.Frag}{h:Heap}{mg:Str->Option Value}{fa f1 f2 f3 f4 f5 f6 f7 f8 f9 f10 f11 f12 f13 f14 f15 f16 f17 f18 f19 f20 f21 f22 f23 f24 f25 f26 f27 f28:Addr}(X:K.In h)(G:h.Ns mainGlobals mg)(hfa:mg "law" = some (.ref fa))
    {od1 an1 od2 an2 od3 an3 od4 an4 od5 an5 od6 an6 od7 an7 od8 an8 od9 an9 od10 an10 od11 an11 od12 an12 od13 an13 od14 an14 od15 an15 od16 an16 od17 an17 od18 an18 od19 an19 od20 an20 od21 an21 od22 an22 od23 an23 od24 an24 od25 an25 od26 an26 od27 an27 od28 an28:Option Addr}{sl1 sl2 sl3 sl4 sl5 sl6 sl7 sl8 sl9 sl10 sl11 sl12 sl13 sl14 sl15 sl16 sl17 sl18 sl19 sl20 sl21 sl22 sl23 sl24 sl25 sl26 sl27 sl28:Array (Option Value)}{oc1 kV1 dc1 pm1 cd1 ct1 oc2 kV2 dc2 pm2 cd2 ct2 oc3 kV3 dc3 pm3 cd3 ct3 oc4 kV4 dc4 pm4 cd4 ct4 oc5 kV5 dc5 pm5 cd5 ct5 oc6 kV6 dc6 pm6 cd6 ct6 oc7 kV7 dc7 pm7 cd7 ct7 oc8 kV8 dc8 pm8 cd8 ct8 oc9 kV9 dc9 pm9 cd9 ct9 oc10 kV10 dc10 pm10 cd10 ct10 oc11 kV11 dc11 pm11 cd11 ct11 oc12 kV12 dc12 pm12 cd12 ct12 oc13 kV13 dc13 pm13 cd13 ct13 oc14 kV14 dc14 pm14 cd14 ct14 oc15 kV15 dc15 pm15 cd15 ct15 oc16 kV16 dc16 pm16 cd16 ct16 oc17 kV17 dc17 pm17 cd17 ct17 oc18 kV18 dc18 pm18 cd18 ct18 oc19 kV19 dc19 pm19 cd19 ct19 oc20 kV20 dc20 pm20 cd20 ct20 oc21 kV21 dc21 pm21 cd21 ct21 oc22 kV22 dc22 pm22 cd22 ct22 oc23 kV23 dc23 pm23 cd23 ct23 oc24 kV24 dc24 pm24 cd24 ct24 oc25 kV25 dc25 pm25 cd25 ct25 oc26 kV26 dc26 pm26 cd26 ct26 oc27 kV27 dc27 pm27 cd27 ct27 oc28 kV28 dc28 pm28 cd28 ct28:Value}{t_LETTERS t_MOST_LETTERS t_MOST_LOCKS:Tok}
    (a1:PySem.W.nsIn K mainGlobals "is_kind" = some (some (.ref f1)))(l1:K.lookup f1=some ⟨oc1,od1,.func (PySem.W.fnOf "is_kind" "is_kind" (az eU) (av eU) (ag eU) .none kV1 dc1 pm1 an1 cd1 ct1),sl1⟩)(c1:PySem.W.codeIn K cd1 "is_kind" = true)(k1:PySem.W.keepIn K (.ref f1)=true)
    (a2:PySem.W.nsIn K mainGlobals "are_kinds" = some (some (.ref f2)))(l2:K.lookup f2=some ⟨oc2,od2,.func (PySem.W.fnOf "are_kinds" "are_kinds" (az dj) (av dj) (ag dj) .none kV2 dc2 pm2 an2 cd2 ct2),sl2⟩)(c2:PySem.W.codeIn K cd2 "are_kinds" = true)(k2:PySem.W.keepIn K (.ref f2)=true)
    (a3:PySem.W.nsIn K mainGlobals "are_locks" = some (some (.ref f3)))(l3:K.lookup f3=some ⟨oc3,od3,.func (PySem.W.fnOf "are_locks" "are_locks" (az fV) (av fV) (ag fV) .none kV3 dc3 pm3 an3 cd3 ct3),sl3⟩)(c3:PySem.W.codeIn K cd3 "are_locks" = true)(k3:PySem.W.keepIn K (.ref f3)=true)
    (a4:PySem.W.nsIn K mainGlobals "is_room" = some (some (.ref f4)))(l4:K.lookup f4=some ⟨oc4,od4,.func (PySem.W.fnOf "is_room" "is_room" (az jF) (av jF) (ag jF) .none kV4 dc4 pm4 an4 cd4 ct4),sl4⟩)(c4:PySem.W.codeIn K cd4 "is_room" = true)(k4:PySem.W.keepIn K (.ref f4)=true)
    (a5:PySem.W.nsIn K mainGlobals "is_house" = some (some (.ref f5)))(l5:K.lookup f5=some ⟨oc5,od5,.func (PySem.W.fnOf "is_house" "is_house" (az dm) (av dm) (ag dm) .none kV5 dc5 pm5 an5 cd5 ct5),sl5⟩)(c5:PySem.W.codeIn K cd5 "is_house" = true)(k5:PySem.W.keepIn K (.ref f5)=true)
    (a6:PySem.W.nsIn K mainGlobals "require_house" = some (some (.ref f6)))(l6:K.lookup f6=some ⟨oc6,od6,.func (PySem.W.fnOf "require_house" "require_house" (az nC) (av nC) (ag nC) .none kV6 dc6 pm6 an6 cd6 ct6),sl6⟩)(c6:PySem.W.codeIn K cd6 "require_house" = true)(k6:PySem.W.keepIn K (.ref f6)=true)
    (a7:PySem.W.nsIn K mainGlobals "show_keys" = some (some (.ref f7)))(l7:K.lookup f7=some ⟨oc7,od7,.func (PySem.W.fnOf "show_keys" "show_keys" (az bI) (av bI) (ag bI) .none kV7 dc7 pm7 an7 cd7 ct7),sl7⟩)(c7:PySem.W.codeIn K cd7 "show_keys" = true)(k7:PySem.W.keepIn K (.ref f7)=true)
    (a8:PySem.W.nsIn K mainGlobals "show_room" = some (some (.ref f8)))(l8:K.lookup f8=some ⟨oc8,od8,.func (PySem.W.fnOf "show_room" "show_room" (az bH) (av bH) (ag bH) .none kV8 dc8 pm8 an8 cd8 ct8),sl8⟩)(c8:PySem.W.codeIn K cd8 "show_room" = true)(k8:PySem.W.keepIn K (.ref f8)=true)
    (a9:PySem.W.nsIn K mainGlobals "show_house" = some (some (.ref f9)))(l9:K.lookup f9=some ⟨oc9,od9,.func (PySem.W.fnOf "show_house" "show_house" (az bh) (av bh) (ag bh) .none kV9 dc9 pm9 an9 cd9 ct9),sl9⟩)(c9:PySem.W.codeIn K cd9 "show_house" = true)(k9:PySem.W.keepIn K (.ref f9)=true)
    (a10:PySem.W.nsIn K mainGlobals "split_keys" = some (some (.ref f10)))(l10:K.lookup f10=some ⟨oc10,od10,.func (PySem.W.fnOf "split_keys" "split_keys" (az bu) (av bu) (ag bu) .none kV10 dc10 pm10 an10 cd10 ct10),sl10⟩)(c10:PySem.W.codeIn K cd10 "split_keys" = true)(k10:PySem.W.keepIn K (.ref f10)=true)
    (a11:PySem.W.nsIn K mainGlobals "split_room" = some (some (.ref f11)))(l11:K.lookup f11=some ⟨oc11,od11,.func (PySem.W.fnOf "split_room" "split_room" (az bx) (av bx) (ag bx) .none kV11 dc11 pm11 an11 cd11 ct11),sl11⟩)(c11:PySem.W.codeIn K cd11 "split_room" = true)(k11:PySem.W.keepIn K (.ref f11)=true)
    (a12:PySem.W.nsIn K mainGlobals "read_house" = some (some (.ref f12)))(l12:K.lookup f12=some ⟨oc12,od12,.func (PySem.W.fnOf "read_house" "read_house" (az bi) (av bi) (ag bi) .none kV12 dc12 pm12 an12 cd12 ct12),sl12⟩)(c12:PySem.W.codeIn K cd12 "read_house" = true)(k12:PySem.W.keepIn K (.ref f12)=true)
    (a13:PySem.W.nsIn K mainGlobals "_law_cell_at" = some (some (.ref f13)))(l13:K.lookup f13=some ⟨oc13,od13,.func (PySem.W.fnOf "_law_cell_at" "_law_cell_at" (az bf) (av bf) (ag bf) .none kV13 dc13 pm13 an13 cd13 ct13),sl13⟩)(c13:PySem.W.codeIn K cd13 "_law_cell_at" = true)(k13:PySem.W.keepIn K (.ref f13)=true)
    (a14:PySem.W.nsIn K mainGlobals "_law_numbers" = some (some (.ref f14)))(l14:K.lookup f14=some ⟨oc14,od14,.func (PySem.W.fnOf "_law_numbers" "_law_numbers" (az be) (av be) (ag be) .none kV14 dc14 pm14 an14 cd14 ct14),sl14⟩)(c14:PySem.W.codeIn K cd14 "_law_numbers" = true)(k14:PySem.W.keepIn K (.ref f14)=true)
    (a15:PySem.W.nsIn K mainGlobals "_law_deck" = some (some (.ref f15)))(l15:K.lookup f15=some ⟨oc15,od15,.func (PySem.W.fnOf "_law_deck" "_law_deck" (az bG) (av bG) (ag bG) .none kV15 dc15 pm15 an15 cd15 ct15),sl15⟩)(c15:PySem.W.codeIn K cd15 "_law_deck" = true)(k15:PySem.W.keepIn K (.ref f15)=true)
    (a16:PySem.W.nsIn K mainGlobals "_law_take" = some (some (.ref f16)))(l16:K.lookup f16=some ⟨oc16,od16,.func (PySem.W.fnOf "_law_take" "_law_take" (az bF) (av bF) (ag bF) .none kV16 dc16 pm16 an16 cd16 ct16),sl16⟩)(c16:PySem.W.codeIn K cd16 "_law_take" = true)(k16:PySem.W.keepIn K (.ref f16)=true)
    (a17:PySem.W.nsIn K mainGlobals "_law_kind" = some (some (.ref f17)))(l17:K.lookup f17=some ⟨oc17,od17,.func (PySem.W.fnOf "_law_kind" "_law_kind" (az bJ) (av bJ) (ag bJ) .none kV17 dc17 pm17 an17 cd17 ct17),sl17⟩)(c17:PySem.W.codeIn K cd17 "_law_kind" = true)(k17:PySem.W.keepIn K (.ref f17)=true)
    (a18:PySem.W.nsIn K mainGlobals "_law_keys" = some (some (.ref f18)))(l18:K.lookup f18=some ⟨oc18,od18,.func (PySem.W.fnOf "_law_keys" "_law_keys" (az br) (av br) (ag br) .none kV18 dc18 pm18 an18 cd18 ct18),sl18⟩)(c18:PySem.W.codeIn K cd18 "_law_keys" = true)(k18:PySem.W.keepIn K (.ref f18)=true)
    (a19:PySem.W.nsIn K mainGlobals "_law_house" = some (some (.ref f19)))(l19:K.lookup f19=some ⟨oc19,od19,.func (PySem.W.fnOf "_law_house" "_law_house" (az bm) (av bm) (ag bm) .none kV19 dc19 pm19 an19 cd19 ct19),sl19⟩)(c19:PySem.W.codeIn K cd19 "_law_house" = true)(k19:PySem.W.keepIn K (.ref f19)=true)
    (a20:PySem.W.nsIn K mainGlobals "_law_keys_written" = some (some (.ref f20)))(l20:K.lookup f20=some ⟨oc20,od20,.func (PySem.W.fnOf "_law_keys_written" "_law_keys_written" (az aF) (av aF) (ag aF) .none kV20 dc20 pm20 an20 cd20 ct20),sl20⟩)(c20:PySem.W.codeIn K cd20 "_law_keys_written" = true)(k20:PySem.W.keepIn K (.ref f20)=true)
    (a21:PySem.W.nsIn K mainGlobals "_law_lines" = some (some (.ref f21)))(l21:K.lookup f21=some ⟨oc21,od21,.func (PySem.W.fnOf "_law_lines" "_law_lines" (az bw) (av bw) (ag bw) .none kV21 dc21 pm21 an21 cd21 ct21),sl21⟩)(c21:PySem.W.codeIn K cd21 "_law_lines" = true)(k21:PySem.W.keepIn K (.ref f21)=true)
    (a22:PySem.W.nsIn K mainGlobals "_law_sorted" = some (some (.ref f22)))(l22:K.lookup f22=some ⟨oc22,od22,.func (PySem.W.fnOf "_law_sorted" "_law_sorted" (az aY) (av aY) (ag aY) .none kV22 dc22 pm22 an22 cd22 ct22),sl22⟩)(c22:PySem.W.codeIn K cd22 "_law_sorted" = true)(k22:PySem.W.keepIn K (.ref f22)=true)
    (a23:PySem.W.nsIn K mainGlobals "_law_alike" = some (some (.ref f23)))(l23:K.lookup f23=some ⟨oc23,od23,.func (PySem.W.fnOf "_law_alike" "_law_alike" (az bg) (av bg) (ag bg) .none kV23 dc23 pm23 an23 cd23 ct23),sl23⟩)(c23:PySem.W.codeIn K cd23 "_law_alike" = true)(k23:PySem.W.keepIn K (.ref f23)=true)
    (a24:PySem.W.nsIn K mainGlobals "_law_copy" = some (some (.ref f24)))(l24:K.lookup f24=some ⟨oc24,od24,.func (PySem.W.fnOf "_law_copy" "_law_copy" (az fu) (av fu) (ag fu) .none kV24 dc24 pm24 an24 cd24 ct24),sl24⟩)(c24:PySem.W.codeIn K cd24 "_law_copy" = true)(k24:PySem.W.keepIn K (.ref f24)=true)
    (a25:PySem.W.nsIn K mainGlobals "_law_apart" = some (some (.ref f25)))(l25:K.lookup f25=some ⟨oc25,od25,.func (PySem.W.fnOf "_law_apart" "_law_apart" (az aU) (av aU) (ag aU) .none kV25 dc25 pm25 an25 cd25 ct25),sl25⟩)(c25:PySem.W.codeIn K cd25 "_law_apart" = true)(k25:PySem.W.keepIn K (.ref f25)=true)
    (a26:PySem.W.nsIn K mainGlobals "_law_many_keys" = some (some (.ref f26)))(l26:K.lookup f26=some ⟨oc26,od26,.func (PySem.W.fnOf "_law_many_keys" "_law_many_keys" (az aH) (av aH) (ag aH) .none kV26 dc26 pm26 an26 cd26 ct26),sl26⟩)(c26:PySem.W.codeIn K cd26 "_law_many_keys" = true)(k26:PySem.W.keepIn K (.ref f26)=true)
    (a27:PySem.W.nsIn K mainGlobals "_law_many" = some (some (.ref f27)))(l27:K.lookup f27=some ⟨oc27,od27,.func (PySem.W.fnOf "_law_many" "_law_many" (az bK) (av bK) (ag bK) .none kV27 dc27 pm27 an27 cd27 ct27),sl27⟩)(c27:PySem.W.codeIn K cd27 "_law_many" = true)(k27:PySem.W.keepIn K (.ref f27)=true)
    (a28:PySem.W.nsIn K mainGlobals "law" = some (some (.ref f28)))(l28:K.lookup f28=some ⟨oc28,od28,.func (PySem.W.fnOf "law" "law" (az mF) (av mF) (ag mF) .none kV28 dc28 pm28 an28 cd28 ct28),sl28⟩)(c28:PySem.W.codeIn K cd28 "law" = true)(k28:PySem.W.keepIn K (.ref f28)=true)
    (g_LETTERS:PySem.W.nsIn K mainGlobals "LETTERS" = some (some (.str lettersS t_LETTERS)))
    (g_MOST_LETTERS:PySem.W.nsIn K mainGlobals "MOST_LETTERS" = some (some (.int 4 t_MOST_LETTERS)))
    (g_MOST_LOCKS:PySem.W.nsIn K mainGlobals "MOST_LOCKS" = some (some (.int 4 t_MOST_LOCKS)))
    (z_isinstance:PySem.W.nsIn K mainGlobals "isinstance" = some none)
    (z_str:PySem.W.nsIn K mainGlobals "str" = some none)
    (z_len:PySem.W.nsIn K mainGlobals "len" = some none)
    (z_all:PySem.W.nsIn K mainGlobals "all" = some none)
    (z_list:PySem.W.nsIn K mainGlobals "list" = some none)
    (z_tuple:PySem.W.nsIn K mainGlobals "tuple" = some none)
    (z_sorted:PySem.W.nsIn K mainGlobals "sorted" = some none)
    (z_range:PySem.W.nsIn K mainGlobals "range" = some none)
    (z_min:PySem.W.nsIn K mainGlobals "min" = some none)
    (z_max:PySem.W.nsIn K mainGlobals "max" = some none)
    (z_int:PySem.W.nsIn K mainGlobals "int" = some none)
    (z_bool:PySem.W.nsIn K mainGlobals "bool" = some none)
    : ∃ fd:FuncData,(∀ (s:Shared) (v:Value),BindsTo s fd ⟨[v],[]⟩ [("script",v)])/\∀ base:Heap,K.In base->base.Ns mainGlobals mg->FnOk l.prog w K mg base CX0 9 fa fd ["script"] (lU K):=by
  have e:=hfa.symm.trans (PySem.W.mg_of X G a28)
  cases e
  have F_is_kind:=bd (st:=eU) l1 c1 k1
  have j6:Cal K mg "is_kind" ["thing"] f1 _:=⟨PySem.W.mg_of X G a1,k1,F_is_kind.binds fun _ _ _ _ _ _ us hl=>match us,hl with | [_],_=>rfl⟩
  have F_are_kinds:=bd (st:=dj) l2 c2 k2
  have dw:Cal K mg "are_kinds" ["thing"] f2 _:=⟨PySem.W.mg_of X G a2,k2,F_are_kinds.binds fun _ _ _ _ _ _ us hl=>match us,hl with | [_],_=>rfl⟩
  have F_are_locks:=bd (st:=fV) l3 c3 k3
  have iE:Cal K mg "are_locks" ["thing"] f3 _:=⟨PySem.W.mg_of X G a3,k3,F_are_locks.binds fun _ _ _ _ _ _ us hl=>match us,hl with | [_],_=>rfl⟩
  have F_is_room:=bd (st:=jF) l4 c4 k4
  have jU:Cal K mg "is_room" ["thing"] f4 _:=⟨PySem.W.mg_of X G a4,k4,F_is_room.binds fun _ _ _ _ _ _ us hl=>match us,hl with | [_],_=>rfl⟩
  have F_is_house:=bd (st:=dm) l5 c5 k5
  have c_is_house:Cal K mg "is_house" ["thing"] f5 _:=⟨PySem.W.mg_of X G a5,k5,F_is_house.binds fun _ _ _ _ _ _ us hl=>match us,hl with | [_],_=>rfl⟩
  have F_require_house:=bd (st:=nC) l6 c6 k6
  have c_require_house:Cal K mg "require_house" ["thing"] f6 _:=⟨PySem.W.mg_of X G a6,k6,F_require_house.binds fun _ _ _ _ _ _ us hl=>match us,hl with | [_],_=>rfl⟩
  have F_show_keys:=bd (st:=bI) l7 c7 k7
  have c_show_keys:Cal K mg "show_keys" ["keys"] f7 _:=⟨PySem.W.mg_of X G a7,k7,F_show_keys.binds fun _ _ _ _ _ _ us hl=>match us,hl with | [_],_=>rfl⟩
  have F_show_room:=bd (st:=bH) l8 c8 k8
  have c_show_room:Cal K mg "show_room" ["room"] f8 _:=⟨PySem.W.mg_of X G a8,k8,F_show_room.binds fun _ _ _ _ _ _ us hl=>match us,hl with | [_],_=>rfl⟩
  have F_show_house:=bd (st:=bh) l9 c9 k9
  have c_show_house:Cal K mg "show_house" ["house"] f9 _:=⟨PySem.W.mg_of X G a9,k9,F_show_house.binds fun _ _ _ _ _ _ us hl=>match us,hl with | [_],_=>rfl⟩
  have F_split_keys:=bd (st:=bu) l10 c10 k10
  have c_split_keys:Cal K mg "split_keys" ["text"] f10 _:=⟨PySem.W.mg_of X G a10,k10,F_split_keys.binds fun _ _ _ _ _ _ us hl=>match us,hl with | [_],_=>rfl⟩
  have F_split_room:=bd (st:=bx) l11 c11 k11
  have c_split_room:Cal K mg "split_room" ["line"] f11 _:=⟨PySem.W.mg_of X G a11,k11,F_split_room.binds fun _ _ _ _ _ _ us hl=>match us,hl with | [_],_=>rfl⟩
  have F_read_house:=bd (st:=bi) l12 c12 k12
  have c_read_house:Cal K mg "read_house" ["text"] f12 _:=⟨PySem.W.mg_of X G a12,k12,F_read_house.binds fun _ _ _ _ _ _ us hl=>match us,hl with | [_],_=>rfl⟩
  have F__law_cell_at:=bd (st:=bf) l13 c13 k13
  have c__law_cell_at:Cal K mg "_law_cell_at" ["script","k"] f13 _:=⟨PySem.W.mg_of X G a13,k13,F__law_cell_at.binds fun _ _ _ _ _ _ us hl=>match us,hl with | [_,_],_=>rfl⟩
  have F__law_numbers:=bd (st:=be) l14 c14 k14
  have c__law_numbers:Cal K mg "_law_numbers" ["cell","many"] f14 _:=⟨PySem.W.mg_of X G a14,k14,F__law_numbers.binds fun _ _ _ _ _ _ us hl=>match us,hl with | [_,_],_=>rfl⟩
  have F__law_deck:=bd (st:=bG) l15 c15 k15
  have c__law_deck:Cal K mg "_law_deck" ["cell","many"] f15 _:=⟨PySem.W.mg_of X G a15,k15,F__law_deck.binds fun _ _ _ _ _ _ us hl=>match us,hl with | [_,_],_=>rfl⟩
  have F__law_take:=bd (st:=bF) l16 c16 k16
  have c__law_take:Cal K mg "_law_take" ["deck","many"] f16 _:=⟨PySem.W.mg_of X G a16,k16,F__law_take.binds fun _ _ _ _ _ _ us hl=>match us,hl with | [_,_],_=>rfl⟩
  have F__law_kind:=bd (st:=bJ) l17 c17 k17
  have c__law_kind:Cal K mg "_law_kind" ["deck","few"] f17 _:=⟨PySem.W.mg_of X G a17,k17,F__law_kind.binds fun _ _ _ _ _ _ us hl=>match us,hl with | [_,_],_=>rfl⟩
  have F__law_keys:=bd (st:=br) l18 c18 k18
  have c__law_keys:Cal K mg "_law_keys" ["deck","few","most"] f18 _:=⟨PySem.W.mg_of X G a18,k18,F__law_keys.binds fun _ _ _ _ _ _ us hl=>match us,hl with | [_,_,_],_=>rfl⟩
  have F__law_house:=bd (st:=bm) l19 c19 k19
  have c__law_house:Cal K mg "_law_house" ["deck","most","locks"] f19 _:=⟨PySem.W.mg_of X G a19,k19,F__law_house.binds fun _ _ _ _ _ _ us hl=>match us,hl with | [_,_,_],_=>rfl⟩
  have F__law_keys_written:=bd (st:=aF) l20 c20 k20
  have c__law_keys_written:Cal K mg "_law_keys_written" ["keys"] f20 _:=⟨PySem.W.mg_of X G a20,k20,F__law_keys_written.binds fun _ _ _ _ _ _ us hl=>match us,hl with | [_],_=>rfl⟩
  have F__law_lines:=bd (st:=bw) l21 c21 k21
  have c__law_lines:Cal K mg "_law_lines" ["house"] f21 _:=⟨PySem.W.mg_of X G a21,k21,F__law_lines.binds fun _ _ _ _ _ _ us hl=>match us,hl with | [_],_=>rfl⟩
  have F__law_sorted:=bd (st:=aY) l22 c22 k22
  have c__law_sorted:Cal K mg "_law_sorted" ["house"] f22 _:=⟨PySem.W.mg_of X G a22,k22,F__law_sorted.binds fun _ _ _ _ _ _ us hl=>match us,hl with | [_],_=>rfl⟩
  have F__law_alike:=bd (st:=bg) l23 c23 k23
  have c__law_alike:Cal K mg "_law_alike" ["found","due"] f23 _:=⟨PySem.W.mg_of X G a23,k23,F__law_alike.binds fun _ _ _ _ _ _ us hl=>match us,hl with | [_,_],_=>rfl⟩
  have F__law_copy:=bd (st:=fu) l24 c24 k24
  have c__law_copy:Cal K mg "_law_copy" ["house"] f24 _:=⟨PySem.W.mg_of X G a24,k24,F__law_copy.binds fun _ _ _ _ _ _ us hl=>match us,hl with | [_],_=>rfl⟩
  have F__law_apart:=bd (st:=aU) l25 c25 k25
  have c__law_apart:Cal K mg "_law_apart" ["told"] f25 _:=⟨PySem.W.mg_of X G a25,k25,F__law_apart.binds fun _ _ _ _ _ _ us hl=>match us,hl with | [_],_=>rfl⟩
  have F__law_many_keys:=bd (st:=aH) l26 c26 k26
  have c__law_many_keys:Cal K mg "_law_many_keys" ["deck"] f26 _:=⟨PySem.W.mg_of X G a26,k26,F__law_many_keys.binds fun _ _ _ _ _ _ us hl=>match us,hl with | [_],_=>rfl⟩
  have F__law_many:=bd (st:=bK) l27 c27 k27
  have c__law_many:Cal K mg "_law_many" ["deck","house"] f27 _:=⟨PySem.W.mg_of X G a27,k27,F__law_many.binds fun _ _ _ _ _ _ us hl=>match us,hl with | [_,_],_=>rfl⟩
  have oY:=bd (st:=mF) l28 c28 k28
  have jG:=PySem.W.mg_of X G g_LETTERS
  have eH:=PySem.W.mg_of X G g_MOST_LETTERS
  have gE:=PySem.W.mg_of X G g_MOST_LOCKS
  have am:=PySem.W.mg_none_of X G z_isinstance
  have du:=PySem.W.mg_none_of X G z_str
  have bL:=PySem.W.mg_none_of X G z_len
  have oq:=PySem.W.mg_none_of X G z_all
  have bP:=PySem.W.mg_none_of X G z_list
  have ca:=PySem.W.mg_none_of X G z_tuple
  have bn:=PySem.W.mg_none_of X G z_sorted
  have aD:=PySem.W.mg_none_of X G z_range
  have mQ:=PySem.W.mg_none_of X G z_min
  have nq:=PySem.W.mg_none_of X G z_max
  have dh:=PySem.W.mg_none_of X G z_int
  have eg:=PySem.W.mg_none_of X G z_bool
  refine⟨PySem.W.fnOf "law" "law" (az mF) (av mF) (ag mF) .none kV28 dc28 pm28 an28 cd28 ct28,fun s v=>.of_eq rfl,fun base _ _=>?_⟩
  have Gl:Glb mg:=⟨am,du,bL,oq,⟨_,jG⟩,⟨_,eH⟩⟩
  have GK:FnOk l.prog w K mg base CX0 2 _ _ ["thing"] eR:=lX F_are_kinds F_is_kind j6 Gl bP
  have GL:FnOk l.prog w K mg base CX0 3 _ _ ["thing"] iz:=lq F_are_locks GK dw bL bn ⟨_,gE⟩
  have GR:FnOk l.prog w K mg base CX0 4 _ _ ["thing"] kE:=mW F_is_room GL iE GK dw am bL ca
  have GH:FnOk l.prog w K mg base CX0 5 _ _ ["thing"] gn:=ly F_is_house GR jU GK dw am bL ca bP oq
  have GQ:FnOk l.prog w K mg base CX0 6 _ _ ["thing"] mR:=nP F_require_house GH c_is_house
  have G1:FnOk l.prog w K mg base CX0 1 _ _ ["keys"] gm:=lY F_show_keys bn
  have G2:FnOk l.prog w K mg base CX0 2 _ _ ["room"] iO:=lC F_show_room G1 c_show_keys
  have G3:FnOk l.prog w K mg base CX0 7 _ _ ["house"] gh:=lp F_show_house GQ c_require_house G1 c_show_keys G2 c_show_room
  have G4:FnOk l.prog w K mg base CX0 1 _ _ ["text"] d5:=kc F_split_keys
  have G5:FnOk l.prog w K mg base CX0 2 _ _ ["line"] gj:=kQ F_split_room G4 c_split_keys
  have G6:FnOk l.prog w K mg base CX0 8 _ _ ["text"] ku:=nB F_read_house GH c_is_house G3 c_show_house G4 c_split_keys G5 c_split_room am du
  have L1:FnOk l.prog w K mg base CX0 1 _ _ ["script","k"] (kZ K):=mZ F__law_cell_at bL
  have L2:FnOk l.prog w K mg base CX0 1 _ _ ["cell","many"] jo:=m6 F__law_numbers aD
  have L3:FnOk l.prog w K mg base CX0 2 _ _ ["cell","many"] jW:=ny F__law_deck L2 c__law_numbers
  have L4:FnOk l.prog w K mg base CX0 1 _ _ ["deck","many"] dn:=mX F__law_take
  have L5:FnOk l.prog w K mg base CX0 2 _ _ ["deck","few"] gx:=lH F__law_kind L4 c__law_take aD
  have L6:FnOk l.prog w K mg base CX0 3 _ _ ["deck","few","most"] iM:=mf F__law_keys L4 c__law_take L5 c__law_kind aD
  have L7:FnOk l.prog w K mg base CX0 4 _ _ ["deck","most","locks"] gd:=kX F__law_house L4 c__law_take L5 c__law_kind L6 c__law_keys aD bn dh
  have L8:FnOk l.prog w K mg base CX0 1 _ _ ["house"] eQ:=jE F__law_sorted bP bn
  have L9:FnOk l.prog w K mg base CX0 1 _ _ ["keys"] iq:=lx F__law_keys_written bn dh
  have LA:FnOk l.prog w K mg base CX0 2 _ _ ["house"] iK:=lj F__law_lines L9 c__law_keys_written
  have LB:FnOk l.prog w K mg base CX0 2 _ _ ["deck"] iB:=mm F__law_many_keys L4 c__law_take aD
  have LC:FnOk l.prog w K mg base CX0 3 _ _ ["deck","house"] kC:=mY F__law_many L4 c__law_take LB c__law_many_keys bL
  have LD:FnOk l.prog w K mg base CX0 1 _ _ ["house"] kB:=mK F__law_copy bP
  have A1:=j8 (P:=l.prog) (w:=w) (mg:=mg) (base:=base) F__law_alike m8 c__law_alike eg dh am bL bP aD du ca
  have A2:=j8 F__law_alike A1 c__law_alike eg dh am bL bP aD du ca
  have A3:=j8 F__law_alike A2 c__law_alike eg dh am bL bP aD du ca
  have A4:=j8 F__law_alike A3 c__law_alike eg dh am bL bP aD du ca
  have A5:=j8 F__law_alike A4 c__law_alike eg dh am bL bP aD du ca
  have LE:FnOk l.prog w K mg base CX0 1 _ _ ["told"] iU:=lD F__law_apart bP bL aD
  exact oy oY L1 c__law_cell_at L2 c__law_numbers L3 c__law_deck L7 c__law_house LC c__law_many LA c__law_lines LD c__law_copy (A5.mono (by decide)) c__law_alike LE c__law_apart L8 c__law_sorted G6 c_read_house G3 c_show_house aD bL mQ nq dh am du
theorem walk {l:PySem.W.OpenLaw}{q:Program}{loose:List Str}{XP:(Str->Option Value)->Heap->Prop}{YP:World->Heap->Prop}{d:DefRec}{K:Params->PySem.W.Frag}(hn:l.most=some 63)(hdf:d.params.defaults=[])
    (hY:∀ (w:World) (h:Heap),YP w h->(K w.params).In h)
    (F:∀ (w:World) (mg:Str->Option Value) (fa:Addr) (h:Heap),(K w.params).In h->h.Ns mainGlobals mg->mg d.name=some (.ref fa) →
      ∃ fd:FuncData,(∀ (s:Shared) (u:Value),BindsTo s fd ⟨[u],[]⟩ [("script",u)])/\∀ base:Heap,(K w.params).In base->base.Ns mainGlobals mg->FnOk l.prog w (K w.params) mg base CX0 9 fa fd ["script"] (lU (K w.params))) :
    PySem.W.WalkO q loose XP YP l.row.toRowW d [] (fun f vs=>PySem.call f vs) :=
  L2.walk_of (n:=63) (k:=9) (x := "script") (CX:=fun _=>CX0) (sp:=fun w=>lU (K w.params)) hn (by decide) hdf ⟨rfl,by decide,by decide⟩ hY F (fun _ _ a ns hl _ hS=>⟨a,ns,rfl,hS,hl,fun _=>rfl⟩) fun _ _ _ _ _ z=>z
end K7
namespace PySem.W.Fast
theorem tw10010153684680217062 : True := ⟨⟩
theorem tw10039411297414711604 : True := ⟨⟩
theorem tw1004785618776967172 : True := ⟨⟩
theorem tw10103148319766851508 : True := ⟨⟩
theorem tw10379051940008257958 : True := ⟨⟩
theorem tw10624463086078688261 : True := ⟨⟩
theorem tw10744383086240658648 : True := ⟨⟩
theorem tw10746217054764332516 : True := ⟨⟩
theorem tw10790195806525807268 : True := ⟨⟩
theorem tw10898084141289477137 : True := ⟨⟩
theorem tw10901361032508601016 : True := ⟨⟩
theorem tw11174576086936004972 : True := ⟨⟩
theorem tw11221164963548055916 : True := ⟨⟩
theorem tw11330613433125238381 : True := ⟨⟩
theorem tw11645847709375755048 : True := ⟨⟩
theorem tw11651311396139135750 : True := ⟨⟩
theorem tw11810790605198349226 : True := ⟨⟩
theorem tw11882139360900793800 : True := ⟨⟩
theorem tw11921652188373681875 : True := ⟨⟩
theorem tw11954340718084632117 : True := ⟨⟩
theorem tw11984344128412208260 : True := ⟨⟩
theorem tw12043520774115550747 : True := ⟨⟩
theorem tw12109329194384568209 : True := ⟨⟩
theorem tw12235533294449623480 : True := ⟨⟩
theorem tw12297546538786322925 : True := ⟨⟩
theorem tw12435247272512312934 : True := ⟨⟩
theorem tw12502186506517037890 : True := ⟨⟩
theorem tw12552090053934469804 : True := ⟨⟩
theorem tw12802228347075086923 : True := ⟨⟩
theorem tw12926885536489443790 : True := ⟨⟩
theorem tw13030022350399556140 : True := ⟨⟩
theorem tw13158419332307825796 : True := ⟨⟩
theorem tw13199676418957666035 : True := ⟨⟩
theorem tw13297701574942738935 : True := ⟨⟩
theorem tw133150069391781626 : True := ⟨⟩
theorem tw133974286881218953 : True := ⟨⟩
theorem tw13438442609693324751 : True := ⟨⟩
theorem tw13468576257438469650 : True := ⟨⟩
theorem tw13624325865608259779 : True := ⟨⟩
theorem tw13694091647639922865 : True := ⟨⟩
theorem tw13766435221642898968 : True := ⟨⟩
theorem tw14039127579056666125 : True := ⟨⟩
theorem tw14071400899543568054 : True := ⟨⟩
theorem tw14108876907867983252 : True := ⟨⟩
theorem tw14177478124288912314 : True := ⟨⟩
theorem tw14257282069651037235 : True := ⟨⟩
theorem tw14311243250609250671 : True := ⟨⟩
theorem tw14317932955452731957 : True := ⟨⟩
theorem tw1443154603959696999 : True := ⟨⟩
theorem tw14470593193955103523 : True := ⟨⟩
theorem tw14578933583383202727 : True := ⟨⟩
theorem tw1461534383454361884 : True := ⟨⟩
theorem tw14621856248158208558 : True := ⟨⟩
theorem tw14753352723150411644 : True := ⟨⟩
theorem tw1484851548563253058 : True := ⟨⟩
theorem tw14879186396369724330 : True := ⟨⟩
theorem tw14962773220190123385 : True := ⟨⟩
theorem tw14974424044187713389 : True := ⟨⟩
theorem tw15060734304968016450 : True := ⟨⟩
theorem tw15142097133577307648 : True := ⟨⟩
theorem tw15310671144120500352 : True := ⟨⟩
theorem tw15432080129814746713 : True := ⟨⟩
theorem tw15443923945835304850 : True := ⟨⟩
theorem tw15517696067765001591 : True := ⟨⟩
theorem tw15611111226795068721 : True := ⟨⟩
theorem tw15700587633633989943 : True := ⟨⟩
theorem tw15783575412061070627 : True := ⟨⟩
theorem tw15794322651328585565 : True := ⟨⟩
theorem tw15914507787747789877 : True := ⟨⟩
theorem tw15928851940617528852 : True := ⟨⟩
theorem tw16118648246171837481 : True := ⟨⟩
theorem tw16231497438396719909 : True := ⟨⟩
theorem tw16308822102033145548 : True := ⟨⟩
theorem tw16353710917742465260 : True := ⟨⟩
theorem tw16502398220597431639 : True := ⟨⟩
theorem tw16554940124485200731 : True := ⟨⟩
theorem tw1665925343160817889 : True := ⟨⟩
theorem tw16676084482964372068 : True := ⟨⟩
theorem tw16806786467056035313 : True := ⟨⟩
theorem tw16842669283592173145 : True := ⟨⟩
theorem tw16882371041700267233 : True := ⟨⟩
theorem tw16904263168907296592 : True := ⟨⟩
theorem tw1697276485125537669 : True := ⟨⟩
theorem tw16973333081660739479 : True := ⟨⟩
theorem tw1706104914477763169 : True := ⟨⟩
theorem tw17085631758391887462 : True := ⟨⟩
theorem tw17188105000824125251 : True := ⟨⟩
theorem tw1722036895812661389 : True := ⟨⟩
theorem tw17292345019551354920 : True := ⟨⟩
theorem tw1733008750118008774 : True := ⟨⟩
theorem tw17347367224244719943 : True := ⟨⟩
theorem tw17438884598346927486 : True := ⟨⟩
theorem tw17502094651495035870 : True := ⟨⟩
theorem tw17613219717438226156 : True := ⟨⟩
theorem tw17648647476773283008 : True := ⟨⟩
theorem tw1776214705958024564 : True := ⟨⟩
theorem tw17775440269733823966 : True := ⟨⟩
theorem tw17878410132331030713 : True := ⟨⟩
theorem tw17911217464725539929 : True := ⟨⟩
theorem tw17937365797407094302 : True := ⟨⟩
theorem tw18009438726559667941 : True := ⟨⟩
theorem tw18121486631353247939 : True := ⟨⟩
theorem tw18191288314056617707 : True := ⟨⟩
theorem tw18207156524933932728 : True := ⟨⟩
theorem tw18326607589774467572 : True := ⟨⟩
theorem tw18381267727136596428 : True := ⟨⟩
theorem tw18445187268024736975 : True := ⟨⟩
theorem tw1933146154063761188 : True := ⟨⟩
theorem tw1946060669166627855 : True := ⟨⟩
theorem tw1953045572306844304 : True := ⟨⟩
theorem tw1961200780105080113 : True := ⟨⟩
theorem tw2036262488522142178 : True := ⟨⟩
theorem tw2039975294121905838 : True := ⟨⟩
theorem tw2044917863990969003 : True := ⟨⟩
theorem tw2063671655562939818 : True := ⟨⟩
theorem tw2175080734559865846 : True := ⟨⟩
theorem tw2282690736121618306 : True := ⟨⟩
theorem tw2285837453859065857 : True := ⟨⟩
theorem tw2331966147102940412 : True := ⟨⟩
theorem tw2367599765183390302 : True := ⟨⟩
theorem tw24970530876419914 : True := ⟨⟩
theorem tw2522051731797580215 : True := ⟨⟩
theorem tw2528478585131240173 : True := ⟨⟩
theorem tw2543232155972656673 : True := ⟨⟩
theorem tw274948408154612162 : True := ⟨⟩
theorem tw2862126521973989848 : True := ⟨⟩
theorem tw2883219717243849790 : True := ⟨⟩
theorem tw2968821349742506021 : True := ⟨⟩
theorem tw3001663023912379965 : True := ⟨⟩
theorem tw3271154100865038131 : True := ⟨⟩
theorem tw3342157262108735590 : True := ⟨⟩
theorem tw350916657283088403 : True := ⟨⟩
theorem tw3632790539354431711 : True := ⟨⟩
theorem tw3757201435146298852 : True := ⟨⟩
theorem tw377173351445046753 : True := ⟨⟩
theorem tw3882422809519302181 : True := ⟨⟩
theorem tw4029085476566362419 : True := ⟨⟩
theorem tw414908259484741937 : True := ⟨⟩
theorem tw4177751789688532556 : True := ⟨⟩
theorem tw4225314690115555642 : True := ⟨⟩
theorem tw4572879237032861417 : True := ⟨⟩
theorem tw4602565033575412163 : True := ⟨⟩
theorem tw467223279621201026 : True := ⟨⟩
theorem tw4683575431387447333 : True := ⟨⟩
theorem tw475352027687667285 : True := ⟨⟩
theorem tw487350954481015724 : True := ⟨⟩
theorem tw4896636114701134839 : True := ⟨⟩
theorem tw4899433500134702584 : True := ⟨⟩
theorem tw4908677896197923447 : True := ⟨⟩
theorem tw4915816677914958735 : True := ⟨⟩
theorem tw4987669737325539386 : True := ⟨⟩
theorem tw5097857139465383793 : True := ⟨⟩
theorem tw5191954433525073620 : True := ⟨⟩
theorem tw5202212292195158904 : True := ⟨⟩
theorem tw5239247037687009938 : True := ⟨⟩
theorem tw5467950997543841444 : True := ⟨⟩
theorem tw5477025455182638549 : True := ⟨⟩
theorem tw5543076969191590007 : True := ⟨⟩
theorem tw5543628260913734323 : True := ⟨⟩
theorem tw5565139469687348242 : True := ⟨⟩
theorem tw5823976602044073413 : True := ⟨⟩
theorem tw5867478409276517754 : True := ⟨⟩
theorem tw586964480168240711 : True := ⟨⟩
theorem tw5876791239384995633 : True := ⟨⟩
theorem tw5937425540636088539 : True := ⟨⟩
theorem tw5957835368877996349 : True := ⟨⟩
theorem tw614462415830455218 : True := ⟨⟩
theorem tw6156099755460337695 : True := ⟨⟩
theorem tw6158945701549008943 : True := ⟨⟩
theorem tw6457760317850549345 : True := ⟨⟩
theorem tw6529759113318460630 : True := ⟨⟩
theorem tw6544566724902549026 : True := ⟨⟩
theorem tw6572130535069376923 : True := ⟨⟩
theorem tw6596430990006365515 : True := ⟨⟩
theorem tw671757960347831503 : True := ⟨⟩
theorem tw6738401813298069772 : True := ⟨⟩
theorem tw6774962714798821548 : True := ⟨⟩
theorem tw6855003447462902480 : True := ⟨⟩
theorem tw6861720650470135068 : True := ⟨⟩
theorem tw6975692441247650861 : True := ⟨⟩
theorem tw7028315174841157713 : True := ⟨⟩
theorem tw7040043484141466711 : True := ⟨⟩
theorem tw7074931620286041983 : True := ⟨⟩
theorem tw7302155108410314194 : True := ⟨⟩
theorem tw756790072926985129 : True := ⟨⟩
theorem tw7617772453649645049 : True := ⟨⟩
theorem tw7705257136900191253 : True := ⟨⟩
theorem tw78942186413711617 : True := ⟨⟩
theorem tw8406577362241953753 : True := ⟨⟩
theorem tw8569213975885651515 : True := ⟨⟩
theorem tw8600545528700501527 : True := ⟨⟩
theorem tw8759852862210147351 : True := ⟨⟩
theorem tw8786870965334686056 : True := ⟨⟩
theorem tw8805532993992874235 : True := ⟨⟩
theorem tw8825870186439977109 : True := ⟨⟩
theorem tw9138452616819153982 : True := ⟨⟩
theorem tw9211129879280031220 : True := ⟨⟩
theorem tw9215418650126414366 : True := ⟨⟩
theorem tw9237832168835649467 : True := ⟨⟩
theorem tw9579327514631586380 : True := ⟨⟩
theorem tw9611185972990276847 : True := ⟨⟩
theorem tw962618480291730005 : True := ⟨⟩
theorem tw9740584735556840702 : True := ⟨⟩
theorem tw9882786238836080462 : True := ⟨⟩
theorem tw9953773325447230642 : True := ⟨⟩
theorem tw9973597965172961286 : True := ⟨⟩
end PySem.W.Fast
open PySem PySem.W PyProof.Rows
set_option maxRecDepth 100000 in
set_option maxHeartbeats 0 in
theorem PySem.Challenge.cw_keyrooms_k50_houses_written_and_read_holds : PySem.Challenge.rw_keyrooms_k50_houses_written_and_read.Holds := by
  w_on; o_law; k_head; (case hw => w_witness2)
  k_fill
  refine K7.walk (l := PySem.Challenge.rw_keyrooms_k50_houses_written_and_read) rfl rfl (fun w h Y => PySem.W.kIn_of Y) ?F
  case F =>
    intro w mg fa h KX G hmg
    refine' K7.all_mk KX G hmg ?a1 ?l1 ?c1 ?k1 ?a2 ?l2 ?c2 ?k2 ?a3 ?l3 ?c3 ?k3 ?a4 ?l4 ?c4 ?k4 ?a5 ?l5 ?c5 ?k5 ?a6 ?l6 ?c6 ?k6 ?a7 ?l7 ?c7 ?k7 ?a8 ?l8 ?c8 ?k8 ?a9 ?l9 ?c9 ?k9 ?a10 ?l10 ?c10 ?k10 ?a11 ?l11 ?c11 ?k11 ?a12 ?l12 ?c12 ?k12 ?a13 ?l13 ?c13 ?k13 ?a14 ?l14 ?c14 ?k14 ?a15 ?l15 ?c15 ?k15 ?a16 ?l16 ?c16 ?k16 ?a17 ?l17 ?c17 ?k17 ?a18 ?l18 ?c18 ?k18 ?a19 ?l19 ?c19 ?k19 ?a20 ?l20 ?c20 ?k20 ?a21 ?l21 ?c21 ?k21 ?a22 ?l22 ?c22 ?k22 ?a23 ?l23 ?c23 ?k23 ?a24 ?l24 ?c24 ?k24 ?a25 ?l25 ?c25 ?k25 ?a26 ?l26 ?c26 ?k26 ?a27 ?l27 ?c27 ?k27 ?a28 ?l28 ?c28 ?k28 ?g_LETTERS ?g_MOST_LETTERS ?g_MOST_LOCKS ?z_isinstance ?z_str ?z_len ?z_all ?z_list ?z_tuple ?z_sorted ?z_range ?z_min ?z_max ?z_int ?z_bool
    (case a1 => k_is)
    (case l1 => k_is)
    (case c1 => k_is)
    (case k1 => k_is)
    (case a2 => k_is)
    (case l2 => k_is)
    (case c2 => k_is)
    (case k2 => k_is)
    (case a3 => k_is)
    (case l3 => k_is)
    (case c3 => k_is)
    (case k3 => k_is)
    (case a4 => k_is)
    (case l4 => k_is)
    (case c4 => k_is)
    (case k4 => k_is)
    (case a5 => k_is)
    (case l5 => k_is)
    (case c5 => k_is)
    (case k5 => k_is)
    (case a6 => k_is)
    (case l6 => k_is)
    (case c6 => k_is)
    (case k6 => k_is)
    (case a7 => k_is)
    (case l7 => k_is)
    (case c7 => k_is)
    (case k7 => k_is)
    (case a8 => k_is)
    (case l8 => k_is)
    (case c8 => k_is)
    (case k8 => k_is)
    (case a9 => k_is)
    (case l9 => k_is)
    (case c9 => k_is)
    (case k9 => k_is)
    (case a10 => k_is)
    (case l10 => k_is)
    (case c10 => k_is)
    (case k10 => k_is)
    (case a11 => k_is)
    (case l11 => k_is)
    (case c11 => k_is)
    (case k11 => k_is)
    (case a12 => k_is)
    (case l12 => k_is)
    (case c12 => k_is)
    (case k12 => k_is)
    (case a13 => k_is)
    (case l13 => k_is)
    (case c13 => k_is)
    (case k13 => k_is)
    (case a14 => k_is)
    (case l14 => k_is)
    (case c14 => k_is)
    (case k14 => k_is)
    (case a15 => k_is)
    (case l15 => k_is)
    (case c15 => k_is)
    (case k15 => k_is)
    (case a16 => k_is)
    (case l16 => k_is)
    (case c16 => k_is)
    (case k16 => k_is)
    (case a17 => k_is)
    (case l17 => k_is)
    (case c17 => k_is)
    (case k17 => k_is)
    (case a18 => k_is)
    (case l18 => k_is)
    (case c18 => k_is)
    (case k18 => k_is)
    (case a19 => k_is)
    (case l19 => k_is)
    (case c19 => k_is)
    (case k19 => k_is)
    (case a20 => k_is)
    (case l20 => k_is)
    (case c20 => k_is)
    (case k20 => k_is)
    (case a21 => k_is)
    (case l21 => k_is)
    (case c21 => k_is)
    (case k21 => k_is)
    (case a22 => k_is)
    (case l22 => k_is)
    (case c22 => k_is)
    (case k22 => k_is)
    (case a23 => k_is)
    (case l23 => k_is)
    (case c23 => k_is)
    (case k23 => k_is)
    (case a24 => k_is)
    (case l24 => k_is)
    (case c24 => k_is)
    (case k24 => k_is)
    (case a25 => k_is)
    (case l25 => k_is)
    (case c25 => k_is)
    (case k25 => k_is)
    (case a26 => k_is)
    (case l26 => k_is)
    (case c26 => k_is)
    (case k26 => k_is)
    (case a27 => k_is)
    (case l27 => k_is)
    (case c27 => k_is)
    (case k27 => k_is)
    (case a28 => k_is)
    (case l28 => k_is)
    (case c28 => k_is)
    (case k28 => k_is)
    (case g_LETTERS => k_is)
    (case g_MOST_LETTERS => k_is)
    (case g_MOST_LOCKS => k_is)
    (case z_isinstance => k_is)
    (case z_str => k_is)
    (case z_len => k_is)
    (case z_all => k_is)
    (case z_list => k_is)
    (case z_tuple => k_is)
    (case z_sorted => k_is)
    (case z_range => k_is)
    (case z_min => k_is)
    (case z_max => k_is)
    (case z_int => k_is)
    (case z_bool => k_is)
