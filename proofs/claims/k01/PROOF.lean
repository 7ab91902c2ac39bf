import PyProof.Rows.All
import Wide.All
import OpenK.AllK
import Wide.FinOn
import Lean
import PyProof.EqAt
import PyProof.EqKinds
import PyProof.TupleCall
import PyProof.Rows.SetFrom
import PyProof.SetRoads
import KE.KDictSum
import PyProof.DictCompW
import KE.KEqDict
import KE.KxText
import PyProof.WalksEnum
import PyProof.EnumMake
import KE.KDictLaws
import PyProof.ReprBulk
import KE.KRevSl
import PyProof.AttrMissHeap
import KE.KDictOf
import PyProof.Rows.ReprShort
import PySem.Challenge.RW_keyrooms_k01_what_is_a_house
set_option Elab.async false
set_option linter.all false
set_option maxRecDepth 100000
namespace L2
open PySem PySem.Spec PyProof.Rows
abbrev Key := Sum Int Str
def keyIs : Key → Value → Bool
  | .inl k, v => Value.isInt k v
  | .inr x, v => Value.isStrOf x v
def keyH (w : World) : Key → Int
  | .inl k => hashInt k
  | .inr x => hashStr w x
theorem keyIs_shape : ∀ {k : Key} {v : Value}, keyIs k v = true → (∃ i t, k = Sum.inl i ∧ v = Value.int i t) ∨ (∃ x t, k = Sum.inr x ∧ v = Value.str x t)
  | .inl i, v, h => by
    obtain ⟨t, e⟩ := Value.isInt_shape (k := i) (v := v) h
    exact .inl ⟨i, t, rfl, e⟩
  | .inr x, v, h => by
    obtain ⟨t, e⟩ := Value.isStrOf_shape (x := x) (v := v) h
    exact .inr ⟨x, t, rfl, e⟩
theorem keyIs_int (i : Int) (t : Tok) : keyIs (.inl i) (.int i t) = true := by simp [keyIs, Value.isInt]
theorem key_ll (a b : Int) : decide ((Sum.inl a : Key) = Sum.inl b) = (a == b) := by
  by_cases e : a = b
  · subst e; simp
  · have h : ¬ (Sum.inl a : Key) = Sum.inl b := fun q => e (Sum.inl.inj q)
    rw [decide_eq_false h]
    exact (beq_eq_false_iff_ne.mpr e).symm
theorem key_rr (a b : Str) : decide ((Sum.inr a : Key) = Sum.inr b) = decide (a = b) := by
  by_cases e : a = b
  · subst e; simp
  · have h : ¬ (Sum.inr a : Key) = Sum.inr b := fun q => e (Sum.inr.inj q)
    rw [decide_eq_false h, decide_eq_false e]
theorem key_lr (a : Int) (b : Str) : decide ((Sum.inl a : Key) = Sum.inr b) = false := decide_eq_false (fun q => nomatch q)
theorem key_rl (a : Str) (b : Int) : decide ((Sum.inr a : Key) = Sum.inl b) = false := decide_eq_false (fun q => nomatch q)
def mixKind (prog : Program) (w : World) : PySem.KeyKind prog w Key where
  is := keyIs
  hash := keyH w
  inj := fun v a b ha hb => by
    rcases keyIs_shape ha with ⟨i, t, rfl, rfl⟩ | ⟨x, t, rfl, rfl⟩
    · rcases keyIs_shape hb with ⟨j, u, rfl, e⟩ | ⟨y, u, rfl, e⟩
      · injection e with e1 _; rw [e1]
      · exact nomatch e
    · rcases keyIs_shape hb with ⟨j, u, rfl, e⟩ | ⟨y, u, rfl, e⟩
      · exact nomatch e
      · injection e with e1 _; rw [e1]
  byValue := fun k v h => by
    rcases keyIs_shape h with ⟨i, t, rfl, rfl⟩ | ⟨x, t, rfl, rfl⟩ <;> rfl
  pyHash := fun hv h => by
    rcases keyIs_shape hv with ⟨i, t, rfl, rfl⟩ | ⟨x, t, rfl, rfl⟩
    · exact wpAny_pyHash_int h
    · exact wpAny_pyHash_str h
  eqBool := fun hu hv h => by
    rcases keyIs_shape hu with ⟨i, t, rfl, rfl⟩ | ⟨x, t, rfl, rfl⟩
    · rcases keyIs_shape hv with ⟨j, u, rfl, rfl⟩ | ⟨y, u, rfl, rfl⟩
      · rw [key_ll] at h; exact wpAny_eqBool_int h
      · rw [key_lr] at h; exact SeqAt.EqAt.int_str i t y u _ _ _ _ h
    · rcases keyIs_shape hv with ⟨j, u, rfl, rfl⟩ | ⟨y, u, rfl, rfl⟩
      · rw [key_rl] at h; exact SeqAt.EqAt.str_int x t j u _ _ _ _ h
      · rw [key_rr] at h; exact wpAny_eqBool_str h
  «strs» := fun k x t v h => by
    rcases keyIs_shape h with ⟨i, u, rfl, e⟩ | ⟨y, u, rfl, e⟩
    · exact nomatch e
    · injection e with e1 _
      subst e1
      cases v <;> rfl
theorem mixKind_int (prog : Program) (w : World) (i : Int) (t : Tok) : (mixKind prog w).is (.inl i) (.int i t) = true := keyIs_int i t
end L2
namespace L2
open PySem PySem.Spec PyProof.Rows
inductive V where
  | non | bl (b : Bool) | int (i : Int) | str (x : Str) | byt (b : Array UInt8) | flt (b : UInt64) | ref (a : Addr) | ty (n : String)
  deriving DecidableEq
def RelV : V → Value → Prop
  | .non, u => u = Value.none
  | .bl b, u => u = Value.bool b
  | .int i, u => ∃ t, u = Value.int i t
  | .str x, u => ∃ t, u = Value.str x t
  | .byt b, u => ∃ t, u = Value.bytes b t
  | .flt b, u => ∃ t, u = Value.float b t
  | .ref a, u => u = Value.ref a
  | .ty n, u => u = Value.type n
abbrev Vals : List V → List Value → Prop := Paired RelV
theorem Vals.length {xs : List V} {us : List Value} (r : Vals xs us) : xs.length = us.length := Paired.length r
theorem Vals.get : ∀ {xs : List V} {us : List Value} {i : Nat} {x : V}, Vals xs us → xs[i]? = some x → ∃ u, us[i]? = some u ∧ RelV x u
  | _, _, _, _, .nil, e => by simp at e
  | _, _, 0, _, .cons r _, e => by simp at e; subst e; exact ⟨_, rfl, r⟩
  | _, _, i + 1, x, .cons _ t, e => by
    obtain ⟨u, h1, h2⟩ := Vals.get (i := i) (x := x) t (by simpa using e)
    exact ⟨u, by simpa using h1, h2⟩
theorem Vals.set {x : V} {u : Value} (r : RelV x u) : ∀ {xs : List V} {us : List Value} (i : Nat), Vals xs us → Vals (xs.set i x) (us.set i u)
  | _, _, _, .nil => .nil
  | _, _, 0, .cons _ t => .cons r t
  | _, _, i + 1, .cons q t => .cons q (Vals.set r i t)
theorem Vals.append : ∀ {xs ys : List V} {us ws : List Value}, Vals xs us → Vals ys ws → Vals (xs ++ ys) (us ++ ws)
  | _, _, _, _, .nil, s => s
  | _, _, _, _, .cons r t, s => .cons r (Vals.append t s)
theorem Vals.take : ∀ {xs : List V} {us : List Value} (n : Nat), Vals xs us → Vals (xs.take n) (us.take n)
  | _, _, 0, _ => .nil
  | _, _, _ + 1, .nil => .nil
  | _, _, n + 1, .cons r t => .cons r (Vals.take n t)
theorem Vals.drop : ∀ {xs : List V} {us : List Value} (n : Nat), Vals xs us → Vals (xs.drop n) (us.drop n)
  | _, _, 0, r => r
  | _, _, _ + 1, .nil => .nil
  | _, _, n + 1, .cons _ t => Vals.drop n t
def RelO : Option V → Option Value → Prop
  | some v, some u => RelV v u
  | none, none => True
  | _, _ => False
def KV {κ : Type} : List (κ × V) → List (κ × Value) → Prop := Paired fun (p : κ × V) (q : κ × Value) => p.1 = q.1 ∧ RelV p.2 q.2
def kV : Key → V
  | .inl i => .int i
  | .inr x => .str x
inductive HO where
  | lst (xs : List V)
  | tup (xs : List V)
  | dK (kvs : List (Key × V)) | dT (kvs : List (List Key × V))
  | set (S : Int → Bool) (n : Nat)
  | ins (C dx : Addr) (fs : List (Str × V))
  | own (x : Addr)
  | xd (fs : List (Str × V))
  | met (f x : Addr)
  | rng (lo hi : Int)
  | frz (o : Obj) (u : HO)
  | tbl (ps : Array Value)
  | ext (φ : Heap → Prop)
abbrev Hp := Addr → Option HO
def upd (H : Hp) (a : Addr) (o : HO) : Hp := fun b => if b = a then some o else H b
theorem upd_same {H : Hp} {a : Addr} {o : HO} : upd H a o a = some o := by unfold upd; rw [if_pos rfl]
theorem upd_ne {H : Hp} {a b : Addr} {o : HO} (h : b ≠ a) : upd H a o b = H b := by unfold upd; rw [if_neg h]
theorem ne_of {H : Hp} {a b : Addr} {o u : HO} (h : H a = some o) (h' : H b = some u) (d : o ≠ u) : a ≠ b := by
  intro e; subst e; rw [h] at h'; exact d (Option.some.inj h')
theorem ne_of_none {H : Hp} {a b : Addr} {o : HO} (h : H a = some o) (h' : H b = none) : a ≠ b := by
  intro e; subst e; rw [h] at h'; cases h'
section
variable (P : Program) (w : World)
def ObjOk (H : Hp) (h : Heap) (a : Addr) : HO → Prop
  | .lst xs => xs.length ≤ sizeLine ∧ ∃ (its : List Value) (n : Nat), Vals xs its ∧ h.get? a = some { cls := .type "list", data := .seq its.toArray n }
  | .tup xs => xs.length ≤ sizeLine ∧ ∃ its : List Value, Vals xs its ∧ IsTup h a its.toArray
  | .dK kvs => kvs.length ≤ sizeLine ∧ (a == sysModules) = false ∧ ∃ vs, KV kvs vs ∧ h.DictOf (mixKind P w) a vs
  | .dT kvs => kvs.length ≤ sizeLine ∧ (a == sysModules) = false ∧ ∃ xs : List (List Key × Addr × Value),
      Paired (fun (p : List Key × V) (q : List Key × Addr × Value) => p.1 = q.1 ∧ H q.2.1 = some (.tup (p.1.map kV)) ∧ RelV p.2 q.2.2) kvs xs ∧
      ∃ o es ep, h.get? a = some o ∧ o.ExactDict ∧ o.data = .dict es ep ∧ es.toList = xs.map (entryOfKey (tupleKind (mixKind P w))) ∧ (xs.map (·.1)).Nodup
  | .set S n => h.SetOf (intKind P w) a S n
  | .ins C dx fs => H dx = some (.own a) ∧ fs.length ≤ 1000 ∧ dx ≠ a ∧ h.get? a = some (PySem.W.instObj C dx) ∧
      ∃ mA, h.Ns1 dx mA ∧ (∀ f, RelO (fs.lookup f) (mA f)) ∧ PySem.Within mA (fs.map (·.1))
  | .own _ => ∃ o, h.get? a = some o
  | .xd fs => ∃ mA, h.Ns1 a mA ∧ ∀ f, RelO (fs.lookup f) (mA f)
  | .rng lo hi => ∃ t u v, h.get? a = some { cls := .type "range", data := .fields #[.int lo t, .int hi u, .int 1 v] }
  | .frz o u => h.get? a = some o ∧ ObjOk H h a u
  | .tbl ps => h.get? a = some { cls := .none, data := .fields ps }
  | .met f x => h.get? a = some (PySem.W.methodObj (.ref f) (.ref x))
  | .ext φ => φ h ∧ (∃ o, h.get? a = some o) ∧ ∀ h1 h2 : Heap, φ h1 → (∀ o, h1.get? a = some o → h2.get? a = some o) → φ h2
def HOk (H : Hp) (h : Heap) : Prop := ∀ a o, H a = some o → ObjOk P w H h a o
end
section
variable {P : Program} {w : World} {H H' : Hp} {h h' : Heap} {a : Addr} {o : HO}
theorem ObjOk.lt (x : ObjOk P w H h a o) : a < h.objs.size := by
  cases o with
  | lst xs => obtain ⟨_, _, _, _, e⟩ := x; exact Heap.lt_size e
  | tup xs => obtain ⟨_, _, _, p⟩ := x; exact p.lt
  | dK kvs => obtain ⟨_, _, _, _, o, _, _, e, _⟩ := x; exact Heap.lt_size e
  | dT kvs => obtain ⟨_, _, _, _, o, _, _, e, _⟩ := x; exact Heap.lt_size e
  | set S n => obtain ⟨o, _, _, _, e, _⟩ := x; exact Heap.lt_size e
  | ins C dx fs => obtain ⟨_, _, _, e, _⟩ := x; exact Heap.lt_size e
  | own y => obtain ⟨_, e⟩ := x; exact Heap.lt_size e
  | xd fs => obtain ⟨_, ⟨_, _, _, e, _⟩, _⟩ := x; exact Heap.lt_size e
  | rng lo hi => obtain ⟨_, _, _, e⟩ := x; exact Heap.lt_size e
  | frz ob u => obtain ⟨e, _⟩ := x; exact Heap.lt_size e
  | tbl ps => exact Heap.lt_size (show h.get? a = some _ from x)
  | met f y => exact Heap.lt_size (show h.get? a = some _ from x)
  | ext φ => obtain ⟨_, ⟨_, e⟩, _⟩ := x; exact Heap.lt_size e
theorem Paired.mapP {α β : Type} {F G : α → β → Prop} : ∀ {l₁ : List α} {l₂ : List β}, Paired F l₁ l₂ → (∀ a b, F a b → G a b) → Paired G l₁ l₂
  | _, _, .nil, _ => .nil
  | _, _, .cons r t, f => .cons (f _ _ r) (Paired.mapP t f)
theorem ObjOk.stay (x : ObjOk P w H h a o) (k : ∀ b u, (b = a ∨ H b = some (.own a)) → h.get? b = some u → h'.get? b = some u)
    (ho : ∀ b, H b = some (.own a) → H' b = some (.own a)) (ht : ∀ b xs, H b = some (.tup xs) → H' b = some (.tup xs)) : ObjOk P w H' h' a o := by
  induction o with
  | lst xs => obtain ⟨z, its, n, r, e⟩ := x; exact ⟨z, its, n, r, k _ _ (.inl rfl) e⟩
  | tup xs => obtain ⟨z, its, r, ob, e, c⟩ := x; exact ⟨z, its, r, ob, k _ _ (.inl rfl) e, c⟩
  | dK kvs => obtain ⟨z, y, vs, r, ob, es, ep, e, c⟩ := x; exact ⟨z, y, vs, r, ob, es, ep, k _ _ (.inl rfl) e, c⟩
  | dT kvs =>
    obtain ⟨z, y, xs, r, ob, es, ep, e, c⟩ := x
    exact ⟨z, y, xs, Paired.mapP r fun p q z => ⟨z.1, ht _ _ z.2.1, z.2.2⟩, ob, es, ep, k _ _ (.inl rfl) e, c⟩
  | set S n => obtain ⟨ob, es, ep, t, e, c⟩ := x; exact ⟨ob, es, ep, t, k _ _ (.inl rfl) e, c⟩
  | ins C dx fs =>
    obtain ⟨d, z, ne, e, mA, ⟨od, es, ep, e2, c⟩, r⟩ := x
    exact ⟨ho _ d, z, ne, k _ _ (.inl rfl) e, mA, ⟨od, es, ep, k _ _ (.inr d) e2, c⟩, r⟩
  | own y => obtain ⟨ob, e⟩ := x; exact ⟨ob, k _ _ (.inl rfl) e⟩
  | xd fs => obtain ⟨mA, ⟨od, es, ep, e, c⟩, r⟩ := x; exact ⟨mA, ⟨od, es, ep, k _ _ (.inl rfl) e, c⟩, r⟩
  | rng lo hi => obtain ⟨t, u, v, e⟩ := x; exact ⟨t, u, v, k _ _ (.inl rfl) e⟩
  | frz ob u ih => obtain ⟨e, q⟩ := x; exact ⟨k _ _ (.inl rfl) e, ih q⟩
  | tbl ps =>
    have e : h.get? a = some { cls := .none, data := .fields ps } := x
    show h'.get? a = some { cls := .none, data := .fields ps }
    exact k a _ (.inl rfl) e
  | met f y =>
    have e : h.get? a = some (PySem.W.methodObj (.ref f) (.ref y)) := x
    show h'.get? a = some (PySem.W.methodObj (.ref f) (.ref y))
    exact k a _ (.inl rfl) e
  | ext φ => obtain ⟨p, ⟨o, e⟩, st⟩ := x; exact ⟨st _ _ p fun o q => k _ _ (.inl rfl) q, ⟨o, k _ _ (.inl rfl) e⟩, st⟩
theorem HOk.lt (x : HOk P w H h) (e : H a = some o) : a < h.objs.size := (x a o e).lt
theorem HOk.fresh (x : HOk P w H h) (e : h.objs.size ≤ a) : H a = none := by
  cases q : H a with
  | none => rfl
  | some u => exact absurd (Nat.lt_of_lt_of_le (x.lt q) e) (Nat.lt_irrefl _)
theorem HOk.kept (x : HOk P w H h) (k : ∀ b u, h.get? b = some u → h'.get? b = some u) : HOk P w H h' := fun a o e =>
  (x a o e).stay (fun b u _ q => k b u q) (fun _ q => q) fun _ _ q => q
theorem HOk.laid (x : HOk P w H h) (k : ∀ b u, h.get? b = some u → h'.get? b = some u) (hp : h.objs.size ≤ a) (new : ObjOk P w (upd H a o) h' a o) : HOk P w (upd H a o) h' := fun b u e => by
  have hn := x.fresh hp
  by_cases hb : b = a
  · subst hb; rw [upd_same] at e; cases e; exact new
  · rw [upd_ne hb] at e
    exact (x b u e).stay (fun c v _ q => k c v q) (fun c q => by rw [upd_ne (ne_of_none q hn)]; exact q) fun c xs q => by rw [upd_ne (ne_of_none q hn)]; exact q
end
def Rd (H : Hp) (a : Addr) (u : HO) : Prop := H a = some u ∨ ∃ o, H a = some (.frz o u)
theorem Rd.ok {P : Program} {w : World} {H : Hp} {h : Heap} {a : Addr} {u : HO} (r : Rd H a u) (x : HOk P w H h) : ObjOk P w H h a u := by
  rcases r with r | ⟨o, r⟩
  · exact x a u r
  · obtain ⟨_, q⟩ := x a _ r
    exact q
def Mut : Option HO → Prop
  | some (.lst _) => True
  | some (.dK _) => True
  | some (.dT _) => True
  | some (.set _ _) => True
  | some (.ins _ _ _) => True
  | some (.ext _) => True
  | _ => False
section
variable {P : Program} {w : World} {H : Hp} {h h' : Heap} {x e : Addr} {o' : HO}
theorem HOk.write (ok : HOk P w H h) (mu : Mut (H x)) (he : e = x ∨ H e = some (.own x)) (k : ∀ b u, b ≠ e → h.get? b = some u → h'.get? b = some u) (heo : ∃ u, h'.get? e = some u)
    (new : ObjOk P w (upd H x o') h' x o') : HOk P w (upd H x o') h' := fun b u q => by
  have nown : ∀ c y, H c = some (.own y) → c ≠ x := fun c y r z => by subst z; rw [r] at mu; exact mu
  have ntup : ∀ c xs, H c = some (.tup xs) → c ≠ x := fun c xs r z => by subst z; rw [r] at mu; exact mu
  by_cases hb : b = x
  · subst hb; rw [upd_same] at q; cases q; exact new
  · rw [upd_ne hb] at q
    by_cases hbe : b = e
    · have q' : H b = some (.own x) := by
        rcases he with z | z
        · exact absurd (hbe.trans z) hb
        · rw [hbe]; exact z
      rw [q] at q'; cases q'
      obtain ⟨v, hv⟩ := heo
      exact ⟨v, by rw [hbe]; exact hv⟩
    · refine (ok b u q).stay (fun c v hc r => k c v ?_ r) (fun c r => by rw [upd_ne (nown c b r)]; exact r) fun c xs r => by rw [upd_ne (ntup c xs r)]; exact r
      rcases hc with rfl | hc
      · exact hbe
      · rintro rfl
        rcases he with z | z
        · exact nown c b hc z
        · rw [hc] at z; cases z; exact hb rfl
end
structure Un (fs ex : List Addr) (H H' : Hp) (h h' : Heap) : Prop where
  keep : ∀ b o, h.get? b = some o → H b = none → b ∉ fs → b ∉ ex → h'.get? b = some o
  slot : ∀ b o, h.get? b = some o → H b = none → b ∈ fs → b ∉ ex → ∃ sl, h'.get? b = some { o with slots := sl }
  free : ∀ b o, h.get? b = some o → H b = none → b ∉ ex → H' b = none
  there : ∀ b o, h.get? b = some o → b ∉ ex → ∃ o', h'.get? b = some o'
  tups : ∀ b xs, H b = some (.tup xs) → H' b = some (.tup xs)
  frzs : ∀ b o u, H b = some (.frz o u) → H' b = some (.frz o u)
  tbls : ∀ b ps, H b = some (.tbl ps) → ∃ more, H' b = some (.tbl (ps ++ more))
section
variable {fs fs' ex ex' : List Addr} {H H1 H2 : Hp} {h h1 h2 h' : Heap} {a x e : Addr} {o : HO}
theorem Un.any (u : Un fs ex H H1 h h1) {b : Addr} {ob : Obj} (q : h.get? b = some ob) (n : H b = none) (hx : b ∉ ex) : ∃ sl, h1.get? b = some { ob with slots := sl } := by
  by_cases hb : b ∈ fs
  · exact u.slot b ob q n hb hx
  · exact ⟨ob.slots, u.keep b ob q n hb hx⟩
theorem Un.kept (k : ∀ b u, h.get? b = some u → h'.get? b = some u) : Un fs ex H H h h' :=
  ⟨fun b ob q _ _ _ => k b ob q, fun b ob q _ _ _ => ⟨ob.slots, k b ob q⟩, fun _ _ _ n _ => n, fun b ob q _ => ⟨ob, k b ob q⟩, fun _ _ q => q, fun _ _ _ q => q, fun _ ps q => ⟨#[], by rw [q]; simp⟩⟩
theorem Un.refl : Un fs ex H H h h := Un.kept fun _ _ q => q
theorem Un.laid (k : ∀ b u, h.get? b = some u → h'.get? b = some u) (hp : h.objs.size ≤ a) (hn : H a = none) : Un fs ex H (upd H a o) h h' where
  keep := fun b u q _ _ _ => k b u q
  slot := fun b u q _ _ _ => ⟨u.slots, k b u q⟩
  free := fun b u q n _ => by rw [upd_ne (Nat.ne_of_lt (Nat.lt_of_lt_of_le (Heap.lt_size q) hp))]; exact n
  there := fun b u q _ => ⟨u, k b u q⟩
  tups := fun b xs q => by rw [upd_ne (ne_of_none q hn)]; exact q
  frzs := fun b u xs q => by rw [upd_ne (ne_of_none q hn)]; exact q
  tbls := fun b ps q => ⟨#[], by rw [upd_ne (ne_of_none q hn), q]; simp⟩
theorem Un.write (mu : Mut (H x)) (he : e = x ∨ H e = some (.own x)) (k : ∀ b u, b ≠ e → h.get? b = some u → h'.get? b = some u) (heo : ∃ u, h'.get? e = some u) : Un fs ex H (upd H x o) h h' := by
  have hx : ∀ b, H b = none → b ≠ x := fun b n z => by subst z; rw [n] at mu; exact mu
  have hb : ∀ b, H b = none → b ≠ e := fun b n z => by
    subst z
    rcases he with r | r
    · exact hx b n r
    · rw [n] at r; cases r
  have hm : ∀ b u, H b = some u → ¬ Mut (some u) → b ≠ x := fun b u q nm z => by subst z; rw [q] at mu; exact nm mu
  refine ⟨fun b u q n _ _ => k b u (hb b n) q, fun b u q n _ _ => ⟨u.slots, k b u (hb b n) q⟩, fun b u q n _ => by rw [upd_ne (hx b n)]; exact n, fun b u q _ => ?_,
    fun b xs q => by rw [upd_ne (hm b _ q fun z => z)]; exact q, fun b u xs q => by rw [upd_ne (hm b _ q fun z => z)]; exact q, fun b ps q => ⟨#[], by rw [upd_ne (hm b _ q fun z => z), q]; simp⟩⟩
  by_cases hbe : b = e
  · subst hbe; exact heo
  · exact ⟨u, k b u hbe q⟩
end
def trk (h : Heap) (H : Hp) : List Addr := (List.range h.objs.size).filter fun a => (H a).isSome
def hidT (h : Heap) (H : Hp) : Heap := PySem.W.hideAll h (trk h H)
theorem hidT_size (h : Heap) (H : Hp) : (hidT h H).objs.size = h.objs.size := PySem.W.hideAll_size _ _
theorem hidT_get {h : Heap} {H : Hp} {b : Addr} {o : Obj} (e : h.get? b = some o) (n : H b = none) : (hidT h H).get? b = some o :=
  PySem.W.hideAll_get _ e fun hm => by
    have q : (H b).isSome = true := (List.mem_filter.mp hm).2
    rw [n] at q; simp at q
theorem of_hidT {h : Heap} {H : Hp} {b : Addr} {o : Obj} (e : (hidT h H).get? b = some o) : h.get? b = some o ∧ H b = none := by
  have e' : h.get? b = some o := PySem.W.of_hideAll (trk h H) e
  refine ⟨e', ?_⟩
  cases q : H b with
  | none => rfl
  | some x =>
    have hm : b ∈ trk h H := List.mem_filter.mpr ⟨List.mem_range.mpr (Heap.lt_size e'), by simp [q]⟩
    have z : (hidT h H).get? b = none := PySem.W.hideAll_none (trk h H) hm
    rw [z] at e; cases e
def allNews (g h : Heap) (L : Addr) : List (Addr × Obj) := (List.range h.objs.size).filterMap fun a => if a = L ∨ (g.get? a).isSome = true then none else (h.get? a).map fun o => (a, o)
def rest (g h : Heap) (L d : Addr) : List (Addr × Obj) := (allNews g h L).filter fun p => decide (p.1 ≠ d)
end L2
namespace L2
open PySem PySem.Spec PyProof.Rows
structure Mod (K : PySem.W.Frag) (mg : Str → Option Value) (base : Heap) : Prop where
  kin : K.In base
  glob : base.Ns mainGlobals mg
  blt : ∃ mb, base.Ns builtinsNs mb ∧ ∀ x : Str, x ≠ "__name__" → mb x = bootBuiltins x
  nolimit : base.NoLimit
structure Cx where
  prog : Program
  w : World
  K : PySem.W.Frag
  mg : Str → Option Value
  base : Heap
  A : Around
  N : List Str
  s₀ : Shared
  H₀ : Hp
  env : Env
  outer : List Env
  stack : List Env
  ex : List Addr
  fn : Str → Bool
  calm : Bool
  pn : List (Addr × Obj)
  xe : Value → Shared → Prop
def frs (l : List Env) : List Addr := l.filterMap (·.frame)
abbrev Cx.fs (X : Cx) : List Addr := frs X.outer
def Vis (sc : Scope) (x : Str) : Prop := sc.names.lookup x = some .local ∨ sc.names.lookup x = some .cell ∨ sc.names.lookup x = some .free
def Loc (sc : Scope) (x : Str) : Prop := sc.names.lookup x = some .local ∨ sc.names.lookup x = some .cell
def Look (env : Env) (h : Heap) (m : Str → Option Value) (x : Str) (u : Value) : Prop :=
  (env.kindOf x = some .local ∧ m x = some u) ∨ ((env.kindOf x = some .cell ∨ env.kindOf x = some .free) ∧ ∃ c, env.cells.lookup x = some c ∧ h.IsCell c (some u))
structure Cx.Ok (X : Cx) : Prop where
  mod : Mod X.K X.mg X.base
  kind : X.env.scope.kind = .function
  glob : X.env.globals = mainGlobals
  blt : X.env.builtins = builtinsNs
  above : X.s₀.heap.objs.size ≤ X.env.locals
  inj : ∀ x y c, X.env.cells.lookup x = some c → X.env.cells.lookup y = some c → x = y
  has : ∀ x, (X.env.kindOf x = some .cell ∨ X.env.kindOf x = some .free) → ∃ c, X.env.cells.lookup x = some c
  cab : ∀ x c, X.fn x = true → X.env.cells.lookup x = some c → X.s₀.heap.objs.size ≤ c
  hd : X.calm = true → X.A.handled = none
  frames : X.A.frames = some X.stack
  stk : X.stack = X.outer ∨ (X.stack = X.env :: X.outer ∧ X.env.frame = some X.env.locals)
  exf : ∀ b ∈ X.ex, b ≠ X.env.locals ∧ ∀ x c, X.env.cells.lookup x = some c → c ≠ b
  bs : ∀ b o, X.base.get? b = some o → X.s₀.heap.get? b = some o ∧ X.H₀ b = none
  bsz : X.base.objs.size ≤ X.s₀.heap.objs.size
  noex : ∀ b o, X.base.get? b = some o → b ∉ X.ex
  exfs : ∀ b ∈ X.ex, b ∉ X.fs
  funs : X.s₀.heap.FunFrames X.base X.outer
  frf : ∀ b ∈ X.fs, X.H₀ b = none
structure Inv (X : Cx) (pins : List (Addr × Obj)) (σ : List (Option V)) (H : Hp) (s : Shared) : Prop where
  ok : X.Ok
  os : s.os = X.s₀.os
  bare : AllBare s.gens
  base : Un X.fs X.ex X.H₀ H X.s₀.heap s.heap
  loc : ∃ m, s.heap.Ns X.env.locals m ∧ ∀ (i : Nat) (x : Str) (v : V), X.N[i]? = some x → σ[i]? = some (some v) → Vis X.env.scope x → ∃ u, RelV v u ∧ Look X.env s.heap m x u
  cell : ∀ x c, X.env.cells.lookup x = some c → ∃ v, s.heap.IsCell c v
  free : H X.env.locals = none
  freeC : ∀ x c, X.env.cells.lookup x = some c → H c = none
  pin : ∀ p ∈ X.pn ++ pins, s.heap.get? p.1 = some p.2 ∧ H p.1 = none ∧ p.1 ≠ X.env.locals ∧ p.1 ∉ X.fs ∧ ∀ v, p.2.data ≠ .cell v
  hok : HOk X.prog X.w H s.heap
  len : σ.length = X.N.length
section
variable {X : Cx} {pins : List (Addr × Obj)} {σ : List (Option V)} {H H' : Hp} {s : Shared} {h' : Heap}
theorem Cx.Ok.nofr (ok : X.Ok) {b : Addr} {o : Obj} (e : X.base.get? b = some o) : b ∉ X.fs := fun hb => by
  have := (ok.funs.mem hb).1
  rw [e] at this; cases this
theorem Inv.bs (I : Inv X pins σ H s) : ∀ b o, X.base.get? b = some o → s.heap.get? b = some o ∧ H b = none := fun b o e =>
  ⟨I.base.keep b o (I.ok.bs b o e).1 (I.ok.bs b o e).2 (I.ok.nofr e) (I.ok.noex b o e), I.base.free b o (I.ok.bs b o e).1 (I.ok.bs b o e).2 (I.ok.noex b o e)⟩
theorem Inv.bk (I : Inv X pins σ H s) : ∀ b o, X.base.get? b = some o → s.heap.get? b = some o := fun b o e => (I.bs b o e).1
theorem Inv.mod (I : Inv X pins σ H s) : Mod X.K X.mg X.base := I.ok.mod
theorem Inv.kIn (I : Inv X pins σ H s) : X.K.In s.heap := I.ok.mod.kin.keeps I.bk
theorem Inv.fr (I : Inv X pins σ H s) : ∃ m, Fr X.base X.env.locals s.heap m :=
  let ⟨m, hn, _⟩ := I.loc
  ⟨m, hn, I.bk, Nat.le_trans I.ok.bsz I.ok.above⟩
theorem Inv.lt (I : Inv X pins σ H s) : X.env.locals < s.heap.objs.size := let ⟨_, hn, _⟩ := I.loc; hn.lt
theorem Inv.sz (I : Inv X pins σ H s) : X.s₀.heap.objs.size ≤ s.heap.objs.size := Nat.le_trans I.ok.above (Nat.le_of_lt I.lt)
theorem Inv.nofs (I : Inv X pins σ H s) {a : Addr} (h : s.heap.objs.size ≤ a) : a ∉ X.fs := fun hb => by
  obtain ⟨_, o, ho, _⟩ := I.ok.funs.mem hb
  exact absurd (Nat.lt_of_lt_of_le (Heap.lt_size ho) (Nat.le_trans I.sz h)) (Nat.lt_irrefl _)
theorem Inv.cne (I : Inv X pins σ H s) : ∀ x c, X.env.cells.lookup x = some c → c ≠ X.env.locals := fun x c e z => by
  obtain ⟨v, o, ho, hd⟩ := I.cell x c e
  obtain ⟨m, ⟨o', es, ep, ho', hd', _⟩, _⟩ := I.loc
  rw [z, ho'] at ho; cases ho; rw [hd'] at hd; cases hd
theorem Inv.funs (I : Inv X pins σ H s) : s.heap.FunFrames X.base X.outer := by
  have all : ∀ (l : List Env), (∀ b ∈ frs l, b ∈ X.fs) → X.s₀.heap.FunFrames X.base l → s.heap.FunFrames X.base l := by
    intro l
    induction l with
    | nil => intro _ _; trivial
    | cons env r ih =>
      intro hs hl
      obtain ⟨hk, ⟨L, o, hf, hn, ho, hd⟩, hr⟩ := hl
      have hL : L ∈ X.fs := hs L (by unfold frs; rw [List.filterMap_cons, hf]; exact List.mem_cons_self)
      obtain ⟨sl, e⟩ := I.base.slot L o ho (I.ok.frf L hL) hL fun z => I.ok.exfs L z hL
      exact ⟨hk, ⟨L, _, hf, hn, e, hd⟩, ih (fun b hb => hs b (by unfold frs; rw [List.filterMap_cons, hf]; exact List.mem_cons_of_mem _ hb)) hr⟩
  exact all X.outer (fun _ hb => hb) I.ok.funs
theorem Inv.stack (I : Inv X pins σ H s) : s.heap.FunFrames X.base X.stack := by
  rcases I.ok.stk with e | ⟨e, hf⟩
  · rw [e]; exact I.funs
  · rw [e]
    obtain ⟨m, hn, _⟩ := I.loc
    refine .cons (by rw [I.ok.kind]; decide) hf hn ?_ I.funs
    exact Heap.get?_none_of_le (Nat.le_trans I.ok.bsz I.ok.above)
theorem Inv.stkSub (I : Inv X pins σ H s) : ∀ b ∈ frs X.stack, b ∈ X.env.locals :: X.fs := fun b hb => by
  rcases I.ok.stk with e | ⟨e, hf⟩
  · rw [e] at hb; exact List.mem_cons_of_mem _ hb
  · rw [e] at hb
    unfold frs at hb
    rw [List.filterMap_cons, hf] at hb
    exact hb
theorem Inv.stkFree (I : Inv X pins σ H s) : ∀ b ∈ frs X.stack, H b = none := fun b hb => by
  rcases List.mem_cons.mp (I.stkSub b hb) with e | hb
  · rw [e]; exact I.free
  · obtain ⟨_, o, ho, _⟩ := I.ok.funs.mem hb
    exact I.base.free b o ho (I.ok.frf b hb) fun z => I.ok.exfs b z hb
theorem Inv.step {g' : Array GenState} {t' : Nat} {d' : Drawn} {ch : List Addr} (I : Inv X pins σ H s)
    (hch : ∀ b ∈ ch, (b ∈ X.ex ∨ X.s₀.heap.objs.size ≤ b) ∧ b ≠ X.env.locals ∧ (∀ x c, X.env.cells.lookup x = some c → c ≠ b) ∧ ∀ p ∈ X.pn ++ pins, p.1 ≠ b)
    (keep : ∀ b o, b ≠ X.env.locals → b ∉ X.fs → b ∉ ch → s.heap.get? b = some o → H b = none → h'.get? b = some o)
    (slot : ∀ b o, b ≠ X.env.locals → b ∈ X.fs → b ∉ ch → s.heap.get? b = some o → H b = none → ∃ sl, h'.get? b = some { o with slots := sl }) (free : ∀ b o, b ∉ ch → s.heap.get? b = some o → H b = none → H' b = none)
    (there : ∀ b o, b ∉ ch → s.heap.get? b = some o → ∃ o', h'.get? b = some o')
    (tups : ∀ b xs, H b = some (.tup xs) → H' b = some (.tup xs)) (frzs : ∀ b o u, H b = some (.frz o u) → H' b = some (.frz o u)) (tbls : ∀ b ps, H b = some (.tbl ps) → ∃ more, H' b = some (.tbl (ps ++ more)))
    (ns : ∀ m, s.heap.Ns X.env.locals m → h'.Ns X.env.locals m) (hok : HOk X.prog X.w H' h') (hg : AllBare g') :
    Inv X pins σ H' { s with heap := h', gens := g', drawn := d', toks := t' } := by
  have neL : ∀ b o, X.s₀.heap.get? b = some o → b ≠ X.env.locals := fun b o e => Nat.ne_of_lt (Nat.lt_of_lt_of_le (Heap.lt_size e) I.ok.above)
  have neC : ∀ b o, X.s₀.heap.get? b = some o → b ∉ X.ex → b ∉ ch := fun b o e hx hb => by
    rcases (hch b hb).1 with z | z
    · exact hx z
    · exact absurd (Nat.lt_of_lt_of_le (Heap.lt_size e) z) (Nat.lt_irrefl _)
  have cellK : ∀ x c, X.env.cells.lookup x = some c → ∀ v, s.heap.IsCell c v → h'.IsCell c v := fun x c e v ⟨o, ho, hd⟩ => by
    have nch : c ∉ ch := fun z => (hch c z).2.2.1 x c e rfl
    by_cases hc : c ∈ X.fs
    · obtain ⟨sl, q⟩ := slot c o (I.cne x c e) hc nch ho (I.freeC x c e)
      exact ⟨_, q, hd⟩
    · exact ⟨o, keep c o (I.cne x c e) hc nch ho (I.freeC x c e), hd⟩
  refine ⟨I.ok, I.os, hg, ⟨fun b o e n hb hx => ?_, fun b o e n hb hx => ?_, fun b o e n hx => ?_, fun b o e hx => ?_, fun b xs e => tups b xs (I.base.tups b xs e), fun b o xs e => frzs b o xs (I.base.frzs b o xs e), fun b ps e => ?_⟩, ?_, fun x c e => ?_, ?_, fun x c e => ?_, fun p hp => ?_, hok, I.len⟩
  · exact keep b o (neL b o e) hb (neC b o e hx) (I.base.keep b o e n hb hx) (I.base.free b o e n hx)
  · obtain ⟨sl, e1⟩ := I.base.slot b o e n hb hx
    obtain ⟨sl', e2⟩ := slot b _ (neL b o e) hb (neC b o e hx) e1 (I.base.free b o e n hx)
    exact ⟨sl', e2⟩
  · obtain ⟨o', e1⟩ := I.base.there b o e hx
    exact free b o' (neC b o e hx) e1 (I.base.free b o e n hx)
  · obtain ⟨o', e1⟩ := I.base.there b o e hx
    exact there b o' (neC b o e hx) e1
  · obtain ⟨m1, e1⟩ := I.base.tbls b ps e
    obtain ⟨m2, e2⟩ := tbls b _ e1
    exact ⟨m1 ++ m2, by rw [e2, Array.append_assoc]⟩
  · obtain ⟨m, hn, hl⟩ := I.loc
    refine ⟨m, ns m hn, fun i x v e1 e2 e3 => ?_⟩
    obtain ⟨u, r, l⟩ := hl i x v e1 e2 e3
    refine ⟨u, r, ?_⟩
    rcases l with l | ⟨k, c, e, z⟩
    · exact .inl l
    · exact .inr ⟨k, c, e, cellK x c e _ z⟩
  · obtain ⟨v, z⟩ := I.cell x c e
    exact ⟨v, cellK x c e v z⟩
  · obtain ⟨m, ⟨o, _, _, ho, _⟩, _⟩ := I.loc
    exact free _ o (fun z => (hch _ z).2.1 rfl) ho I.free
  · obtain ⟨v, o, ho, hd⟩ := I.cell x c e
    exact free c o (fun z => (hch c z).2.2.1 x c e rfl) ho (I.freeC x c e)
  · obtain ⟨e, n, ne, nf, d⟩ := I.pin p hp
    have nch : p.1 ∉ ch := fun z => (hch p.1 z).2.2.2 p hp rfl
    exact ⟨keep p.1 p.2 ne nf nch e n, free p.1 p.2 nch e n, ne, nf, d⟩
theorem Inv.un {t' : Nat} (I : Inv X pins σ H s) (u : Un X.fs [] H H' s.heap h') (hok : HOk X.prog X.w H' h') : Inv X pins σ H' { s with heap := h', toks := t' } := by
  obtain ⟨m, ⟨o, es, ep, ho, r⟩, _⟩ := id I.loc
  obtain ⟨sl, hL⟩ := u.any ho I.free (by simp)
  exact I.step (g' := s.gens) (d' := s.drawn) (ch := []) (fun _ z => nomatch z) (fun b o _ hb _ e n => u.keep b o e n hb (by simp)) (fun b o _ hb _ e n => u.slot b o e n hb (by simp)) (fun b o _ e n => u.free b o e n (by simp)) (fun b o _ e => u.there b o e (by simp)) u.tups u.frzs u.tbls (fun m' hm => by
    obtain ⟨o', es', ep', ho', r'⟩ := hm
    rw [ho] at ho'; cases ho'
    exact ⟨_, es', ep', hL, r'⟩) hok I.bare
theorem Inv.call {g' : Array GenState} {t' : Nat} {d' : Drawn} {ch : List Addr} (I : Inv X pins σ H s) (u : Un (frs X.stack) ch H H' s.heap h') (hok : HOk X.prog X.w H' h') (hg : AllBare g')
    (hch : ∀ b ∈ ch, (b ∈ X.ex ∨ X.s₀.heap.objs.size ≤ b) ∧ b ≠ X.env.locals ∧ (∀ x c, X.env.cells.lookup x = some c → c ≠ b) ∧ ∀ p ∈ X.pn ++ pins, p.1 ≠ b) :
    Inv X pins σ H' { s with heap := h', gens := g', drawn := d', toks := t' } := by
  obtain ⟨m, ⟨o, es, ep, ho, r⟩, _⟩ := id I.loc
  obtain ⟨sl, hL⟩ := u.any ho I.free fun z => (hch _ z).2.1 rfl
  exact I.step (ch := ch) hch (fun b o hL hb hc e n => u.keep b o e n (fun z => (List.mem_cons.mp (I.stkSub b z)).elim hL hb) hc) (fun b o _ _ hc e n => u.any e n hc) (fun b o hc e n => u.free b o e n hc) (fun b o hc e => u.there b o e hc) u.tups u.frzs u.tbls (fun m' hm => by
    obtain ⟨o', es', ep', ho', r'⟩ := hm
    rw [ho] at ho'; cases ho'
    exact ⟨_, es', ep', hL, r'⟩) hok hg
theorem Inv.turned {t' : Nat} {it : Addr} (I : Inv X pins σ H s) (k : ∀ b o, b ≠ it → s.heap.get? b = some o → h'.get? b = some o) (hn : H it = none) (hL : it ≠ X.env.locals)
    (h1 : it ∈ X.ex ∨ X.s₀.heap.objs.size ≤ it) (h2 : ∀ x c, X.env.cells.lookup x = some c → c ≠ it) (h3 : ∀ p ∈ X.pn ++ pins, p.1 ≠ it) : Inv X pins σ H { s with heap := h', toks := t' } := by
  have nit : ∀ b u, H b = some u → b ≠ it := fun b u e z => by rw [z, hn] at e; cases e
  refine I.step (g' := s.gens) (d' := s.drawn) (ch := [it]) (fun b hb => ?_) (fun b o _ _ hc e _ => k b o (fun z => hc (by simp [z])) e) (fun b o _ _ hc e _ => ⟨o.slots, k b o (fun z => hc (by simp [z])) e⟩) (fun _ _ _ _ n => n)
    (fun b o hc e => ⟨o, k b o (fun z => hc (by simp [z])) e⟩) (fun _ _ e => e) (fun _ _ _ e => e) (fun b ps e => ⟨#[], by rw [e]; simp⟩) (fun m hm => ?_) (fun b u e => ?_) I.bare
  · have e : b = it := by simpa using hb
    subst e
    exact ⟨h1, hL, h2, h3⟩
  · obtain ⟨o, es, ep, ho, r⟩ := hm
    exact ⟨o, es, ep, k _ o (Ne.symm hL) ho, r⟩
  · refine (I.hok b u e).stay (fun c v hc q => k c v ?_ q) (fun _ q => q) fun _ _ q => q
    rcases hc with z | z
    · rw [z]; exact nit b u e
    · exact nit c _ z
theorem Inv.tok (I : Inv X pins σ H s) (t : Nat) : Inv X pins σ H { s with toks := t } := I.un (h' := s.heap) (t' := t) Un.refl I.hok
theorem Inv.kept {t' : Nat} (I : Inv X pins σ H s) (k : ∀ b u, s.heap.get? b = some u → h'.get? b = some u) : Inv X pins σ H { s with heap := h', toks := t' } := I.un (Un.kept k) (I.hok.kept k)
theorem Inv.laid {a : Addr} {o : HO} {t' : Nat} (I : Inv X pins σ H s) (k : ∀ b u, s.heap.get? b = some u → h'.get? b = some u) (hp : s.heap.objs.size ≤ a) (new : ObjOk X.prog X.w (upd H a o) h' a o) :
    Inv X pins σ (upd H a o) { s with heap := h', toks := t' } := I.un (Un.laid k hp (I.hok.fresh hp)) (I.hok.laid k hp new)
theorem Inv.write {x e : Addr} {o : HO} {t' : Nat} (I : Inv X pins σ H s) (mu : Mut (H x)) (he : e = x ∨ H e = some (.own x)) (k : ∀ b u, b ≠ e → s.heap.get? b = some u → h'.get? b = some u) (heo : ∃ u, h'.get? e = some u)
    (new : ObjOk X.prog X.w (upd H x o) h' x o) : Inv X pins σ (upd H x o) { s with heap := h', toks := t' } := I.un (Un.write mu he k heo) (I.hok.write mu he k heo new)
theorem Inv.weak {σ' : List (Option V)} (I : Inv X pins σ H s) (hl : σ'.length = σ.length) (w : ∀ (i : Nat) v, σ'[i]? = some (some v) → σ[i]? = some (some v)) : Inv X pins σ' H s :=
  ⟨I.ok, I.os, I.bare, I.base, let ⟨m, hn, hl'⟩ := I.loc; ⟨m, hn, fun i x v e1 e2 e3 => hl' i x v e1 (w i v e2) e3⟩, I.cell, I.free, I.freeC, I.pin, I.hok, hl.trans I.len⟩
theorem Inv.pins_of {pins' : List (Addr × Obj)} (I : Inv X pins σ H s) (h : ∀ p ∈ pins', s.heap.get? p.1 = some p.2 ∧ H p.1 = none ∧ p.1 ≠ X.env.locals ∧ p.1 ∉ X.fs ∧ ∀ v, p.2.data ≠ .cell v) : Inv X pins' σ H s :=
  ⟨I.ok, I.os, I.bare, I.base, I.loc, I.cell, I.free, I.freeC, fun p hp => (List.mem_append.mp hp).elim (fun z => I.pin p (List.mem_append_left _ z)) (h p), I.hok, I.len⟩
theorem nodup_ix {N : List Str} (hN : N.Nodup) {i j : Nat} {x : Str} (a : N[i]? = some x) (b : N[j]? = some x) : i = j := by
  obtain ⟨h1, e1⟩ := List.getElem?_eq_some_iff.mp a
  obtain ⟨h2, e2⟩ := List.getElem?_eq_some_iff.mp b
  exact (List.getElem_inj hN).mp (e1.trans e2.symm)
theorem store_ok2 {M : Model} {A : Around} {E : Value → Shared → Prop} {i : Nat} {x : Str} {v : V} {u : Value} {Q : Unit → Shared → Prop} (I : Inv X pins σ H s) (hN : X.N.Nodup) (hi : X.N[i]? = some x) (hx : Loc X.env.scope x) (r : RelV v u)
    (h : ∀ s', Inv X pins (σ.set i (some v)) H s' → (∃ a, Heap.SameBut a s.heap s'.heap ∧ (a = X.env.locals ∨ X.env.cells.lookup x = some a)) → Q () s') (hf : X.fn x = true ∨ X.env.scope.names.lookup x = some .local := by first | exact .inl rfl | exact .inr rfl | assumption) : wpAny M A (storeName X.env x u) Q E s := by
  obtain ⟨m, hn, hl⟩ := id I.loc
  have hcls : (X.env.scope.kind == .class || (X.env.scope.kind == .module && X.env.locals != X.env.globals)) = false := by rw [I.ok.kind]; rfl
  have hiσ : i < σ.length := by rw [I.len]; exact (List.getElem?_eq_some_iff.mp hi).1
  have cne := I.cne
  have tracked : ∀ {a : Addr} {h' : Heap}, (∃ o, s.heap.get? a = some o ∧ H a = none) → Heap.SameBut a s.heap h' → HOk X.prog X.w H h' := fun {a h'} ha hs b ob e => by
    obtain ⟨_, _, hfree⟩ := ha
    refine (I.hok b ob e).stay (fun c w' hc q => (hs.2 c ?_).trans q) (fun _ q => q) fun _ _ q => q
    rintro rfl
    rcases hc with rfl | hc
    · rw [hfree] at e; cases e
    · rw [hfree] at hc; cases hc
  rcases hx with hk | hk
  · refine wpAny_storeName_local hk hn (fun h' hn' hs => ?_) hcls
    obtain ⟨oL, _, _, hoL, _⟩ := id hn
    refine h _ ⟨I.ok, I.os, I.bare, ⟨fun b o e n hb hx => ?_, fun b o e n hb hx => ?_, I.base.free, fun b o e hx => ?_, I.base.tups, I.base.frzs, I.base.tbls⟩, ⟨_, hn', fun j y v' e1 e2 e3 => ?_⟩, fun y c e => ?_, I.free, I.freeC, fun p hp => ?_, tracked ⟨oL, hoL, I.free⟩ hs, by simpa using I.len⟩ ⟨_, hs, .inl rfl⟩
    · exact (hs.2 b (Nat.ne_of_lt (Nat.lt_of_lt_of_le (Heap.lt_size e) I.ok.above))).trans (I.base.keep b o e n hb hx)
    · obtain ⟨sl, e1⟩ := I.base.slot b o e n hb hx
      exact ⟨sl, (hs.2 b (Nat.ne_of_lt (Nat.lt_of_lt_of_le (Heap.lt_size e) I.ok.above))).trans e1⟩
    · obtain ⟨o', e1⟩ := I.base.there b o e hx
      exact ⟨o', (hs.2 b (Nat.ne_of_lt (Nat.lt_of_lt_of_le (Heap.lt_size e) I.ok.above))).trans e1⟩
    · by_cases hj : j = i
      · subst hj
        rw [hi] at e1; cases e1
        rw [List.getElem?_set_self hiσ] at e2
        cases e2
        exact ⟨u, r, .inl ⟨hk, by simp⟩⟩
      · rw [List.getElem?_set_ne (Ne.symm hj)] at e2
        obtain ⟨u', r', q⟩ := hl j y v' e1 e2 e3
        refine ⟨u', r', ?_⟩
        rcases q with ⟨k, e⟩ | ⟨k, c, e, z⟩
        · refine .inl ⟨k, ?_⟩
          have : y ≠ x := fun e => hj (nodup_ix hN e1 (e ▸ hi))
          simp [this, e]
        · exact .inr ⟨k, c, e, z.sameBut hs (cne y c e)⟩
    · obtain ⟨w', z⟩ := I.cell y c e
      exact ⟨w', z.sameBut hs (cne y c e)⟩
    · obtain ⟨e, n, ne, nf, d⟩ := I.pin p hp
      exact ⟨(hs.2 p.1 ne).trans e, n, ne, nf, d⟩
  · have hfn : X.fn x = true := by
      rcases hf with z | z
      · exact z
      · rw [z] at hk; cases hk
    obtain ⟨c, hc⟩ := I.ok.has x (.inl hk)
    obtain ⟨w', z⟩ := I.cell x c hc
    refine wpAny_storeName_cell I.ok.kind hk hc z (fun h' hc' hs => ?_)
    obtain ⟨oc, hoc, hocd⟩ := id z
    refine h { s with heap := h' } ⟨I.ok, I.os, I.bare, ⟨fun b o e n hb hx => ?_, fun b o e n hb hx => ?_, I.base.free, fun b o e hx => ?_, I.base.tups, I.base.frzs, I.base.tbls⟩, ⟨m, hn.sameBut hs (Ne.symm (cne x c hc)), fun j y v' e1 e2 e3 => ?_⟩, fun y c' e => ?_, I.free, I.freeC, fun p hp => ?_, tracked ⟨oc, hoc, I.freeC x c hc⟩ hs, by simpa using I.len⟩ ⟨c, hs, .inr hc⟩
    · exact (hs.2 b (Nat.ne_of_lt (Nat.lt_of_lt_of_le (Heap.lt_size e) (I.ok.cab x c hfn hc)))).trans (I.base.keep b o e n hb hx)
    · obtain ⟨sl, e1⟩ := I.base.slot b o e n hb hx
      exact ⟨sl, (hs.2 b (Nat.ne_of_lt (Nat.lt_of_lt_of_le (Heap.lt_size e) (I.ok.cab x c hfn hc)))).trans e1⟩
    · obtain ⟨o', e1⟩ := I.base.there b o e hx
      exact ⟨o', (hs.2 b (Nat.ne_of_lt (Nat.lt_of_lt_of_le (Heap.lt_size e) (I.ok.cab x c hfn hc)))).trans e1⟩
    · by_cases hj : j = i
      · subst hj
        rw [hi] at e1; cases e1
        rw [List.getElem?_set_self hiσ] at e2
        cases e2
        exact ⟨u, r, .inr ⟨.inl hk, c, hc, hc'⟩⟩
      · rw [List.getElem?_set_ne (Ne.symm hj)] at e2
        obtain ⟨u', r', q⟩ := hl j y v' e1 e2 e3
        refine ⟨u', r', ?_⟩
        rcases q with q | ⟨k, c', e, z'⟩
        · exact .inl q
        · refine .inr ⟨k, c', e, z'.sameBut hs ?_⟩
          rintro rfl
          exact hj (nodup_ix hN e1 (I.ok.inj _ _ _ e hc ▸ hi))
    · by_cases hcc : c' = c
      · subst hcc; exact ⟨_, hc'⟩
      · obtain ⟨w2, z2⟩ := I.cell y c' e
        exact ⟨w2, z2.sameBut hs hcc⟩
    · obtain ⟨e, n, ne, nf, d⟩ := I.pin p hp
      refine ⟨(hs.2 p.1 ?_).trans e, n, ne, nf, d⟩
      intro q
      rw [q, hoc] at e
      have q' : oc = p.2 := Option.some.inj e
      exact d w' (by rw [← q']; exact hocd)
theorem store_ok {M : Model} {A : Around} {E : Value → Shared → Prop} {i : Nat} {x : Str} {v : V} {u : Value} {Q : Unit → Shared → Prop} (I : Inv X pins σ H s) (hN : X.N.Nodup) (hi : X.N[i]? = some x) (hx : Loc X.env.scope x) (r : RelV v u)
    (h : ∀ s', Inv X pins (σ.set i (some v)) H s' → Q () s') (hf : X.fn x = true ∨ X.env.scope.names.lookup x = some .local := by first | exact .inl rfl | exact .inr rfl | assumption) : wpAny M A (storeName X.env x u) Q E s :=
  store_ok2 I hN hi hx r (fun s' I' _ => h s' I') hf
theorem Inv.call' {s' : Shared} {ch : List Addr} (I : Inv X pins σ H s) (ho : s'.os = s.os) (u : Un (frs X.stack) ch H H' s.heap s'.heap) (hok : HOk X.prog X.w H' s'.heap) (hg : AllBare s'.gens)
    (hch : ∀ b ∈ ch, (b ∈ X.ex ∨ X.s₀.heap.objs.size ≤ b) ∧ b ≠ X.env.locals ∧ (∀ x c, X.env.cells.lookup x = some c → c ≠ b) ∧ ∀ p ∈ X.pn ++ pins, p.1 ≠ b) : Inv X pins σ H' s' := by
  obtain ⟨h', g', d', t', o'⟩ := s'
  have e : o' = s.os := ho
  subst e
  exact I.call (g' := g') (t' := t') (d' := d') u hok hg hch
end
abbrev XK := Value → Option Addr → Hp → Prop
abbrev St := List (Option V)
abbrev VK := V → Hp → Prop
abbrev TE := St → Hp → VK → Prop
abbrev TT := St → Hp → (Bool → Hp → Prop) → Prop
abbrev TA := St → Hp → (List V → Hp → Prop) → Prop
structure Ends where
  nx : St → Hp → Prop
  rt : VK
  bk : St → Hp → Prop := fun _ _ => False
  ct : St → Hp → Prop := fun _ _ => False
abbrev TS := Ends → St → Hp → Prop
def EP (X : Cx) (pins : List (Addr × Obj)) (σ : St) (Q : VK) (u : Value) (s' : Shared) : Prop := ∃ v H', Inv X pins σ H' s' ∧ RelV v u ∧ Q v H'
def TP (X : Cx) (pins : List (Addr × Obj)) (σ : St) (Q : Bool → Hp → Prop) (b : Bool) (s' : Shared) : Prop := ∃ H', Inv X pins σ H' s' ∧ Q b H'
def AP (X : Cx) (pins : List (Addr × Obj)) (σ : St) (Q : List V → Hp → Prop) (us : List Value) (s' : Shared) : Prop := ∃ vs H', Inv X pins σ H' s' ∧ Vals vs us ∧ Q vs H'
def SP (X : Cx) (pins : List (Addr × Obj)) (D : Ends) (f : Flow) (s' : Shared) : Prop :=
  match f with
  | .next => ∃ σ' H', Inv X pins σ' H' s' ∧ D.nx σ' H'
  | .brk => ∃ σ' H', Inv X pins σ' H' s' ∧ D.bk σ' H'
  | .cont => ∃ σ' H', Inv X pins σ' H' s' ∧ D.ct σ' H'
  | .ret u => ∃ v σ' H', Inv X pins σ' H' s' ∧ RelV v u ∧ D.rt v H'
def PE (X : Cx) (e : Expr) (t : TE) : Prop :=
  ∀ (pins : List (Addr × Obj)) (s : Shared) (σ : St) (H : Hp) (Q : VK), Inv X pins σ H s → t σ H Q → wpAny (model X.prog X.w) X.A (eval e X.env) (EP X pins σ Q) X.xe s
def PT (X : Cx) (e : Expr) (t : TT) : Prop :=
  ∀ (pins : List (Addr × Obj)) (s : Shared) (σ : St) (H : Hp) (Q : Bool → Hp → Prop), Inv X pins σ H s → t σ H Q → wpAny (model X.prog X.w) X.A (isTrue e X.env (eval e X.env)) (TP X pins σ Q) X.xe s
def PW (X : Cx) (e : Expr) (t : TT) : Prop :=
  ∀ (whole : Sem Value) (pins : List (Addr × Obj)) (s : Shared) (σ : St) (H : Hp) (Q : Bool → Hp → Prop), Inv X pins σ H s → t σ H Q → wpAny (model X.prog X.w) X.A (isTrue e X.env whole) (TP X pins σ Q) X.xe s
theorem PW.pt {X : Cx} {e : Expr} {t : TT} (h : PW X e t) : PT X e t := h _
def PA (X : Cx) (es : List Expr) (t : TA) : Prop :=
  ∀ (pos : Pos) (pins : List (Addr × Obj)) (s : Shared) (σ : St) (H : Hp) (Q : List V → Hp → Prop), Inv X pins σ H s → t σ H Q → wpAny (model X.prog X.w) X.A (spliced (backTo pos (starEach es X.env))) (AP X pins σ Q) X.xe s
def PS (X : Cx) (st : Stmt) (t : TS) : Prop :=
  ∀ (pins : List (Addr × Obj)) (s : Shared) (σ : St) (H : Hp) (D : Ends), Inv X pins σ H s → t D σ H → wpAny (model X.prog X.w) X.A (exec st X.env) (SP X pins D) X.xe s
def PSs (X : Cx) (st : List Stmt) (t : TS) : Prop :=
  ∀ (pins : List (Addr × Obj)) (s : Shared) (σ : St) (H : Hp) (D : Ends), Inv X pins σ H s → t D σ H → wpAny (model X.prog X.w) X.A (execs st X.env) (SP X pins D) X.xe s
theorem thn {α : Type} {t : Sem α} {Q Q' : α → Shared → Prop} {M : Model} {A : Around} {E : Value → Shared → Prop} {s : Shared} (h : wpAny M A t Q E s) (hQ : ∀ a s, Q a s → Q' a s) : wpAny M A t Q' E s := wpAny_mono h hQ fun _ _ x => x
end L2
namespace L2
open PySem PySem.Spec PyProof.Rows
section
variable {X : Cx}
theorem bin {a b : Expr} {ta tb : TE} (ha : PE X a ta) (hb : PE X b tb) {pins : List (Addr × Obj)} {s : Shared} {σ : St} {H : Hp} {R : V → V → Hp → Prop} (I : Inv X pins σ H s) (h : ta σ H fun x H1 => tb σ H1 fun y H2 => R x y H2)
    {α : Type} {Q : α → Shared → Prop} {f : Value → Value → Sem α}
    (hf : ∀ v u s2 x y H2, Inv X pins σ H2 s2 → RelV x v → RelV y u → R x y H2 → wpAny (model X.prog X.w) X.A (f v u) Q X.xe s2) :
    wpAny (model X.prog X.w) X.A (eval a X.env) (fun v s₁ => wpAny (model X.prog X.w) X.A (eval b X.env) (fun u s₂ => wpAny (model X.prog X.w) X.A (f v u) Q X.xe s₂) X.xe s₁) X.xe s := by
  refine thn (ha pins s σ H _ I h) fun v s1 ⟨x, H1, I1, r1, q1⟩ => ?_
  refine thn (hb pins s1 σ H1 _ I1 q1) fun u s2 ⟨y, H2, I2, r2, q2⟩ => ?_
  exact hf v u s2 x y H2 I2 r1 r2 q2
def tVar (i : Nat) : TE := fun σ H Q => ∃ v, σ[i]? = some (some v) ∧ Q v H
def tC (v : V) : TE := fun _ H Q => Q v H
theorem pe_var {i : Nat} {x : Str} {pos : Pos} (hN : X.N[i]? = some x) (hv : Vis X.env.scope x) (hd : (x == ("__debug__" : Str)) = false := by decide) (hcd : (x == ("__classdict__" : Str)) = false := by decide) : PE X (.Name x pos) (tVar i) := by
  intro pins s σ H Q I h
  obtain ⟨v, e, h⟩ := h
  obtain ⟨m, hn, hl⟩ := I.loc
  obtain ⟨u, r, l⟩ := hl i x v hN e hv
  have fin : EP X pins σ Q u s := ⟨v, H, I, r, h⟩
  rcases l with ⟨hk, hm⟩ | ⟨hk, c, hc, hcell⟩
  · exact wpAny_Name (wpAny_loadName_local I.ok.kind hk hn hm fin) hd
  · rcases hk with hk | hk
    · exact wpAny_Name (wpAny_loadName_cell I.ok.kind hk hc hcell fin) hd
    · exact wpAny_Name (wpAny_loadName_free I.ok.kind hk hc hcell fin hcd) hd
theorem pe_int {i j pos} : PE X (.Constant (.int i) j pos) (tC (.int i)) := fun _ _ _ H _ I h => wpAny_Constant_int ⟨.int i, H, I.tok _, ⟨_, rfl⟩, h⟩
theorem pe_bl {b j pos} : PE X (.Constant (.bool b) j pos) (tC (.bl b)) := fun _ _ _ H _ I h => Constant_bool ⟨.bl b, H, I, rfl, h⟩
theorem pe_non {j pos} : PE X (.Constant .none j pos) (tC .non) := fun _ _ _ H _ I h => Constant_none ⟨.non, H, I, rfl, h⟩
theorem pe_str {x j pos} : PE X (.Constant (.str x) j pos) (tC (.str x)) := fun _ _ _ H _ I h => Calls.Constant_str ⟨.str x, H, I.tok _, ⟨_, rfl⟩, h⟩
def Gl (X : Cx) (x : Str) : Prop := X.env.kindOf x = some .globalImplicit
theorem ld_glob {E : Value → Shared → Prop} {pins : List (Addr × Obj)} {s : Shared} {σ : St} {H : Hp} {x : Str} {u : Value} {pos : Pos} {Q : Value → Shared → Prop} (I : Inv X pins σ H s) (hg : Gl X x) (hm : X.mg x = some u) (h : Q u s)
    (hd : (x == ("__debug__" : Str)) = false := by decide) : wpAny (model X.prog X.w) X.A (eval (.Name x pos) X.env) Q E s :=
  Calls.Name_function_global I.ok.kind hg (Calls.loadGlobal_global (by rw [I.ok.glob]; exact I.mod.glob.keeps I.bk) hm h) hd
theorem ld_blt {E : Value → Shared → Prop} {pins : List (Addr × Obj)} {s : Shared} {σ : St} {H : Hp} {x : Str} {u : Value} {pos : Pos} {Q : Value → Shared → Prop} (I : Inv X pins σ H s) (hg : Gl X x) (hm : X.mg x = none) (hv : bootBuiltins x = some u) (h : Q u s)
    (hn : x ≠ "__name__" := by decide) (hd : (x == ("__debug__" : Str)) = false := by decide) : wpAny (model X.prog X.w) X.A (eval (.Name x pos) X.env) Q E s := by
  obtain ⟨mb, h1, h2⟩ := I.mod.blt
  exact Calls.Name_function_global I.ok.kind hg (Calls.loadGlobal_builtin (by rw [I.ok.glob]; exact I.mod.glob.keeps I.bk) hm (by rw [I.ok.blt]; exact h1.keeps I.bk) ((h2 x hn).trans hv) h) hd
theorem pe_glob {x : Str} {v : V} {u : Value} {pos : Pos} (hg : Gl X x) (hm : X.mg x = some u) (r : RelV v u) (hd : (x == ("__debug__" : Str)) = false := by decide) : PE X (.Name x pos) (tC v) :=
  fun _ _ _ H _ I h => ld_glob I hg hm ⟨v, H, I, r, h⟩ hd
theorem pe_bltn {x : Str} {v : V} {u : Value} {pos : Pos} (hg : Gl X x) (hm : X.mg x = none) (hv : bootBuiltins x = some u) (r : RelV v u) (hn : x ≠ "__name__" := by decide) (hd : (x == ("__debug__" : Str)) = false := by decide) : PE X (.Name x pos) (tC v) :=
  fun _ _ _ H _ I h => ld_blt I hg hm hv ⟨v, H, I, r, h⟩ hn hd
variable {a b : Expr} {ta tb : TE} {pos : Pos}
def PC (X : Cx) (op : CmpOp) (a b : Expr) (t : TE) : Prop :=
  ∀ (pins : List (Addr × Obj)) (s : Shared) (σ : St) (H : Hp) (Q : VK), Inv X pins σ H s → t σ H Q →
    wpAny (model X.prog X.w) X.A (eval a X.env) (fun v s₁ => wpAny (model X.prog X.w) X.A (eval b X.env) (fun u s₂ => wpAny (model X.prog X.w) X.A (compareOp op v u) (EP X pins σ Q) X.xe s₂) X.xe s₁) X.xe s
def tB (t : TE) : TT := fun σ H Q => t σ H fun x H1 => ∃ c, x = .bl c ∧ Q c H1
theorem pt_cmp {op : CmpOp} {t : TE} (h : PC X op a b t) (h1 : behindInMarks op b = false := by first | exact nobehind _ (by decide) (by decide) | rfl) : PT X (.Compare a [op] [b] pos) (tB t) := by
  intro pins s σ H Q I hw
  refine wpAny_isTrue_Compare1 (thn (h pins s σ H _ I hw) fun v s1 h1 => thn h1 fun u s2 h2 => thn h2 fun c s3 ⟨x, H1, I1, r1, q1⟩ => ?_) h1
  obtain ⟨d, rfl, q⟩ := q1
  cases r1
  exact wpAny_truthy_bool ⟨H1, I1, q⟩
theorem pt_val {e : Expr} {t : TE} (h : PE X e t) (he : ∀ whole, isTrue e X.env whole = (do let v ← whole; standAt e.pos; holding [v] (truthy v)) := by intro _; rfl) : PT X e (tB t) := by
  intro pins s σ H Q I hw
  refine isTrue_plain (thn (h pins s σ H _ I hw) fun v s1 ⟨x, H1, I1, r1, q1⟩ => ?_) (he _)
  obtain ⟨d, rfl, q⟩ := q1
  cases r1
  exact wpAny_truthy_bool ⟨H1, I1, q⟩
variable {tA tB' : TT} {rest : List Expr}
def tAnd (t u : TT) : TT := fun σ H Q => t σ H fun c H1 => if c = true then u σ H1 Q else Q false H1
def tOr (t u : TT) : TT := fun σ H Q => t σ H fun c H1 => if c = true then Q true H1 else u σ H1 Q
def tNot (t : TT) : TT := fun σ H Q => t σ H fun c H1 => Q (!c) H1
theorem pw_and1 (ha : PT X a tA) : PW X (.BoolOp .And [a] pos) tA := by
  intro wh pins s σ H Q I h
  refine isTrue_and (thn (ha pins s σ H Q I h) fun c s1 e => ?_)
  cases c with
  | true => exact isTrue_and_nil e
  | false => exact e
theorem pw_or1 (ha : PT X a tA) : PW X (.BoolOp .Or [a] pos) tA := by
  intro wh pins s σ H Q I h
  refine isTrue_or (thn (ha pins s σ H Q I h) fun c s1 e => ?_)
  cases c with
  | false => exact isTrue_or_nil e
  | true => exact e
theorem pw_and (ha : PT X a tA) (hb : PW X (.BoolOp .And (b :: rest) pos) tB') : PW X (.BoolOp .And (a :: b :: rest) pos) (tAnd tA tB') := by
  intro wh pins s σ H Q I h
  refine isTrue_and (thn (ha pins s σ H _ I h) fun c s1 ⟨H1, I1, q1⟩ => ?_)
  cases c with
  | true => exact hb wh pins s1 σ H1 Q I1 q1
  | false => exact ⟨H1, I1, q1⟩
theorem pw_or (ha : PT X a tA) (hb : PW X (.BoolOp .Or (b :: rest) pos) tB') : PW X (.BoolOp .Or (a :: b :: rest) pos) (tOr tA tB') := by
  intro wh pins s σ H Q I h
  refine isTrue_or (thn (ha pins s σ H _ I h) fun c s1 ⟨H1, I1, q1⟩ => ?_)
  cases c with
  | true => exact ⟨H1, I1, q1⟩
  | false => exact hb wh pins s1 σ H1 Q I1 q1
theorem pt_not (ha : PT X a tA) : PT X (.UnaryOp .Not a pos) (tNot tA) := by
  intro pins s σ H Q I h
  exact isTrue_not (ha pins s σ H (fun c H1 => Q (!c) H1) I h)
def tAndV (ta tb : TE) : TE := fun σ H Q => ta σ H fun x H1 => ∃ c, x = .bl c ∧ if c = true then tb σ H1 Q else Q (.bl false) H1
theorem pe_one {op} {t : TE} (h : PE X a t) : PE X (.BoolOp op [a] pos) t := fun pins s σ H Q I hw => BoolOp_one (h pins s σ H Q I hw)
theorem pe_and (ha : PE X a ta) (hb : PE X (.BoolOp .And (b :: rest) pos) tb) : PE X (.BoolOp .And (a :: b :: rest) pos) (tAndV ta tb) := by
  intro pins s σ H Q I h
  refine BoolOp_and (thn (ha pins s σ H _ I h) fun v s1 ⟨x, H1, I1, r1, q1⟩ => ?_)
  obtain ⟨c, rfl, q1⟩ := q1
  cases r1
  refine wpAny_truthy_bool ?_
  cases c with
  | true => exact hb pins s1 σ H1 Q I1 q1
  | false => exact ⟨.bl false, H1, I1, rfl, q1⟩
end
end L2
namespace L2
open PySem PySem.Spec PyProof.Rows
def SqL (K : PySem.W.Frag) (H : Hp) (a : Addr) (xs : List V) : Prop :=
  Rd H a (.lst xs) ∨
    ∃ (o : Obj) (its : Array Value) (n : Nat), K.lookup a = some o ∧ o.cls = .type "list" ∧ o.dict = none ∧ o.data = .seq its n ∧ its.size ≤ sizeLine ∧ Vals xs its.toList
def SqT (K : PySem.W.Frag) (H : Hp) (a : Addr) (xs : List V) : Prop :=
  Rd H a (.tup xs) ∨
    ∃ (o : Obj) (its : Array Value) (n : Nat), K.lookup a = some o ∧ o.cls = .type "tuple" ∧ o.data = .seq its n ∧ its.size ≤ sizeLine ∧ Vals xs its.toList
def absV : Value → Option V
  | .none => some .non
  | .bool b => some (.bl b)
  | .int i _ => some (.int i)
  | .str x _ => some (.str x)
  | .bytes b _ => some (.byt b)
  | .float b _ => some (.flt b)
  | .ref a => some (.ref a)
  | .type n => some (.ty n)
  | _ => none
theorem RelV.abs {x : V} {u : Value} (r : RelV x u) : absV u = some x := by
  cases x with
  | non => cases r; rfl
  | bl _ => cases r; rfl
  | int _ => obtain ⟨t, rfl⟩ := r; rfl
  | str _ => obtain ⟨t, rfl⟩ := r; rfl
  | byt _ => obtain ⟨t, rfl⟩ := r; rfl
  | flt _ => obtain ⟨t, rfl⟩ := r; rfl
  | ref _ => cases r; rfl
  | ty _ => cases r; rfl
theorem RelV.inj {x y : V} {u : Value} (r : RelV x u) (q : RelV y u) : x = y := Option.some.inj (r.abs.symm.trans q.abs)
theorem Vals.inj : ∀ {xs ys : List V} {us : List Value}, Vals xs us → Vals ys us → xs = ys
  | _, _, _, .nil, .nil => rfl
  | _, _, _, .cons r t, .cons r' t' => by rw [r.inj r', Vals.inj t t']
section
variable {X : Cx} {pins : List (Addr × Obj)} {σ : St} {H : Hp} {s : Shared} {a : Addr} {xs ys : List V}
theorem SqL.of {K : PySem.W.Frag} (h : H a = some (.lst xs)) : SqL K H a xs := .inl (.inl h)
theorem SqT.of {K : PySem.W.Frag} (h : H a = some (.tup xs)) : SqT K H a xs := .inl (.inl h)
theorem Inv.list (I : Inv X pins σ H s) (h : SqL X.K H a xs) : ∃ its : List Value, Vals xs its ∧ PlainL s.heap a its.toArray ∧ xs.length ≤ sizeLine := by
  rcases h with h | ⟨o, its, n, hk, hc, hd, hs, hz, r⟩
  · obtain ⟨z, its, n, r, e⟩ := h.ok I.hok
    exact ⟨its, r, ⟨_, n, e, rfl, rfl, rfl⟩, z⟩
  · refine ⟨its.toList, r, ⟨o, n, I.kIn a o hk, hc, hd, by simpa using hs⟩, ?_⟩
    have e := r.length
    simp only [Array.length_toList] at e
    (first | lia | omega)
theorem Inv.tuple (I : Inv X pins σ H s) (h : SqT X.K H a xs) : ∃ its : List Value, Vals xs its ∧ IsTup s.heap a its.toArray ∧ xs.length ≤ sizeLine := by
  rcases h with h | ⟨o, its, n, hk, hc, hs, hz, r⟩
  · obtain ⟨z, its, r, p⟩ := h.ok I.hok
    exact ⟨its, r, p, z⟩
  · refine ⟨its.toList, r, ⟨o, I.kIn a o hk, hc, n, by simpa using hs⟩, ?_⟩
    have e := r.length
    simp only [Array.length_toList] at e
    (first | lia | omega)
theorem Inv.list_inj (I : Inv X pins σ H s) (h : SqL X.K H a xs) (h' : SqL X.K H a ys) : xs = ys := by
  obtain ⟨its, r, ⟨o, n, e, _, _, d⟩, _⟩ := I.list h
  obtain ⟨its', r', ⟨o', n', e', _, _, d'⟩, _⟩ := I.list h'
  rw [e] at e'; cases e'
  rw [d] at d'
  injection d' with d1 _
  have : its = its' := by simpa using congrArg Array.toList d1
  subst this
  exact r.inj r'
end
abbrev Cx.wish (X : Cx) (E : Value → Shared → Prop) : Cx := { X with xe := E }
abbrev Cx.nox (X : Cx) : Cx := X.wish fun _ _ => False
theorem Cx.Ok.wish {X : Cx} (ok : X.Ok) (E : Value → Shared → Prop) : (X.wish E).Ok :=
  ⟨ok.mod, ok.kind, ok.glob, ok.blt, ok.above, ok.inj, ok.has, ok.cab, ok.hd, ok.frames, ok.stk, ok.exf, ok.bs, ok.bsz, ok.noex, ok.exfs, ok.funs, ok.frf⟩
theorem Cx.Ok.unwish {X : Cx} {E : Value → Shared → Prop} (ok : (X.wish E).Ok) : X.Ok :=
  ⟨ok.mod, ok.kind, ok.glob, ok.blt, ok.above, ok.inj, ok.has, ok.cab, ok.hd, ok.frames, ok.stk, ok.exf, ok.bs, ok.bsz, ok.noex, ok.exfs, ok.funs, ok.frf⟩
section
variable {X : Cx} {pins : List (Addr × Obj)} {σ : St} {H : Hp} {s : Shared} {E : Value → Shared → Prop}
theorem Inv.wish (I : Inv X pins σ H s) (E : Value → Shared → Prop) : Inv (X.wish E) pins σ H s := ⟨I.ok.wish E, I.os, I.bare, I.base, I.loc, I.cell, I.free, I.freeC, I.pin, I.hok, I.len⟩
theorem Inv.unwish (I : Inv (X.wish E) pins σ H s) : Inv X pins σ H s := ⟨I.ok.unwish, I.os, I.bare, I.base, I.loc, I.cell, I.free, I.freeC, I.pin, I.hok, I.len⟩
theorem SP.unwish {D : Ends} {f : Flow} {s' : Shared} (h : SP (X.wish E) pins D f s') : SP X pins D f s' := by
  cases f with
  | next => obtain ⟨σ', H', I, q⟩ := h; exact ⟨σ', H', I.unwish, q⟩
  | brk => obtain ⟨σ', H', I, q⟩ := h; exact ⟨σ', H', I.unwish, q⟩
  | cont => obtain ⟨σ', H', I, q⟩ := h; exact ⟨σ', H', I.unwish, q⟩
  | ret u => obtain ⟨v, σ', H', I, r, q⟩ := h; exact ⟨v, σ', H', I.unwish, r, q⟩
theorem PSs.nox {st : List Stmt} {t : TS} (h : PSs X.nox st t) : PSs X st t := fun pins s σ H D I hw =>
  wpAny_mono (h pins s σ H D (I.wish _) hw) (fun _ _ q => q.unwish) fun _ _ z => False.elim z
end
section
variable {X : Cx} {st : Stmt} {rest : List Stmt} {t u : TS} {e : Expr} {te : TE} {pos : Pos}
def tNext : TS := fun D σ H => D.nx σ H
def tSeq (t u : TS) : TS := fun D σ H => t { D with nx := u D } σ H
theorem pss_nil : PSs X [] tNext := fun _ _ σ H _ I h => wpAny_execs_nil ⟨σ, H, I, h⟩
theorem pss_cons (h1 : PS X st t) (h2 : PSs X rest u) : PSs X (st :: rest) (tSeq t u) := by
  intro pins s σ H D I h
  refine wpAny_execs_cons (thn (h1 pins s σ H { D with nx := u D } I h) fun f s1 q => ?_)
  cases f with
  | next =>
    obtain ⟨σ', H', I', q⟩ := q
    exact h2 pins s1 σ' H' D I' q
  | ret v => exact q
  | brk => exact q
  | cont => exact q
theorem pss_one (h1 : PS X st t) : PSs X [st] t := by
  intro pins s σ H D I h
  refine wpAny_execs_cons (thn (h1 pins s σ H D I h) fun f s1 q => ?_)
  cases f with
  | next => exact wpAny_execs_nil q
  | ret v => exact q
  | brk => exact q
  | cont => exact q
theorem Inv.quiet {pins : List (Addr × Obj)} {σ : St} {H : Hp} {s : Shared} (I : Inv X pins σ H s) : interactive X.env = false := by simp [interactive, I.ok.kind]
def tDrop (te : TE) : TS := fun D σ H => te σ H fun _ H1 => D.nx σ H1
theorem ps_expr (he : PE X e te) (hs : swapsWith e none pos.line X.env = pure false := by rfl) : PS X (.Expr e pos) (tDrop te) := by
  intro pins s σ H D I h
  exact wpAny_Expr_any (thn (he pins s σ H _ I h) fun v s1 ⟨x, H1, I1, r1, q1⟩ => ⟨σ, H1, I1, q1⟩) I.quiet hs
def tRet (te : TE) : TS := fun D σ H => te σ H D.rt
theorem ps_ret (he : PE X e te) : PS X (.Return (some e) pos) (tRet te) := by
  intro pins s σ H D I h
  exact wpAny_Return_some (thn (he pins s σ H _ I h) fun v s1 ⟨x, H1, I1, r1, q1⟩ => ⟨x, σ, H1, I1, r1, q1⟩)
def tIfS (c : TT) (t u : TS) : TS := fun D σ H => c σ H fun b H1 => if b = true then t D σ H1 else u D σ H1
theorem ps_if {c : Expr} {a b : List Stmt} {tc : TT} (hc : PT X c tc) (ha : PSs X a t) (hb : PSs X b u) : PS X (.If c a b pos) (tIfS tc t u) := by
  intro pins s σ H D I h
  refine wpAny_If (thn (hc pins s σ H _ I h) fun d s1 ⟨H1, I1, q1⟩ => ?_)
  cases d with
  | true => exact ha pins s1 σ H1 D I1 q1
  | false => exact hb pins s1 σ H1 D I1 q1
def tNever : TS := fun _ _ _ => False
theorem pss_never {sts : List Stmt} : PSs X sts tNever := fun _ _ _ _ _ _ h => h.elim
end
abbrev TG := V → St → Hp → (St → Hp → Prop) → Prop
abbrev TGs := List V → St → Hp → (St → Hp → Prop) → Prop
def PG (X : Cx) (target : Expr) (t : TG) : Prop :=
  ∀ (pins : List (Addr × Obj)) (s : Shared) (σ : St) (H : Hp) (v : V) (u : Value) (Q : St → Hp → Prop), Inv X pins σ H s → RelV v u → t v σ H Q →
    wpAny (model X.prog X.w) X.A (assign target X.env u) (fun _ s' => ∃ σ' H', Inv X pins σ' H' s' ∧ Q σ' H') X.xe s
def PGs (X : Cx) (ts : List Expr) (t : TGs) : Prop :=
  ∀ (pins : List (Addr × Obj)) (s : Shared) (σ : St) (H : Hp) (vs : List V) (us : List Value) (Q : St → Hp → Prop), Inv X pins σ H s → Vals vs us → t vs σ H Q →
    wpAny (model X.prog X.w) X.A (assignInOrder ((assignEach ts X.env).map (·.2)) us) (fun _ s' => ∃ σ' H', Inv X pins σ' H' s' ∧ Q σ' H') X.xe s
abbrev TSet := V → V → V → Hp → (Hp → Prop) → Prop
def PSet (X : Cx) (t : TSet) : Prop :=
  ∀ (pins : List (Addr × Obj)) (s : Shared) (σ : St) (H : Hp) (o i v : V) (ov iv u : Value) (Q : Hp → Prop), Inv X pins σ H s → RelV o ov → RelV i iv → RelV v u → t o i v H Q →
    wpAny (model X.prog X.w) X.A (setItem ov iv u) (fun _ s' => ∃ H', Inv X pins σ H' s' ∧ Q H') X.xe s
section
variable {X : Cx} {pos : Pos}
def gName (i : Nat) : TG := fun v σ H Q => Q (σ.set i (some v)) H
theorem pg_name {i : Nat} {x : Str} (hN : X.N.Nodup) (hi : X.N[i]? = some x) (hx : Loc X.env.scope x) (hf : X.fn x = true ∨ X.env.scope.names.lookup x = some .local := by first | exact .inl rfl | exact .inr rfl | assumption) : PG X (.Name x pos) (gName i) := by
  intro pins s σ H v u Q I r h
  exact wpAny_assign_Name (store_ok I hN hi hx r (fun s' I' => ⟨_, H, I', h⟩) hf)
def gNil : TGs := fun vs σ H Q => vs = [] ∧ Q σ H
def gCons (t : TG) (u : TGs) : TGs := fun vs σ H Q => ∃ v r, vs = v :: r ∧ t v σ H fun σ' H' => u r σ' H' Q
theorem pgs_nil : PGs X [] gNil := by
  intro pins s σ H vs us Q I r h
  obtain ⟨e, h⟩ := h
  subst e
  cases r
  exact assignInOrder_nil ⟨σ, H, I, h⟩
theorem pgs_cons {e : Expr} {es : List Expr} {t : TG} {u : TGs} (h1 : PG X e t) (h2 : PGs X es u)
    (hs : (assignEach (e :: es) X.env).map (·.2) = assign e X.env :: (assignEach es X.env).map (·.2) := by rfl) : PGs X (e :: es) (gCons t u) := by
  intro pins s σ H vs us Q I r h
  obtain ⟨v, vr, e1, h⟩ := h
  subst e1
  cases r with
  | cons r rr =>
    rw [hs]
    refine assignInOrder_cons (thn (h1 pins s σ H _ _ _ I r h) fun _ s1 ⟨σ1, H1, I1, q1⟩ => ?_)
    exact h2 pins s1 σ1 H1 _ _ Q I1 rr q1
def gTup (K : PySem.W.Frag) (n : Nat) (t : TGs) : TG := fun v σ H Q => ∃ a xs, v = .ref a ∧ SqT K H a xs ∧ xs.length = n ∧ t xs σ H Q
theorem pg_tup {es : List Expr} {k : Nat} {t : TGs} {n : Nat} (hc : X.calm = true) (h : PGs X es t)
    (hn : (assignEach es X.env).length = n := by rfl) (hst : (assignEach es X.env).findIdx? (·.1) = none := by rfl) : PG X (.Tuple es k pos) (gTup X.K n t) := by
  intro pins s σ H v u Q I r hw
  obtain ⟨a, xs, e1, hq, hl, hw⟩ := hw
  subst e1
  cases r
  obtain ⟨its, rv, ht, hz⟩ := I.tuple hq
  refine assign_Tuple_tuple (I.ok.hd hc) ht (by simp [hn, ← hl, rv.length]) hst fun h' hx => ?_
  have I1 : Inv X pins σ H { s with heap := h' } := I.kept (t' := s.toks) fun b o e => hx b o (Nat.ne_of_lt (Heap.lt_size e)) e
  exact h pins _ σ H xs _ Q I1 (by simpa using rv) hw
def gSub (to ti : TE) (t : TSet) : TG := fun v σ H Q => to σ H fun o H1 => ti σ H1 fun i H2 => t o i v H2 fun H3 => Q σ H3
theorem pg_sub {o i : Expr} {to ti : TE} {t : TSet} (ho : PE X o to) (hi : PE X i ti) (hs : PSet X t)
    (ha : ∀ v, assign (.Subscript o i pos) X.env v = (do
      let ov ← holding [v] (eval o X.env)
      let iv ← holding [v, ov] (eval i X.env)
      standAt pos
      holding [v, ov, iv] (setItem ov iv v)
      release [v, ov, iv] []) := by intro _; rfl) : PG X (.Subscript o i pos) (gSub to ti t) := by
  intro pins s σ H v u Q I r h
  rw [ha]
  refine wpAny_bind (wpAny_holding (thn (ho pins s σ H _ I h) fun ov s1 ⟨x, H1, I1, r1, q1⟩ => ?_))
  refine wpAny_bind (wpAny_holding (thn (hi pins s1 σ H1 _ I1 q1) fun iv s2 ⟨y, H2, I2, r2, q2⟩ => ?_))
  refine wpAny_bind (wpAny_standAt (wpAny_bind (wpAny_holding (thn (hs pins s2 σ H2 x y v ov iv u _ I2 r1 r2 r q2) fun _ s3 ⟨H3, I3, q3⟩ => ?_))))
  exact wpAny_release ⟨σ, H3, I3, q3⟩
def tAsg (te : TE) (g : TG) : TS := fun D σ H => te σ H fun x H1 => g x σ H1 D.nx
theorem ps_asg {tg e : Expr} {te : TE} {g : TG} (he : PE X e te) (hg : PG X tg g) (hs : swapsWithSole [tg] e pos.line X.env = pure false := by rfl) (hw : swappedStores [tg] e X.env = pure none := by rfl)
    (h1 : (assignEach [tg] X.env).map (·.2) = [assign tg X.env] := by rfl) : PS X (.Assign [tg] e pos) (tAsg te g) := by
  intro pins s σ H D I h
  refine wpAny_Assign_stores (thn (he pins s σ H _ I h) fun v s1 ⟨x, H1, I1, r1, q1⟩ => ?_) hs hw
  rw [h1]
  exact thn (hg pins s1 σ H1 x v _ I1 r1 q1) fun _ s2 q => q
theorem ps_set {i : Nat} {x : Str} {e : Expr} {te : TE} {pos' : Pos} (hN : X.N.Nodup) (hi : X.N[i]? = some x) (hx : Loc X.env.scope x) (he : PE X e te) (hs : swapsWith e (some (.Name x pos')) pos.line X.env = pure false := by rfl) (hf : X.fn x = true ∨ X.env.scope.names.lookup x = some .local := by first | exact .inl rfl | exact .inr rfl | assumption) :
    PS X (.Assign [.Name x pos'] e pos) (tAsg te (gName i)) := by
  intro pins s σ H D I h
  refine wpAny_Assign_Name (thn (he pins s σ H _ I h) fun v s1 ⟨y, H1, I1, r1, q1⟩ => ?_) hs
  exact store_ok I1 hN hi hx r1 (fun s2 I2 => ⟨_, H1, I2, q1⟩) hf
end
section
variable {X : Cx} {pos : Pos}
def tWhile (c : TT) (tb : TS) : TS := fun D σ H => ∃ W : Nat → St → Hp → Prop, (∃ m, W m σ H) ∧ ∀ m σ H, W m σ H →
  c σ H fun b H1 => if b = true then ∃ N : St → Hp → Prop, (∀ σ' H', N σ' H' → ∃ m', m' < m ∧ W m' σ' H') ∧ tb { D with nx := N, ct := N, bk := D.nx } σ H1 else D.nx σ H1
theorem ps_while {c : Expr} {body : List Stmt} {tc : TT} {tb : TS} (hp : PassesOwn (model X.prog X.w) X.A X.env X.xe) (hc : PT X c tc) (hb : PSs X body tb) : PS X (.While c body [] pos) (tWhile tc tb) := by
  intro pins s σ H D I h
  obtain ⟨W, ⟨m0, w0⟩, turn⟩ := h
  refine wpAny_While (codeAny_whileLoop (fun n s' => ∃ σ' H', Inv X pins σ' H' s' ∧ W n σ' H') ?_ m0 ⟨σ, H, I, w0⟩)
  rintro n s1 ⟨σ1, H1, I1, w1⟩
  refine wpAny_passesOwn hp (thn (hc pins s1 σ1 H1 _ I1 (turn n σ1 H1 w1)) fun b s2 ⟨H2, I2, q2⟩ => ?_)
  cases b with
  | true =>
    obtain ⟨N, hN, q2⟩ := q2
    rw [if_pos rfl]
    refine wpAny_passesOwn hp (thn (hb pins s2 σ1 H2 _ I2 q2) fun f s3 q3 => ?_)
    cases f with
    | next =>
      obtain ⟨σ3, H3, I3, n3⟩ := q3
      obtain ⟨m', hm, w3⟩ := hN σ3 H3 n3
      exact ⟨m', hm, σ3, H3, I3, w3⟩
    | cont =>
      obtain ⟨σ3, H3, I3, n3⟩ := q3
      obtain ⟨m', hm, w3⟩ := hN σ3 H3 n3
      exact ⟨m', hm, σ3, H3, I3, w3⟩
    | brk => exact q3
    | ret v => exact q3
  | false =>
    rw [if_neg Bool.false_ne_true]
    exact wpAny_execs_nil ⟨σ1, H2, I2, q2⟩
end
structure It where
  go : Nat → Hp → Prop
  yld : Nat → Hp → V → Hp → Prop
  stop : Nat → Hp → Prop
def FpOk (X : Cx) (pins : List (Addr × Obj)) (H : Hp) (b : Addr) : Prop :=
  H b = none ∧ b ≠ X.env.locals ∧ b ∉ X.fs ∧ (b ∈ X.ex ∨ X.s₀.heap.objs.size ≤ b) ∧ (∀ x c, X.env.cells.lookup x = some c → c ≠ b) ∧ ∀ p ∈ X.pn ++ pins, p.1 ≠ b
theorem Inv.fpOk {X : Cx} {pins : List (Addr × Obj)} {σ : St} {H H' : Hp} {s : Shared} {b : Addr} (I : Inv X pins σ H s) (hb : s.heap.objs.size ≤ b) (hn : H' b = none) : FpOk X pins H' b := by
  refine ⟨hn, Nat.ne_of_gt (Nat.lt_of_lt_of_le I.lt hb), I.nofs hb, .inr (Nat.le_trans I.sz hb), fun x c e z => ?_, fun p hp z => ?_⟩
  · obtain ⟨v, q⟩ := I.cell x c e
    exact absurd (Nat.lt_of_lt_of_le q.lt (by rw [z]; exact hb)) (Nat.lt_irrefl _)
  · exact absurd (Nat.lt_of_lt_of_le (Heap.lt_size (I.pin p hp).1) (by rw [z]; exact hb)) (Nat.lt_irrefl _)
structure Turn (P : Program) (w : World) (K : PySem.W.Frag) (tg : Expr) (J : It) (fp : List Addr) (it : Addr) (tn : Nat → Heap → Prop) : Prop where
  mem : it ∈ fp
  obj : ∀ i h, tn i h → ∀ b ∈ fp, ∃ o, h.get? b = some o ∧ ∀ v, o.data ≠ .cell v
  keep : ∀ i h h', tn i h → (∀ b ∈ fp, ∀ o, h.get? b = some o → h'.get? b = some o) → tn i h'
  item : ∀ (X : Cx), X.prog = P → X.w = w → X.K = K → X.calm = true → ∀ (i : Nat) (pins : List (Addr × Obj)) (s : Shared) (σ : St) (H : Hp) (E : Value → Shared → Prop), Inv X pins σ H s → (∀ b ∈ fp, FpOk X pins H b) → tn i s.heap → J.go i H →
    wpAny (model P w) X.A (pyNext (.ref it)) (fun r s1 => ∃ u, r = some u ∧
      wpAny (model P w) X.A (letOwnedTupleGo tg (.ref it) u) (fun _ s2 => ∃ x H', Inv X pins σ H' s2 ∧ RelV x u ∧ J.yld i H x H' ∧ tn (i + 1) s2.heap ∧ ∀ b ∈ fp, H' b = none) E s1) E s
  done : ∀ (X : Cx), X.prog = P → X.w = w → X.K = K → X.calm = true → ∀ (i : Nat) (pins : List (Addr × Obj)) (s : Shared) (σ : St) (H : Hp) (E : Value → Shared → Prop), Inv X pins σ H s → (∀ b ∈ fp, FpOk X pins H b) → tn i s.heap → J.stop i H →
    wpAny (model P w) X.A (pyNext (.ref it)) (fun r s1 => r = none ∧ Inv X pins σ H s1) E s
  self : ∀ (A : Around) (i : Nat) (s : Shared) (Q : Value → Shared → Prop) (E : Value → Shared → Prop), tn i s.heap → Q (.ref it) s → wpAny (model P w) A (pyIter (.ref it)) Q E s
abbrev TI := St → Hp → (It → Hp → Prop) → Prop
def PIE (X : Cx) (pins : List (Addr × Obj)) (σ : St) (tg : Expr) (R : It → Hp → Prop) (itv : Value) (s2 : Shared) : Prop :=
  ∃ (it : Addr) (fp : List Addr) (tn : Nat → Heap → Prop) (J : It) (H' : Hp), itv = .ref it ∧ Inv X pins σ H' s2 ∧ Turn X.prog X.w X.K tg J fp it tn ∧ tn 0 s2.heap ∧ (∀ b ∈ fp, FpOk X pins H' b) ∧ R J H'
def PI (X : Cx) (tg iter : Expr) (wi : TI) : Prop :=
  ∀ (pins : List (Addr × Obj)) (s : Shared) (σ : St) (H : Hp) (R : It → Hp → Prop), Inv X pins σ H s → wi σ H R →
    wpAny (model X.prog X.w) X.A (eval iter X.env) (fun v s1 => wpAny (model X.prog X.w) X.A (pyIter v) (PIE X pins σ tg R) X.xe s1) X.xe s
theorem go_of {M : Model} {A : Around} {E : Value → Shared → Prop} {s : Shared} {tg : Expr} {it : Addr} {u : Value} {o : Obj} {n : String} {vs : Array Value} {Q : Unit → Shared → Prop} (ho : s.heap.get? it = some o) (hc : o.cls = .type n) (hd : o.data = .fields vs)
    (hn : ["enumerate", "zip", "dict_itemiterator", "dict_reverseitemiterator", "odict_iterator", "itertools.zip_longest", "itertools.pairwise"].contains n = false) (hQ : Q () s) : wpAny M A (letOwnedTupleGo tg (.ref it) u) Q E s := by
  unfold letOwnedTupleGo
  cases tg <;> first
    | exact wpAny_pure hQ
    | (cases u <;> first
        | exact wpAny_pure hQ
        | (refine wpAny_bind (wpAny_load ho ?_)
           rw [hc, hd]
           show wpAny M A (if (["enumerate", "zip", "dict_itemiterator", "dict_reverseitemiterator", "odict_iterator", "itertools.zip_longest", "itertools.pairwise"].contains n && vs[0]? == some (rawInt _)) = true then _ else _) Q E s
           rw [if_neg (by intro h; rw [hn, Bool.false_and] at h; cases h)]
           exact wpAny_pure hQ))
def Itl (K : PySem.W.Frag) (a : Addr) : It :=
  ⟨fun i H => ∃ xs x, SqL K H a xs ∧ xs[i]? = some x, fun i H x H' => H' = H ∧ ∀ xs, SqL K H a xs → xs[i]? = some x, fun i H => ∃ xs, SqL K H a xs ∧ xs.length ≤ i⟩
def Itr (lo : Int) (n : Nat) : It := ⟨fun i _ => i < n, fun i H x H' => H' = H ∧ x = .int (lo + i), fun i _ => n ≤ i⟩
theorem turn_list {P : Program} {w : World} {K : PySem.W.Frag} {tg : Expr} (a it : Addr) : Turn P w K tg (Itl K a) [it] it (fun i h => h.IsListIter it a i) where
  mem := by simp
  obj := fun i h st b hb => by
    have e : b = it := by simpa using hb
    subst e
    obtain ⟨o, e, c, d⟩ := st
    exact ⟨o, e, fun v z => by rw [d] at z; cases z⟩
  keep := fun i h h' st k => st.at fun o e => k it (by simp) o e
  item := by
    intro X hP hw hK hc i pins s σ H E I hf st hg
    subst hP hw hK
    obtain ⟨xs, x, hq, hx⟩ := hg
    obtain ⟨its, rv, p, hz⟩ := I.list hq
    obtain ⟨u, hu, ru⟩ := rv.get hx
    obtain ⟨f0, f1, f2, f3, f4, f5⟩ := hf it (by simp)
    refine wpAny_pyNext_list_item st p.isList (x := u) (by simpa using hu) fun h' st' sb => ?_
    have I1 : Inv X pins σ H { s with heap := h' } := I.turned (t' := s.toks) (fun b o hb e => (sb.2 b hb).trans e) f0 f1 f3 f4 f5
    obtain ⟨o, e, c, d⟩ := id st'
    exact ⟨u, rfl, go_of (s := { s with heap := h' }) e c d (by decide) ⟨x, H, I1, ru, ⟨rfl, fun ys hy => by rw [I.list_inj hy hq]; exact hx⟩, st', fun b hb => (hf b hb).1⟩⟩
  done := by
    intro X hP hw hK hc i pins s σ H E I hf st hg
    subst hP hw hK
    obtain ⟨xs, hq, hx⟩ := hg
    obtain ⟨its, rv, p, hz⟩ := I.list hq
    obtain ⟨f0, f1, f2, f3, f4, f5⟩ := hf it (by simp)
    have hl := rv.length
    exact wpAny_pyNext_list_end (I.ok.hd hc) st p.isList (by simp; (first | lia | omega)) fun h' eb => ⟨rfl, I.turned (t' := s.toks) (fun b o hb e => eb b o hb e) f0 f1 f3 f4 f5⟩
  self := fun _ _ _ _ _ st h => wpAny_pyIter_listiter st h
theorem turn_range {P : Program} {w : World} {K : PySem.W.Frag} {tg : Expr} (it : Addr) (lo : Int) (n : Nat) : Turn P w K tg (Itr lo n) [it] it (fun i h => IsRangeIter h it (lo + (i : Nat) * 1) ((n : Int) - (i : Nat)) 1) where
  mem := by simp
  obj := fun i h st b hb => by
    have e : b = it := by simpa using hb
    subst e
    exact ⟨_, st, fun v z => by
      have z' : Data.fields _ = Data.cell v := z
      cases z'⟩
  keep := fun i h h' st k => k it (by simp) _ st
  item := by
    intro X hP hw hK hc i pins s σ H E I hf st hg
    subst hP hw hK
    obtain ⟨f0, f1, f2, f3, f4, f5⟩ := hf it (by simp)
    have W := Walks.range (prog := X.prog) (w := X.w) (I.ok.hd hc) it lo 1 n
    refine W.item i s _ _ hg st fun v h' tk hv st' kk => ?_
    obtain ⟨t, rfl⟩ := hv
    have I1 : Inv X pins σ H { s with heap := h', toks := tk } := I.turned (fun b o hb e => kk b o (by simpa using hb) e) f0 f1 f3 f4 f5
    refine ⟨_, rfl, go_of (s := { s with heap := h', toks := tk }) (n := "range_iterator") st' rfl rfl (by decide) ⟨.int (lo + i), H, I1, ⟨t, ?_⟩, ⟨rfl, rfl⟩, st', fun b hb => (hf b hb).1⟩⟩
    rw [Int.mul_one]
  done := by
    intro X hP hw hK hc i pins s σ H E I hf st hg
    subst hP hw hK
    obtain ⟨f0, f1, f2, f3, f4, f5⟩ := hf it (by simp)
    exact wpAny_pyNext_range_end (I.ok.hd hc) st (by have : n ≤ i := hg; (first | lia | omega)) fun h' eb => ⟨rfl, I.turned (t' := s.toks) (fun b o hb e => eb b o hb e) f0 f1 f3 f4 f5⟩
  self := fun _ _ _ _ _ st h => wpAny_pyIter_rangeiter st h
end L2
namespace L2
open PySem PySem.Spec PyProof.Rows
section
variable {X : Cx} {tg : Expr}
def iList (K : PySem.W.Frag) (tl : TE) : TI := fun σ H R => tl σ H fun x H1 => ∃ a, x = .ref a ∧ (∃ xs, SqL K H1 a xs) ∧ R (Itl K a) H1
theorem pi_list {l : Expr} {tl : TE} (hl : PE X l tl) : PI X tg l (iList X.K tl) := by
  intro pins s σ H R I h
  refine thn (hl pins s σ H _ I h) fun v s1 ⟨x, H1, I1, r1, q1⟩ => ?_
  obtain ⟨a, e, ⟨xs, hq⟩, q⟩ := q1
  subst e
  cases r1
  obtain ⟨its, rv, p, hz⟩ := I1.list hq
  refine wpAny_pyIter_list p.isList ?_
  refine ⟨s1.heap.objs.size, [s1.heap.objs.size], _, _, H1, rfl, I1.kept (t' := s1.toks) fun b o e => Heap.get?_push_of_some _ e, turn_list a _, ⟨_, Heap.get?_push_size _ rfl, rfl, rfl⟩, fun b hb => ?_, q⟩
  have e : b = s1.heap.objs.size := by simpa using hb
  subst e
  exact I1.fpOk (Nat.le_refl _) (I1.hok.fresh (Nat.le_refl _))
theorem range_it {pins : List (Addr × Obj)} {σ : St} {H : Hp} {s : Shared} {R : It → Hp → Prop} {E : Value → Shared → Prop} {lo hi : Int} {t u v : Tok} {tk : Nat} (I : Inv X pins σ H s) (h1 : -(2 ^ 62) ≤ lo) (h2 : lo < 2 ^ 62) (h3 : -(2 ^ 62) ≤ hi) (h4 : hi < 2 ^ 62)
    (q : R (Itr lo (hi - lo).toNat) H) : wpAny (model X.prog X.w) X.A (pyIter (.ref s.heap.objs.size)) (PIE X pins σ tg R) E { s with heap := s.heap.push { cls := .type "range", data := .fields #[.int lo t, .int hi u, .int 1 v] }, toks := tk } := by
  refine wpAny_pyIter_range (IsRange.new ..) (small_one h1 h2 h3 h4) ?_
  have I1 : Inv X pins σ H { s with heap := s.heap.push { cls := .type "range", data := .fields #[.int lo t, .int hi u, .int 1 v] }, toks := tk } := I.kept fun b o e => Heap.get?_push_of_some _ e
  refine ⟨(s.heap.push { cls := .type "range", data := .fields #[.int lo t, .int hi u, .int 1 v] }).objs.size, [(s.heap.push { cls := .type "range", data := .fields #[.int lo t, .int hi u, .int 1 v] }).objs.size], _, _, H, rfl,
    I1.kept (t' := tk) fun b o e => Heap.get?_push_of_some _ e, turn_range _ lo (hi - lo).toNat, ?_, fun b hb => ?_, q⟩
  · have e1 : lo + ((0 : Nat) : Int) * 1 = lo := by simp
    have e2 : (((hi - lo).toNat : Nat) : Int) - ((0 : Nat) : Int) = Builtin.Range.rangeSize lo hi 1 := by rw [rangeSize_one]; split <;> (first | lia | omega)
    show IsRangeIter _ _ (lo + ((0 : Nat) : Int) * 1) ((((hi - lo).toNat : Nat) : Int) - ((0 : Nat) : Int)) 1
    rw [e1, e2]
    exact Heap.get?_push_size _ rfl
  · have e : b = (s.heap.push { cls := .type "range", data := .fields #[.int lo t, .int hi u, .int 1 v] }).objs.size := by simpa using hb
    subst e
    exact I1.fpOk (Nat.le_refl _) (I1.hok.fresh (Nat.le_refl _))
def iRng1 (ta : TA) : TI := fun σ H R => ta σ H fun vs H1 => ∃ j : Int, vs = [.int j] ∧ -(2 ^ 62) ≤ j ∧ j < 2 ^ 62 ∧ R (Itr 0 j.toNat) H1
theorem pi_range1 {a : Expr} {ta : TA} {p pos : Pos} (hg : Gl X "range") (hm : X.mg "range" = none) (ha : PA X [a] ta) (hs : starEach [a] X.env = [(false, eval a X.env)] := by rfl) : PI X tg (.Call (.Name "range" p) [a] [] pos) (iRng1 ta) := by
  intro pins s σ H R I h
  refine Call_ (ld_blt I hg hm boot_range (PyProof.Rows.callWith_type1 (thn (ha pos pins s σ H _ I h) fun us s1 ⟨vs, H1, I1, r1, q1⟩ => ?_) hs rfl))
  obtain ⟨j, e, q1, q2, q⟩ := q1
  subst e
  cases r1 with
  | cons r rr =>
    cases rr
    obtain ⟨t, rfl⟩ := r
    exact call_range_1 (range_it I1 (by (first | lia | omega)) (by (first | lia | omega)) q1 q2 (by simpa using q))
def tFor (wi : TI) (g : TG) (tb : TS) : TS := fun D σ H => wi σ H fun J H1 => ∃ W : Nat → Nat → St → Hp → Prop, (∃ m, W 0 m σ H1) ∧ ∀ i m σ H, W i m σ H →
  (J.stop i H ∧ D.nx σ H) ∨ (J.go i H ∧ ∃ N : St → Hp → Prop, (∀ σ' H', N σ' H' → ∃ m', m' < m ∧ W (i + 1) m' σ' H') ∧ ∀ x H', J.yld i H x H' → g x σ H' fun σ2 H2 => tb { D with nx := N, ct := N, bk := D.nx } σ2 H2)
def pinsAt (fp : List Addr) (h : Heap) : List (Addr × Obj) := fp.filterMap fun b => (h.get? b).map fun o => (b, o)
theorem mem_pinsAt {fp : List Addr} {h : Heap} {b : Addr} {o : Obj} (hb : b ∈ fp) (e : h.get? b = some o) : (b, o) ∈ pinsAt fp h := List.mem_filterMap.mpr ⟨b, hb, by rw [e]; rfl⟩
theorem of_pinsAt {fp : List Addr} {h : Heap} {p : Addr × Obj} (hp : p ∈ pinsAt fp h) : p.1 ∈ fp ∧ h.get? p.1 = some p.2 := by
  obtain ⟨b, hb, e⟩ := List.mem_filterMap.mp hp
  cases q : h.get? b with
  | none => rw [q] at e; cases e
  | some o =>
    rw [q] at e
    have e' : (b, o) = p := Option.some.inj e
    subst e'
    exact ⟨hb, q⟩
theorem Inv.pinned {pins : List (Addr × Obj)} {σ : St} {H : Hp} {s : Shared} {fp : List Addr} (I : Inv X pins σ H s) (hf : ∀ b ∈ fp, FpOk X pins H b) (ho : ∀ b ∈ fp, ∃ o, s.heap.get? b = some o ∧ ∀ v, o.data ≠ .cell v) : Inv X (pins ++ pinsAt fp s.heap) σ H s :=
  I.pins_of fun p hp => (List.mem_append.mp hp).elim (fun z => I.pin p (List.mem_append_right _ z)) fun z => by
    obtain ⟨hb, e⟩ := of_pinsAt z
    obtain ⟨f0, f1, f2, _⟩ := hf p.1 hb
    obtain ⟨o, e', d⟩ := ho p.1 hb
    rw [e] at e'; cases e'
    exact ⟨e, f0, f1, f2, d⟩
theorem Inv.unpinned {pins pl : List (Addr × Obj)} {σ : St} {H : Hp} {s : Shared} (I : Inv X (pins ++ pl) σ H s) : Inv X pins σ H s := I.pins_of fun p hp => I.pin p (List.mem_append_right _ (List.mem_append_left _ hp))
theorem ps_for {iter : Expr} {body : List Stmt} {wi : TI} {g : TG} {tb : TS} {pos : Pos} (hp : PassesOwn (model X.prog X.w) X.A X.env X.xe) (hc : X.calm = true) (hi : PI X tg iter wi) (hg : PG X tg g) (hb : PSs X body tb)
    (hs : ∀ x, foldedSetIterable iter X.env x = pure x := by intro _; rfl) : PS X (.For tg iter body [] pos) (tFor wi g tb) := by
  intro pins s σ H D I h
  refine wpAny_For (thn (hi pins s σ H _ I h) fun v s1 h1 => thn h1 fun itv s2 h2 => ?_) hs
  obtain ⟨it, fp, tn, J, H2, e, I2, T, st2, f2, W, ⟨m0, w0⟩, turn⟩ := h2
  subst e
  have stat : ∀ {H' : Hp}, (∀ b ∈ fp, H' b = none) → ∀ b ∈ fp, FpOk X pins H' b := fun hn b hb => ⟨hn b hb, (f2 b hb).2⟩
  refine codeAny_forLoop_any (fun n s' => ∃ i σ' H', Inv X pins σ' H' s' ∧ tn i s'.heap ∧ (∀ b ∈ fp, H' b = none) ∧ W i n σ' H') ?_ m0 ⟨0, σ, H2, I2, st2, fun b hb => (f2 b hb).1, w0⟩
  rintro n s3 ⟨i, σ3, H3, I3, st3, fr3, w3⟩
  rcases turn i n σ3 H3 w3 with ⟨stop, qn⟩ | ⟨go, N, hN, step⟩
  · refine wpAny_passesOwn hp (thn (T.done X rfl rfl rfl hc i pins s3 σ3 H3 X.xe I3 (stat fr3) st3 stop) fun r s4 ⟨hr, I4⟩ => ?_)
    subst hr
    exact wpAny_execs_nil ⟨σ3, H3, I4, qn⟩
  · refine wpAny_passesOwn hp (thn (T.item X rfl rfl rfl hc i pins s3 σ3 H3 X.xe I3 (stat fr3) st3 go) fun r s4 ⟨u, hr, h4⟩ => ?_)
    subst hr
    refine wpAny_passesOwn hp (thn h4 fun _ s5 ⟨x, H5, I5, r5, y5, st5, fr5⟩ => ?_)
    have I5' := I5.pinned (stat fr5) (T.obj _ _ st5)
    refine wpAny_passesOwn hp (thn (hg _ s5 σ3 H5 x u _ I5' r5 (step x H5 y5)) fun _ s6 ⟨σ6, H6, I6, q6⟩ => ?_)
    refine wpAny_passesOwn hp (thn (hb _ s6 σ6 H6 _ I6 q6) fun f s7 q7 => ?_)
    have again : ∀ {σ7 : St} {H7 : Hp}, Inv X (pins ++ pinsAt fp s5.heap) σ7 H7 s7 → N σ7 H7 → ∃ m, m < n ∧ ∃ i σ' H', Inv X pins σ' H' s7 ∧ tn i s7.heap ∧ (∀ b ∈ fp, H' b = none) ∧ W i m σ' H' := fun {σ7 H7} I7 n7 => by
      obtain ⟨m', hm, w7⟩ := hN σ7 H7 n7
      refine ⟨m', hm, i + 1, σ7, H7, I7.unpinned, T.keep _ _ _ st5 fun b hb o e => (I7.pin (b, o) (List.mem_append_right _ (List.mem_append_right _ (mem_pinsAt hb e)))).1, fun b hb => ?_, w7⟩
      obtain ⟨o, e, d⟩ := T.obj _ _ st5 b hb
      exact (I7.pin (b, o) (List.mem_append_right _ (List.mem_append_right _ (mem_pinsAt hb e)))).2.1
    cases f with
    | next => obtain ⟨σ7, H7, I7, n7⟩ := q7; exact again I7 n7
    | cont => obtain ⟨σ7, H7, I7, n7⟩ := q7; exact again I7 n7
    | brk => obtain ⟨σ7, H7, I7, q7⟩ := q7; exact ⟨σ7, H7, I7.unpinned, q7⟩
    | ret v => obtain ⟨x7, σ7, H7, I7, r7, q7⟩ := q7; exact ⟨x7, σ7, H7, I7.unpinned, r7, q7⟩
end
theorem for_list {K : PySem.W.Frag} {a : Addr} {xs : List V} {g : TG} {tb : TS} {D : Ends} {σ : St} {H : Hp} (Pv : Nat → St → Hp → Prop) (h0 : Pv 0 σ H) (hl : ∀ i σ H, i ≤ xs.length → Pv i σ H → SqL K H a xs)
    (hs : ∀ i x σ H, xs[i]? = some x → Pv i σ H → g x σ H fun σ2 H2 => tb { D with nx := Pv (i + 1), ct := Pv (i + 1), bk := D.nx } σ2 H2) (hd : ∀ σ H, Pv xs.length σ H → D.nx σ H) :
    ∃ W : Nat → Nat → St → Hp → Prop, (∃ m, W 0 m σ H) ∧ ∀ i m σ H, W i m σ H →
      ((Itl K a).stop i H ∧ D.nx σ H) ∨ ((Itl K a).go i H ∧ ∃ N : St → Hp → Prop, (∀ σ' H', N σ' H' → ∃ m', m' < m ∧ W (i + 1) m' σ' H') ∧ ∀ x H', (Itl K a).yld i H x H' → g x σ H' fun σ2 H2 => tb { D with nx := N, ct := N, bk := D.nx } σ2 H2) := by
  refine ⟨fun i m σ H => m = xs.length - i ∧ i ≤ xs.length ∧ Pv i σ H, ⟨xs.length, by simp, Nat.zero_le _, h0⟩, ?_⟩
  rintro i m σ H ⟨rfl, hi, p⟩
  have q := hl i σ H hi p
  by_cases hlt : i < xs.length
  · refine .inr ⟨⟨xs, xs[i], q, by simp [hlt]⟩, Pv (i + 1), fun σ' H' p' => ⟨xs.length - (i + 1), by (first | lia | omega), rfl, hlt, p'⟩, fun x H' y => ?_⟩
    obtain ⟨e, y⟩ := y
    subst e
    exact hs i x σ _ (y xs q) p
  · have e : i = xs.length := by (first | lia | omega)
    subst e
    exact .inl ⟨⟨xs, q, Nat.le_refl _⟩, hd σ H p⟩
theorem for_range {lo : Int} {n : Nat} {g : TG} {tb : TS} {D : Ends} {σ : St} {H : Hp} (Pv : Nat → St → Hp → Prop) (h0 : Pv 0 σ H)
    (hs : ∀ i σ H, i < n → Pv i σ H → g (.int (lo + i)) σ H fun σ2 H2 => tb { D with nx := Pv (i + 1), ct := Pv (i + 1), bk := D.nx } σ2 H2) (hd : ∀ σ H, Pv n σ H → D.nx σ H) :
    ∃ W : Nat → Nat → St → Hp → Prop, (∃ m, W 0 m σ H) ∧ ∀ i m σ H, W i m σ H →
      ((Itr lo n).stop i H ∧ D.nx σ H) ∨ ((Itr lo n).go i H ∧ ∃ N : St → Hp → Prop, (∀ σ' H', N σ' H' → ∃ m', m' < m ∧ W (i + 1) m' σ' H') ∧ ∀ x H', (Itr lo n).yld i H x H' → g x σ H' fun σ2 H2 => tb { D with nx := N, ct := N, bk := D.nx } σ2 H2) := by
  refine ⟨fun i m σ H => m = n - i ∧ i ≤ n ∧ Pv i σ H, ⟨n, by simp, Nat.zero_le _, h0⟩, ?_⟩
  rintro i m σ H ⟨rfl, hi, p⟩
  by_cases hlt : i < n
  · refine .inr ⟨hlt, Pv (i + 1), fun σ' H' p' => ⟨n - (i + 1), by (first | lia | omega), rfl, hlt, p'⟩, fun x H' y => ?_⟩
    obtain ⟨e, y⟩ := y
    subst e y
    exact hs i σ _ hlt p
  · have e : i = n := by (first | lia | omega)
    subst e
    exact .inl ⟨Nat.le_refl _, hd σ H p⟩
end L2
namespace L2
open PySem PySem.Spec PyProof.Rows
abbrev R2 := V → V → Hp → VK → Prop
def OpR (X : Cx) (f : Value → Value → Sem Value) (r : R2) : Prop :=
  ∀ (pins : List (Addr × Obj)) (s : Shared) (σ : St) (H : Hp) (x y : V) (v u : Value) (Q : VK), Inv X pins σ H s → RelV x v → RelV y u → r x y H Q →
    wpAny (model X.prog X.w) X.A (f v u) (EP X pins σ Q) X.xe s
def UnR (X : Cx) (f : Value → Sem Value) (r : V → Hp → VK → Prop) : Prop :=
  ∀ (pins : List (Addr × Obj)) (s : Shared) (σ : St) (H : Hp) (x : V) (v : Value) (Q : VK), Inv X pins σ H s → RelV x v → r x H Q →
    wpAny (model X.prog X.w) X.A (f v) (EP X pins σ Q) X.xe s
def CallR (X : Cx) (f : Value) (r : List V → Hp → VK → Prop) : Prop :=
  ∀ (pins : List (Addr × Obj)) (s : Shared) (σ : St) (H : Hp) (xs : List V) (us : List Value) (Q : VK), Inv X pins σ H s → Vals xs us → r xs H Q →
    wpAny (model X.prog X.w) X.A (call f us) (EP X pins σ Q) X.xe s
def tOp (r : R2) (ta tb : TE) : TE := fun σ H Q => ta σ H fun x H1 => tb σ H1 fun y H2 => r x y H2 Q
def tUn (r : V → Hp → VK → Prop) (ta : TE) : TE := fun σ H Q => ta σ H fun x H1 => r x H1 Q
def rI (C : Int → Int → Prop) (g : Int → Int → V) : R2 := fun x y H Q => ∃ i j, x = .int i ∧ y = .int j ∧ C i j ∧ Q (g i j) H
def rI0 (g : Int → Int → V) : R2 := fun x y H Q => ∃ i j, x = .int i ∧ y = .int j ∧ Q (g i j) H
def rU (g : Int → V) : V → Hp → VK → Prop := fun x H Q => ∃ i, x = .int i ∧ Q (g i) H
section
variable {X : Cx} {a b c : Expr} {ta tb tc : TE} {pos : Pos}
theorem binT (ha : PE X a ta) (hb : PE X b tb) {pins : List (Addr × Obj)} {s : Shared} {σ : St} {H : Hp} {R : V → V → Hp → Prop} (I : Inv X pins σ H s)
    (h : ta σ H fun x H1 => tb σ H1 fun y H2 => R x y H2) {Q : Value → Shared → Prop} {f : Value → Value → Sem Value}
    (hf : ∀ v u s2 x y H2, Inv X pins σ H2 s2 → RelV x v → RelV y u → R x y H2 → wpAny (model X.prog X.w) X.A (f v u) Q X.xe s2) :
    wpAny (model X.prog X.w) X.A (eval a X.env) (fun v s₁ => wpAny (model X.prog X.w) X.A (eval b X.env) (fun u s₂ => wpAny (model X.prog X.w) X.A (f v u) Q X.xe s₂) X.xe s₁) X.xe s := by
  refine thn (ha pins s σ H _ I h) fun v s1 ⟨x, H1, I1, r1, q1⟩ => ?_
  refine thn (hb pins s1 σ H1 _ I1 q1) fun u s2 ⟨y, H2, I2, r2, q2⟩ => ?_
  exact hf v u s2 x y H2 I2 r1 r2 q2
theorem pe_op {op : Operator} {r : R2} (ho : OpR X (binaryOp op) r) (ha : PE X a ta) (hb : PE X b tb) : PE X (.BinOp a op b pos) (tOp r ta tb) := by
  intro pins s σ H Q I h
  exact wpAny_BinOp (binT ha hb I h fun v u s2 x y H2 I2 rx ry q => ho pins s2 σ H2 x y v u Q I2 rx ry q)
theorem pe_un {op : UnaryOp} {r : V → Hp → VK → Prop} (ho : UnR X (unaryOp op) r) (ha : PE X a ta) : PE X (.UnaryOp op a pos) (tUn r ta) := by
  intro pins s σ H Q I h
  exact UnaryOp_ (thn (ha pins s σ H _ I h) fun v s1 ⟨x, H1, I1, r1, q1⟩ => ho pins s1 σ H1 x v Q I1 r1 q1)
theorem opI {f : Value → Value → Sem Value} {C : Int → Int → Prop} {g : Int → Int → Int}
    (rule : ∀ (i j : Int) (t u : Tok) (s : Shared) (Q : Value → Shared → Prop) (E : Value → Shared → Prop), C i j → Q (.int (g i j) s.toks) { s with toks := s.toks + 1 } → wpAny (model X.prog X.w) X.A (f (.int i t) (.int j u)) Q E s) :
    OpR X f (rI C fun i j => .int (g i j)) := by
  intro pins s σ H x y v u Q I rx ry h
  obtain ⟨i, j, rfl, rfl, hc, q⟩ := h
  obtain ⟨t, rfl⟩ := rx
  obtain ⟨t', rfl⟩ := ry
  exact rule i j t t' s _ _ hc ⟨.int (g i j), H, I.tok _, ⟨_, rfl⟩, q⟩
theorem opI0 {f : Value → Value → Sem Value} {g : Int → Int → Int}
    (rule : ∀ (i j : Int) (t u : Tok) (s : Shared) (Q : Value → Shared → Prop) (E : Value → Shared → Prop), Q (.int (g i j) s.toks) { s with toks := s.toks + 1 } → wpAny (model X.prog X.w) X.A (f (.int i t) (.int j u)) Q E s) :
    OpR X f (rI0 fun i j => .int (g i j)) := by
  intro pins s σ H x y v u Q I rx ry h
  obtain ⟨i, j, rfl, rfl, q⟩ := h
  obtain ⟨t, rfl⟩ := rx
  obtain ⟨t', rfl⟩ := ry
  exact rule i j t t' s _ _ ⟨.int (g i j), H, I.tok _, ⟨_, rfl⟩, q⟩
theorem opB0 {f : Value → Value → Sem Value} {g : Int → Int → Bool}
    (rule : ∀ (i j : Int) (t u : Tok) (s : Shared) (Q : Value → Shared → Prop) (E : Value → Shared → Prop), Q (.bool (g i j)) s → wpAny (model X.prog X.w) X.A (f (.int i t) (.int j u)) Q E s) :
    OpR X f (rI0 fun i j => .bl (g i j)) := by
  intro pins s σ H x y v u Q I rx ry h
  obtain ⟨i, j, rfl, rfl, q⟩ := h
  obtain ⟨t, rfl⟩ := rx
  obtain ⟨t', rfl⟩ := ry
  exact rule i j t t' s _ _ ⟨.bl (g i j), H, I, rfl, q⟩
def CDiv (i j : Int) : Prop := 0 < j ∧ j < 1073741824
def CPow (i j : Int) : Prop := 0 ≤ j ∧ j ≤ 1000000 ∧ i.natAbs < 2 ^ 64
def CMul (i j : Int) : Prop := (-(2 ^ 64) < i ∧ i < 2 ^ 64) ∨ (-(2 ^ 64) < j ∧ j < 2 ^ 64)
theorem CMul.ok {i j : Int} (h : CMul i j) : IntMulOk i j := by
  rcases h with ⟨h1, h2⟩ | ⟨h1, h2⟩
  · exact .of_left (intBits_le_64 h1 h2)
  · exact .of_right (intBits_le_64 h1 h2)
theorem op_add : OpR X (binaryOp .Add) (rI0 fun i j => .int (i + j)) := opI0 fun _ _ _ _ _ _ _ q => add_int q
theorem op_sub : OpR X (binaryOp .Sub) (rI0 fun i j => .int (i - j)) := opI0 fun _ _ _ _ _ _ _ q => sub_int q
theorem op_mul : OpR X (binaryOp .Mult) (rI CMul fun i j => .int (i * j)) := opI fun _ _ _ _ _ _ _ hc q => mul_int q hc.ok
theorem op_fdiv : OpR X (binaryOp .FloorDiv) (rI CDiv fun i j => .int (i / j)) := opI fun i j _ _ _ _ _ hc q => by
  have h1 : (0 : Int) < j := hc.1
  have h2 : j < 1073741824 := hc.2
  exact floordiv_int (by (first | lia | omega)) (by rw [Int.fdiv_eq_ediv_of_nonneg i (by (first | lia | omega))]; exact q) (.inl (PyProof.noPylong_small (by (first | lia | omega))))
theorem op_mod : OpR X (binaryOp .Mod) (rI (fun _ j => 0 < j) fun i j => .int (i % j)) := opI fun i j _ _ _ _ _ hc q => by
  have h1 : (0 : Int) < j := hc
  exact mod_int' (by (first | lia | omega)) (by rw [Int.fmod_eq_emod_of_nonneg i (by (first | lia | omega))]; exact q)
theorem op_pow : OpR X (binaryOp .Pow) (rI CPow fun i j => .int (i ^ j.toNat)) := opI fun _ _ _ _ _ _ _ hc q => pow_int_small hc.1 hc.2.1 hc.2.2 q
theorem unI {f : Value → Sem Value} {g : Int → Int}
    (rule : ∀ (i : Int) (t : Tok) (s : Shared) (Q : Value → Shared → Prop) (E : Value → Shared → Prop), Q (.int (g i) s.toks) { s with toks := s.toks + 1 } → wpAny (model X.prog X.w) X.A (f (.int i t)) Q E s) :
    UnR X f (rU fun i => .int (g i)) := by
  intro pins s σ H x v Q I rx h
  obtain ⟨i, rfl, q⟩ := h
  obtain ⟨t, rfl⟩ := rx
  exact rule i t s _ _ ⟨.int (g i), H, I.tok _, ⟨_, rfl⟩, q⟩
theorem un_neg : UnR X (unaryOp .USub) (rU fun i => .int (-i)) := unI fun _ _ _ _ _ q => neg_int q
end
def scal : V → V → Bool
  | .non, .non => true | .non, .int _ => true | .int _, .non => true | .non, .bl _ => true | .bl _, .non => true | .non, .str _ => true | .str _, .non => true
  | .int _, .int _ => true | .bl _, .bl _ => true | .str _, .str _ => true | .byt _, .byt _ => true
  | .int _, .str _ => true | .str _, .int _ => true | .bl _, .str _ => true | .str _, .bl _ => true
  | _, _ => false
def rEq : R2 := fun x y H Q => scal x y = true ∧ Q (.bl (decide (x = y))) H
def rNe : R2 := fun x y H Q => scal x y = true ∧ Q (.bl (!decide (x = y))) H
theorem dec_int {i j : Int} : decide (V.int i = V.int j) = (i == j) := by
  rw [Bool.eq_iff_iff]
  simp
theorem dec_bl {i j : Bool} : decide (V.bl i = V.bl j) = (i == j) := by
  rw [Bool.eq_iff_iff]
  simp
theorem dec_str {i j : Str} : decide (V.str i = V.str j) = (i == j) := by
  rw [Bool.eq_iff_iff]
  simp
theorem dec_byt {i j : Array UInt8} : decide (V.byt i = V.byt j) = (i.toList == j.toList) := by
  rw [Bool.eq_iff_iff]
  cases i
  cases j
  simp
section
variable {X : Cx} {a b c : Expr} {ta tb tc : TE} {pos : Pos}
theorem fin_bl {pins : List (Addr × Obj)} {σ : St} {H : Hp} {s : Shared} {Q : VK} {k k' : Bool} (I : Inv X pins σ H s) (q : Q (.bl k) H) (e : k = k') : EP X pins σ Q (.bool k') s := by
  subst e
  exact ⟨.bl k, H, I, rfl, q⟩
theorem op_eq : OpR X (compareOp .Eq) rEq := by
  intro pins s σ H x y v u Q I rx ry h
  obtain ⟨hs, q⟩ := h
  cases x with
  | non =>
    cases rx
    cases y with
    | non => cases ry; exact PySem.EqNone.eq_none_none (fin_bl I q (by simp))
    | bl j => cases ry; exact PySem.EqNone.eq_none_bool (fin_bl I q (by simp))
    | int j => obtain ⟨t', rfl⟩ := ry; exact PySem.EqNone.eq_none_int (fin_bl I q (by simp))
    | str j => obtain ⟨t', rfl⟩ := ry; exact PySem.EqNone.eq_none_str (fin_bl I q (by simp))
    | _ => exact absurd (show false = true from hs) Bool.false_ne_true
  | bl i =>
    cases rx
    cases y with
    | non => cases ry; exact PySem.EqNone.eq_bool_none (fin_bl I q (by simp))
    | bl j => cases ry; exact eq_bool (fin_bl I q dec_bl)
    | str j => obtain ⟨t', rfl⟩ := ry; exact PySem.EqMixed.eq_bool_str (fin_bl I q (by simp))
    | _ => exact absurd (show false = true from hs) Bool.false_ne_true
  | int i =>
    obtain ⟨t, rfl⟩ := rx
    cases y with
    | non => cases ry; exact PySem.EqNone.eq_int_none (fin_bl I q (by simp))
    | int j => obtain ⟨t', rfl⟩ := ry; exact eq_int (fin_bl I q dec_int)
    | str j => obtain ⟨t', rfl⟩ := ry; exact PySem.EqMixed.eq_int_str (fin_bl I q (by simp))
    | _ => exact absurd (show false = true from hs) Bool.false_ne_true
  | str i =>
    obtain ⟨t, rfl⟩ := rx
    cases y with
    | non => cases ry; exact PySem.EqNone.eq_str_none (fin_bl I q (by simp))
    | bl j => cases ry; exact PySem.EqMixed.eq_str_bool (fin_bl I q (by simp))
    | int j => obtain ⟨t', rfl⟩ := ry; exact PySem.EqMixed.eq_str_int (fin_bl I q (by simp))
    | str j => obtain ⟨t', rfl⟩ := ry; exact eq_str (fin_bl I q dec_str)
    | _ => exact absurd (show false = true from hs) Bool.false_ne_true
  | byt i =>
    obtain ⟨t, rfl⟩ := rx
    cases y with
    | byt j => obtain ⟨t', rfl⟩ := ry; exact PySem.W.eq_bytes (fin_bl I q dec_byt)
    | _ => exact absurd (show false = true from hs) Bool.false_ne_true
  | _ => cases y <;> exact absurd (show false = true from hs) Bool.false_ne_true
theorem op_ne : OpR X (compareOp .NotEq) rNe := by
  intro pins s σ H x y v u Q I rx ry h
  obtain ⟨hs, q⟩ := h
  cases x with
  | non =>
    cases rx
    cases y with
    | non => cases ry; exact PySem.EqNone.ne_none_none (fin_bl I q (by simp))
    | bl j => cases ry; exact PySem.EqNone.ne_none_bool (fin_bl I q (by simp))
    | int j => obtain ⟨t', rfl⟩ := ry; exact PySem.EqNone.ne_none_int (fin_bl I q (by simp))
    | str j => obtain ⟨t', rfl⟩ := ry; exact PySem.EqNone.ne_none_str (fin_bl I q (by simp))
    | _ => exact absurd (show false = true from hs) Bool.false_ne_true
  | bl i =>
    cases rx
    cases y with
    | non => cases ry; exact PySem.EqNone.ne_bool_none (fin_bl I q (by simp))
    | bl j => cases ry; exact ne_bool (fin_bl I q (congrArg not dec_bl))
    | str j => obtain ⟨t', rfl⟩ := ry; exact PySem.EqMixed.ne_bool_str (fin_bl I q (by simp))
    | _ => exact absurd (show false = true from hs) Bool.false_ne_true
  | int i =>
    obtain ⟨t, rfl⟩ := rx
    cases y with
    | non => cases ry; exact PySem.EqNone.ne_int_none (fin_bl I q (by simp))
    | int j => obtain ⟨t', rfl⟩ := ry; exact ne_int (fin_bl I q (congrArg not dec_int))
    | str j => obtain ⟨t', rfl⟩ := ry; exact PySem.EqMixed.ne_int_str (fin_bl I q (by simp))
    | _ => exact absurd (show false = true from hs) Bool.false_ne_true
  | str i =>
    obtain ⟨t, rfl⟩ := rx
    cases y with
    | non => cases ry; exact PySem.EqNone.ne_str_none (fin_bl I q (by simp))
    | bl j => cases ry; exact PySem.EqMixed.ne_str_bool (fin_bl I q (by simp))
    | int j => obtain ⟨t', rfl⟩ := ry; exact PySem.EqMixed.ne_str_int (fin_bl I q (by simp))
    | str j => obtain ⟨t', rfl⟩ := ry; exact ne_str (fin_bl I q (congrArg not dec_str))
    | _ => exact absurd (show false = true from hs) Bool.false_ne_true
  | byt i =>
    obtain ⟨t, rfl⟩ := rx
    cases y with
    | byt j => obtain ⟨t', rfl⟩ := ry; exact PySem.W.ne_bytes (fin_bl I q (congrArg not dec_byt))
    | _ => exact absurd (show false = true from hs) Bool.false_ne_true
  | _ => cases y <;> exact absurd (show false = true from hs) Bool.false_ne_true
theorem op_lt : OpR X (compareOp .Lt) (rI0 fun i j => .bl (decide (i < j))) := opB0 fun _ _ _ _ _ _ _ q => lt_int q
theorem op_le : OpR X (compareOp .LtE) (rI0 fun i j => .bl (decide (i ≤ j))) := opB0 fun _ _ _ _ _ _ _ q => le_int q
theorem op_gt : OpR X (compareOp .Gt) (rI0 fun i j => .bl (decide (j < i))) := opB0 fun _ _ _ _ _ _ _ q => gt_int q
theorem op_ge : OpR X (compareOp .GtE) (rI0 fun i j => .bl (decide (j ≤ i))) := opB0 fun _ _ _ _ _ _ _ q => ge_int q
theorem op_in_str : OpR X (compareOp .In) (fun x y H Q => ∃ i j, x = .str i ∧ y = .str j ∧ Q (.bl (!(Builtin.Str.occurrences j i 0 j.length 1).isEmpty)) H) := by
  intro pins s σ H x y v u Q I rx ry h
  obtain ⟨i, j, rfl, rfl, q⟩ := h
  obtain ⟨t, rfl⟩ := rx
  obtain ⟨t', rfl⟩ := ry
  exact in_str (fin_bl I q rfl)
theorem nomark (b : Expr) {op : CmpOp} (h : op ≠ .In := by decide) (h2 : op ≠ .NotIn := by decide) : behindInMarks op b = false := by
  have e1 : (op == CmpOp.In) = false := by cases op <;> first | rfl | exact absurd rfl h
  have e2 : (op == CmpOp.NotIn) = false := by cases op <;> first | rfl | exact absurd rfl h2
  cases b <;> simp [behindInMarks, e1, e2]
theorem pe_cmpR {op : CmpOp} {r : R2} (ho : OpR X (compareOp op) r) (ha : PE X a ta) (hb : PE X b tb) (hm : behindInMarks op b = false) : PE X (.Compare a [op] [b] pos) (tOp r ta tb) := by
  intro pins s σ H Q I h
  exact wpAny_Compare1 (binT ha hb I h fun v u s2 x y H2 I2 rx ry q => ho pins s2 σ H2 x y v u Q I2 rx ry q) hm
def tTest (t : TE) : TT := fun σ H Q => t σ H fun x H' => ∃ k, x = .bl k ∧ Q k H'
theorem pt_cmpR {op : CmpOp} {r : R2} (ho : OpR X (compareOp op) r) (ha : PE X a ta) (hb : PE X b tb) (hm : behindInMarks op b = false) : PT X (.Compare a [op] [b] pos) (tTest (tOp r ta tb)) := by
  intro pins s σ H Q I h
  refine wpAny_isTrue_Compare1 (thn (ha pins s σ H _ I h) fun v s1 ⟨x, H1, I1, r1, q1⟩ => thn (hb pins s1 σ H1 _ I1 q1) fun u s2 ⟨y, H2, I2, r2, q2⟩ =>
    thn (ho pins s2 σ H2 x y v u _ I2 r1 r2 q2) fun c s3 ⟨z, H3, I3, r3, k, e, q3⟩ => ?_) hm
  subst e
  cases r3
  exact wpAny_truthy_bool ⟨H3, I3, q3⟩
def tChain (r r' : R2) (ta tb tc : TE) : TE := fun σ H Q => ta σ H fun x H1 => tb σ H1 fun y H2 => r x y H2 fun z H3 => ∃ k, z = .bl k ∧
  (if k = true then tc σ H3 fun w' H4 => r' y w' H4 Q else Q (.bl false) H3)
theorem pe_chain {op op' : CmpOp} {r r' : R2} (ho : OpR X (compareOp op) r) (ho' : OpR X (compareOp op') r') (ha : PE X a ta) (hb : PE X b tb) (hc : PE X c tc)
    (hm : lastMarks [op, op'] [b, c] = false := by with_unfolding_all rfl) : PE X (.Compare a [op, op'] [b, c] pos) (tChain r r' ta tb tc) := by
  intro pins s σ H Q I h
  refine Compare_chain (thn (ha pins s σ H _ I h) fun v s1 ⟨x, H1, I1, r1, q1⟩ => chain_link (thn (hb pins s1 σ H1 _ I1 q1) fun u s2 ⟨y, H2, I2, r2, q2⟩ =>
    thn (ho pins s2 σ H2 x y v u _ I2 r1 r2 q2) fun d s3 ⟨z, H3, I3, r3, k, e, q3⟩ => ?_)) hm
  subst e
  cases r3
  refine wpAny_truthy_bool ?_
  cases k with
  | false => exact ite_ff ⟨.bl false, H3, I3, rfl, q3⟩
  | true => exact ite_tt (chain_last (thn (hc pins s3 σ H3 _ I3 q3) fun w' s4 ⟨z', H4, I4, r4, q4⟩ => ho' pins s4 σ H4 y z' u w' Q I4 r2 r4 q4))
theorem pt_chain {op op' : CmpOp} {r r' : R2} (ho : OpR X (compareOp op) r) (ho' : OpR X (compareOp op') r') (ha : PE X a ta) (hb : PE X b tb) (hc : PE X c tc)
    (hm : lastMarks [op, op'] [b, c] = false := by with_unfolding_all rfl) : PT X (.Compare a [op, op'] [b, c] pos) (tTest (tChain r r' ta tb tc)) := by
  intro pins s σ H Q I h
  refine isTrue_chain (thn (ha pins s σ H _ I h) fun v s1 ⟨x, H1, I1, r1, q1⟩ => test_link (thn (hb pins s1 σ H1 _ I1 q1) fun u s2 ⟨y, H2, I2, r2, q2⟩ =>
    thn (ho pins s2 σ H2 x y v u _ I2 r1 r2 q2) fun d s3 ⟨z, H3, I3, r3, k, e, q3⟩ => ?_)) hm
  subst e
  cases r3
  refine wpAny_truthy_bool ?_
  cases k with
  | false =>
    obtain ⟨k', e', q'⟩ := q3
    cases e'
    exact ite_ff ⟨H3, I3, q'⟩
  | true =>
    refine ite_tt (test_last (thn (hc pins s3 σ H3 _ I3 q3) fun w' s4 ⟨z', H4, I4, r4, q4⟩ => thn (ho' pins s4 σ H4 y z' u w' _ I4 r2 r4 q4) fun d' s5 ⟨z2, H5, I5, r5, k2, e2, q5⟩ => ?_))
    subst e2
    cases r5
    exact wpAny_truthy_bool ⟨H5, I5, q5⟩
theorem line63 : (sizeLine : Nat) < 2 ^ 63 := by rw [sizeLine_eq]; decide
theorem op_add_str : OpR X (binaryOp .Add) (fun x y H Q => ∃ i j, x = .str i ∧ y = .str j ∧ i.length + j.length ≤ sizeLine ∧ Q (.str (i ++ j)) H) := by
  intro pins s σ H x y v u Q I rx ry h
  obtain ⟨i, j, rfl, rfl, hz, q⟩ := h
  obtain ⟨t, rfl⟩ := rx
  obtain ⟨t', rfl⟩ := ry
  exact add_str (fun t' tk => ⟨.str (i ++ j), H, I.tok _, ⟨_, rfl⟩, q⟩) hz
theorem vals1 {x : V} {us : List Value} (r : Vals [x] us) : ∃ u, us = [u] ∧ RelV x u := by
  cases r with
  | cons r1 r2 => cases r2; exact ⟨_, rfl, r1⟩
theorem vals2 {x y : V} {us : List Value} (r : Vals [x, y] us) : ∃ u w', us = [u, w'] ∧ RelV x u ∧ RelV y w' := by
  cases r with
  | cons r1 r2 =>
    cases r2 with
    | cons r3 r4 => cases r4; exact ⟨_, _, rfl, r1, r3⟩
theorem call_max2 (hc : X.calm = true) : CallR X (.builtin "max") (fun xs H Q => ∃ i j, xs = [.int i, .int j] ∧ Q (.int (if j > i then j else i)) H) := by
  intro pins s σ H xs us Q I r h
  obtain ⟨i, j, rfl, q⟩ := h
  obtain ⟨u, w', rfl, ⟨t, rfl⟩, ⟨t', rfl⟩⟩ := vals2 r
  refine max_two_ints (I.ok.hd hc) fun h' tk k => ⟨_, H, I.kept k, ?_, q⟩
  by_cases hj : j > i
  · rw [if_pos hj, if_pos hj]; exact ⟨_, rfl⟩
  · rw [if_neg hj, if_neg hj]; exact ⟨_, rfl⟩
theorem call_min2 (hc : X.calm = true) : CallR X (.builtin "min") (fun xs H Q => ∃ i j, xs = [.int i, .int j] ∧ Q (.int (if j < i then j else i)) H) := by
  intro pins s σ H xs us Q I r h
  obtain ⟨i, j, rfl, q⟩ := h
  obtain ⟨u, w', rfl, ⟨t, rfl⟩, ⟨t', rfl⟩⟩ := vals2 r
  refine min_two_ints (I.ok.hd hc) fun h' tk k => ⟨_, H, I.kept k, ?_, q⟩
  by_cases hj : j < i
  · rw [if_pos hj, if_pos hj]; exact ⟨_, rfl⟩
  · rw [if_neg hj, if_neg hj]; exact ⟨_, rfl⟩
end
end L2
namespace L2
open PySem PySem.Spec PyProof.Rows
structure ObjM (h : Heap) (x dx C : Addr) (mA : Str → Option Value) : Prop where
  obj : h.get? x = some (PySem.W.instObj C dx)
  ns : h.Ns1 dx mA
  ne : dx ≠ x
theorem lookIn_ns {h : Heap} {dx : Addr} {mA : Str → Option Value} (n : h.Ns1 dx mA) : ∃ od, h.get? dx = some od ∧ ∀ name, PySem.W.lookIn name od = some (mA name) := by
  obtain ⟨o, es, ep, ho, hd, hk, _, hm⟩ := n
  refine ⟨o, ho, fun name => ?_⟩
  have e := hm name
  unfold nsFind findBy at e
  rw [← Array.find?_toList] at e
  unfold PySem.W.lookIn
  rw [hd]
  dsimp only
  split
  · rename_i y q
    rw [q] at e
    exact congrArg some e
  · rename_i q
    rw [q] at e
    have a : es.toList.any (·.refKey) = false := by
      rw [List.any_eq_false]
      intro y hy
      obtain ⟨z, t, hkey⟩ := hk y (Array.mem_toList_iff.mp hy)
      simp [DictEntry.refKey, hkey]
    have a' : ¬ es.toList.any (·.refKey) = true := by rw [a]; exact Bool.false_ne_true
    rw [if_neg a']
    exact congrArg some e
theorem ObjM.look {h : Heap} {x dx C : Addr} {mA : Str → Option Value} (I : ObjM h x dx C mA) : ∃ od, PySem.W.InstAt h x (PySem.W.instObj C dx) C (some od) ∧ ∀ name, PySem.W.lookIn name od = some (mA name) :=
  let ⟨od, ho, hl⟩ := lookIn_ns I.ns
  ⟨od, ⟨I.obj, rfl, rfl, ho⟩, hl⟩
section
variable {prog : Program} {w : World} {A : Around} {E : Value → Shared → Prop} {s : Shared} {K : PySem.W.Frag} {x dx C f : Addr} {mA : Str → Option Value} {name : Str} {v : Value}
end
section
variable {P : Program} {w : World} {H H' : Hp} {h h' : Heap} {a C dx : Addr} {fs fs' : List (Str × V)}
theorem ins_get (hok : HOk P w H h) (e : H a = some (.ins C dx fs)) : ∃ mA, ObjM h a dx C mA ∧ (∀ f, RelO (fs.lookup f) (mA f)) ∧ PySem.Within mA (fs.map (·.1)) ∧ fs.length ≤ 1000 ∧ H dx = some (.own a) := by
  obtain ⟨d, z, ne, ob, mA, n, r, q⟩ := (show ObjOk P w H h a (.ins C dx fs) from hok a _ e)
  exact ⟨mA, ⟨ob, n, ne⟩, r, q, z, d⟩
end
structure Cls (K : PySem.W.Frag) (C : Addr) : Prop where
  pg : PySem.W.plainGet K C Str.empty = true
  hd : PySem.W.hasDictIn K C = true
  po : PySem.W.plainOver K C = true
  sa : PySem.W.findIn K (.ref C) "__setattr__" = some (some (.builtin "object.__setattr__"))
theorem Cls.get {K : PySem.W.Frag} {C : Addr} (c : Cls K C) (f : Str) : PySem.W.plainGet K C f = true := c.pg
section
variable {X : Cx} {pins : List (Addr × Obj)} {σ : St} {H : Hp} {s : Shared} {a C dx : Addr} {fs : List (Str × V)} {f : Str} {v : V} {A : Around} {E : Value → Shared → Prop}
end
section
variable {X : Cx} {o e value : Expr} {f : Str} {pos pos' tpos : Pos} {ta tv : TE}
end
section
variable {X : Cx} {pins : List (Addr × Obj)} {σ : St} {H : Hp} {s : Shared} {A : Around} {E : Value → Shared → Prop} {Q : Value → Shared → Prop} {c : Value} {b : Bool}
inductive TyOf (K : PySem.W.Frag) (H : Hp) : V → Value → Prop where
  | non : TyOf K H .non (.type "NoneType")
  | bl (x : Bool) : TyOf K H (.bl x) (.type "bool")
  | int (i : Int) : TyOf K H (.int i) (.type "int")
  | str (x : Str) : TyOf K H (.str x) (.type "str")
  | flt (x : UInt64) : TyOf K H (.flt x) (.type "float")
  | lst {a : Addr} {xs : List V} (e : H a = some (.lst xs)) : TyOf K H (.ref a) (.type "list")
  | frz {a : Addr} {o : Obj} {xs : List V} (e : H a = some (.frz o (.lst xs))) : TyOf K H (.ref a) (.type "list")
  | tup {a : Addr} {xs : List V} (e : H a = some (.tup xs)) : TyOf K H (.ref a) (.type "tuple")
  | dK {a : Addr} {kvs : List (Key × V)} (e : H a = some (.dK kvs)) : TyOf K H (.ref a) (.type "dict")
  | dT {a : Addr} {kvs : List (List Key × V)} (e : H a = some (.dT kvs)) : TyOf K H (.ref a) (.type "dict")
  | ins {a C dx : Addr} {fs : List (Str × V)} (e : H a = some (.ins C dx fs)) (cl : Cls K C) (ha : PySem.W.findIn K (.ref C) "__class__" = some (some (.builtin "object.__class__")))
      (hn : PySem.W.specialIn K (.builtin "object.__class__") "__get__" = some (some (.builtin "getset_descriptor.__get__"))) (htk : PySem.W.takesIn K (.builtin "object.__class__") = some true)
      (hm : PySem.W.mroIn K C (.type "object") = some true) : TyOf K H (.ref a) (.ref C)
theorem isinst_ok {x : V} {u t : Value} (I : Inv X pins σ H s) (rx : RelV x u) (ty : TyOf X.K H x t) (e : PySem.W.kitOne X.K t c = some b) (h : ∀ tk, Q (.bool b) { s with toks := tk }) :
    wpAny (model X.prog X.w) A (call (.builtin "isinstance") [u, c]) Q E s := by
  cases ty with
  | non => cases (show u = Value.none from rx); exact PySem.W.kia_one PySem.W.kitx_none I.kIn True.intro e (fun z => nomatch z) h
  | bl y => cases (show u = Value.bool y from rx); exact PySem.W.kia_one PySem.W.kitx_bool I.kIn True.intro e (fun z => nomatch z) h
  | int i => obtain ⟨t, q⟩ := (show ∃ t, u = Value.int i t from rx); cases q; exact PySem.W.kia_one PySem.W.kitx_int I.kIn True.intro e (fun z => nomatch z) h
  | str y => obtain ⟨t, q⟩ := (show ∃ t, u = Value.str y t from rx); cases q; exact PySem.W.kia_one PySem.W.kitx_str I.kIn True.intro e (fun z => nomatch z) h
  | flt y => obtain ⟨t, q⟩ := (show ∃ t, u = Value.float y t from rx); cases q; exact PySem.W.kia_one PySem.W.kitx_float I.kIn True.intro e (fun z => nomatch z) h
  | @lst a xs ea =>
    cases (show u = Value.ref a from rx)
    obtain ⟨_, _, n, _, h1⟩ := (show ObjOk X.prog X.w H s.heap a (.lst xs) from I.hok a _ ea)
    exact PySem.W.kia_one PySem.W.kitx_list I.kIn ⟨_, h1, rfl⟩ e (fun z => nomatch z) h
  | @frz a ob xs ea =>
    cases (show u = Value.ref a from rx)
    obtain ⟨_, _, _, n, _, h1⟩ := (show ObjOk X.prog X.w H s.heap a (.frz ob (.lst xs)) from I.hok a _ ea)
    exact PySem.W.kia_one PySem.W.kitx_list I.kIn ⟨_, h1, rfl⟩ e (fun z => nomatch z) h
  | @tup a xs ea =>
    cases (show u = Value.ref a from rx)
    obtain ⟨_, _, _, p⟩ := (show ObjOk X.prog X.w H s.heap a (.tup xs) from I.hok a _ ea)
    obtain ⟨o, h1, h2, _⟩ := p
    exact PySem.W.kia_one PySem.W.kitx_tuple I.kIn ⟨o, h1, h2⟩ e (fun z => nomatch z) h
  | @dK a kvs ea =>
    cases (show u = Value.ref a from rx)
    obtain ⟨_, _, vs, _, p⟩ := (show ObjOk X.prog X.w H s.heap a (.dK kvs) from I.hok a _ ea)
    obtain ⟨o, es, ep, h1, h2, _⟩ := p
    exact PySem.W.kia_one PySem.W.kitx_dict I.kIn ⟨o, h1, h2.1⟩ e (fun z => nomatch z) h
  | @dT a kvs ea =>
    cases (show u = Value.ref a from rx)
    obtain ⟨_, _, xs, _, o, es, ep, h1, h2, _⟩ := (show ObjOk X.prog X.w H s.heap a (.dT kvs) from I.hok a _ ea)
    exact PySem.W.kia_one PySem.W.kitx_dict I.kIn ⟨o, h1, h2.1⟩ e (fun z => nomatch z) h
  | @ins a C dx fs ea cl ha hn htk hm =>
    cases (show u = Value.ref a from rx)
    obtain ⟨mA, O, _⟩ := ins_get I.hok ea
    obtain ⟨od, J, _⟩ := O.look
    exact PySem.W.kia_one (PySem.W.kitx_own (cl.get _) cl.hd ha hn htk hm) I.kIn J e (fun z => nomatch z) h
end
end L2
namespace L2
open PySem PySem.Spec PyProof.Rows
structure Room (k : Nat) (A : Around) : Prop where
  hd : A.handled = none
  dp : A.depth + 3 * k + 5 < recursionLimit
  un : A.units + 16 * k + 200 < cLine
theorem Room.mono {j k : Nat} {A : Around} (r : Room k A) (h : j ≤ k) : Room j A := ⟨r.hd, by have := r.dp; (first | lia | omega), by have := r.un; (first | lia | omega)⟩
theorem Room.deeper {k : Nat} {A : Around} (r : Room (k + 1) A) (env : Env) : Room k (A.deeper env) :=
  ⟨r.hd, by have := r.dp; show A.depth + 1 + 3 * k + 5 < _; (first | lia | omega), by have := r.un; show A.units + 3 + 16 * k + 200 < _; (first | lia | omega)⟩
theorem Room.depth {k : Nat} {A : Around} (r : Room k A) : A.depth < recursionLimit := by have := r.dp; (first | lia | omega)
theorem Room.units {k : Nat} {A : Around} (r : Room k A) : A.units + 64 < cLine := by have := r.un; (first | lia | omega)
def tNil : TA := fun _ H Q => Q [] H
def tCons (ta : TE) (tr : TA) : TA := fun σ H Q => ta σ H fun x H1 => tr σ H1 fun xs H2 => Q (x :: xs) H2
section
variable {X : Cx} {e : Expr} {es : List Expr} {te : TE} {t : TA} {pos : Pos}
theorem pa_nil : PA X [] tNil := fun _ _ _ _ H Q I h => Calls.spliced_nil ⟨[], H, I, .nil, h⟩
theorem pa_cons (ha : PE X e te) (hr : PA X es t) (hs : starEach (e :: es) X.env = (false, eval e X.env) :: starEach es X.env := by rfl) : PA X (e :: es) (tCons te t) := by
  intro pos pins s σ H Q I h
  rw [hs]
  show wpAny _ _ (spliced ((false, eval e X.env) :: backTo pos (starEach es X.env))) _ _ s
  refine Calls.spliced_cons (thn (ha pins s σ H _ I h) fun u s1 ⟨x, H1, I1, r1, q1⟩ => ?_)
  exact thn (hr pos pins s1 σ H1 _ I1 q1) fun us s2 ⟨xs, H2, I2, r2, q2⟩ => ⟨x :: xs, H2, I2, .cons r1 r2, q2⟩
def tTup (t : TA) : TE := fun σ H Q => t σ H fun xs H1 => xs.length ≤ sizeLine ∧ ∀ p, H1 p = none → Q (.ref p) (upd H1 p (.tup xs))
def tLst (t : TA) : TE := fun σ H Q => t σ H fun xs H1 => xs.length ≤ sizeLine ∧ ∀ p, H1 p = none → Q (.ref p) (upd H1 p (.lst xs))
theorem pe_tup {x1} (h : PA X es t) : PE X (.Tuple es x1 pos) (tTup t) := by
  intro pins s σ H Q I hq
  refine wpAny_Tuple_spliced (thn (h pos pins s σ H _ I hq) fun us s1 ⟨xs, H1, I1, r, z, q⟩ => ⟨by rw [← r.length]; exact z, ?_⟩)
  have hf : H1 s1.heap.objs.size = none := I1.hok.fresh (Nat.le_refl _)
  refine ⟨.ref s1.heap.objs.size, upd H1 s1.heap.objs.size (.tup xs), I1.laid (t' := s1.toks) (fun b u e => Heap.get?_push_of_some _ e) (Nat.le_refl _) ?_, rfl, q _ hf⟩
  exact ⟨z, us, r, ⟨_, Heap.get?_push_size _ rfl, rfl, _, rfl⟩⟩
theorem pe_lst (h : PA X es t) : PE X (.List es pos) (tLst t) := by
  intro pins s σ H Q I hq
  refine wpAny_List_spliced (thn (h pos pins s σ H _ I hq) fun us s1 ⟨xs, H1, I1, r, z, q⟩ => ⟨by rw [← r.length]; exact z, ?_⟩)
  have hf : H1 s1.heap.objs.size = none := I1.hok.fresh (Nat.le_refl _)
  refine ⟨.ref s1.heap.objs.size, upd H1 s1.heap.objs.size (.lst xs), I1.laid (t' := s1.toks) (fun b u e => Heap.get?_push_of_some _ e) (Nat.le_refl _) ?_, rfl, q _ hf⟩
  exact ⟨z, us, 0, r, Heap.get?_push_size _ rfl⟩
end
abbrev Sp := List V → Hp → VK → XK → Prop
abbrev CXT := List Env → Hp → Shared → XK → Value → Shared → Prop
structure Env0 (P : Program) (w : World) (K : PySem.W.Frag) (mg : Str → Option Value) (base : Heap) (A : Around) (outer : List Env) (s : Shared) (H : Hp) : Prop where
  frames : A.frames = some outer
  mod : Mod K mg base
  bs : ∀ b o, base.get? b = some o → s.heap.get? b = some o ∧ H b = none
  bsz : base.objs.size ≤ s.heap.objs.size
  funs : s.heap.FunFrames base outer
  frf : ∀ b ∈ frs outer, H b = none
  hok : HOk P w H s.heap
  bare : AllBare s.gens
def CE (outer : List Env) (P : Program) (w : World) (H : Hp) (s : Shared) (Q : VK) (u : Value) (s' : Shared) : Prop :=
  ∃ v H', s'.os = s.os ∧ AllBare s'.gens ∧ Un (frs outer) [] H H' s.heap s'.heap ∧ HOk P w H' s'.heap ∧ RelV v u ∧ Q v H'
def CR (CX : CXT) (outer : List Env) (P : Program) (w : World) (H : Hp) (s : Shared) (Q : VK) (E : XK) (r : Result) (s' : Shared) : Prop :=
  match r with
  | .ok (.ret u) => CE outer P w H s Q u s'
  | .ok _ => False
  | .error e => CX outer H s E e s'
structure FnOk (P : Program) (w : World) (K : PySem.W.Frag) (mg : Str → Option Value) (base : Heap) (CX : CXT) (k : Nat) (f : Addr) (fd : FuncData) (ps : List Str) (sp : Sp) : Prop where
  len : ∀ vs H Q E, sp vs H Q E → vs.length = ps.length
  run : ∀ (A : Around) (outer : List Env) (s : Shared) (H : Hp) (args : Args) (us : List Value) (vs : List V) (Q : VK) (E : XK), Room k A → Env0 P w K mg base A outer s H → BindsTo s fd args (ps.zip us) → Vals vs us → sp vs H Q E →
    codeAny (model P w) A (.call (.ref f) args) (CR CX outer P w H s Q E) s
section
variable {X : Cx} {pins : List (Addr × Obj)} {σ : St} {H : Hp} {s s' : Shared}
theorem Inv.env0 (I : Inv X pins σ H s) : Env0 X.prog X.w X.K X.mg X.base X.A X.stack s H :=
  ⟨I.ok.frames, I.ok.mod, I.bs, Nat.le_trans I.ok.bsz I.sz, I.stack, I.stkFree, I.hok, I.bare⟩
theorem Inv.after {Q : VK} {u : Value} (I : Inv X pins σ H s) (h : CE X.stack X.prog X.w H s Q u s') : EP X pins σ Q u s' := by
  obtain ⟨v, H', os, bare, un, hok, r, q⟩ := h
  obtain ⟨hh, g, d, t, os'⟩ := s'
  obtain rfl : os' = s.os := os
  exact ⟨v, H', I.call (h' := hh) (g' := g) (d' := d) (t' := t) (ch := []) un hok bare (fun b z => absurd z (by simp)), r, q⟩
end
def tCall (sp : Sp) (dvs : List V) (E : XK) (t : TA) : TE := fun σ H Q => t σ H fun vs H1 => sp (vs ++ dvs) H1 Q E
def Binds (K : PySem.W.Frag) (fd : FuncData) (ps : List Str) (ds : List Value) : Prop :=
  ∀ (s : Shared) (us : List Value), K.In s.heap → (us ++ ds).length = ps.length → BindsTo s fd ⟨us, []⟩ (ps.zip (us ++ ds))
theorem Binds.all {K : PySem.W.Frag} {fd : FuncData} {ps : List Str} (h : ∀ us : List Value, us.length = ps.length → bindArgs fd ⟨us, []⟩ = pure (ps.zip us)) : Binds K fd ps [] := fun s us _ hl => by
  rw [List.append_nil] at hl ⊢
  exact .of_eq (h us hl)
def Passes (CX : CXT) (X : Cx) (E : XK) : Prop := ∀ (pins : List (Addr × Obj)) (σ : St) (H : Hp) (s : Shared) (e : Value) (s' : Shared), Inv X pins σ H s → CX X.stack H s E e s' → X.xe e s'
section
variable {X : Cx} {CX : CXT} {k : Nat} {f C : Addr} {fd : FuncData} {ps : List Str} {sp : Sp} {dvs : List V} {ds : List Value} {E : XK} {x m : Str} {p pos apos : Pos} {e o : Expr} {es : List Expr} {ta : TE} {t : TA}
theorem run_fn {pins : List (Addr × Obj)} {σ : St} {H : Hp} {s : Shared} {Q : VK} {us : List Value} {vs : List V} (F : FnOk X.prog X.w X.K X.mg X.base CX k f fd ps sp) (hr : Room k X.A) (hb : Binds X.K fd ps ds) (hd : Vals dvs ds) (hx : Passes CX X E)
    (I : Inv X pins σ H s) (r : Vals vs us) (h : sp (vs ++ dvs) H Q E) : wpAny (model X.prog X.w) X.A (call (.ref f) us) (EP X pins σ Q) X.xe s := by
  have r2 : Vals (vs ++ dvs) (us ++ ds) := r.append hd
  have hl : (us ++ ds).length = ps.length := by rw [← r2.length]; exact F.len _ _ _ _ h
  refine wpAny_call (codeAny_mono (F.run X.A X.stack s H ⟨us, []⟩ (us ++ ds) (vs ++ dvs) Q E hr I.env0 (hb s us I.kIn hl) r2 h) fun r s' hq => ?_)
  cases r with
  | error e => exact hx pins σ H s e s' I hq
  | ok fl =>
    cases fl with
    | ret u => exact I.after hq
    | next => exact False.elim hq
    | brk => exact False.elim hq
    | cont => exact False.elim hq
theorem pe_call (F : FnOk X.prog X.w X.K X.mg X.base CX k f fd ps sp) (hr : Room k X.A) (hg : Gl X x) (hm : X.mg x = some (.ref f)) (hk : PySem.W.keepIn X.K (.ref f) = true) (hb : Binds X.K fd ps ds) (hd : Vals dvs ds) (hx : Passes CX X E)
    (ha : PA X (e :: es) t) (hdb : (x == ("__debug__" : Str)) = false := by decide) (he : starEach (e :: es) X.env = (false, eval e X.env) :: starEach es X.env := by rfl) (hpl : (backTo pos (starEach es X.env)).any (·.1) = false := by rfl) :
    PE X (.Call (.Name x p) (e :: es) [] pos) (tCall sp dvs E t) := by
  intro pins s σ H Q I h
  refine wpAny_Call_Name_kw (ld_glob I hg hm ?_ hdb)
  refine PySem.W.callWith_K (h₀ := X.base) I.ok.mod.kin hk (thn (ha pos pins s σ H _ I h) fun us s1 ⟨vs, H1, I1, r, q⟩ => ⟨I1.kIn, ?_⟩) he hpl
  exact run_fn F hr hb hd hx I1 r q
structure Mk (K : PySem.W.Frag) (C f : Addr) : Prop where
  makes : PySem.W.makesIn K C = true
  init : PySem.W.findIn K (.ref C) "__init__" = some (some (.ref f))
  fn : PySem.W.isFn K (.ref f) = true
  kp : PySem.W.keepIn K (.ref C) = true
end
section
variable {X : Cx} {CX : CXT} {k : Nat} {f C : Addr} {fd : FuncData} {ps ks : List Str} {sp : Sp} {E : XK} {x m : Str} {p pos apos kpos : Pos} {e o : Expr} {es : List Expr} {kws : List Keyword} {te ta : TE} {t tk : TA} {nm : Option Str}
variable {g : List Value → List Value → List Value} {gV : List V → List V → List V}
end
structure FnScope (N P : List Str) (sc : Scope) : Prop where
  kind : sc.kind = .function
  co : sc.isCoroutine = false
  gen : sc.isGenerator = false
  nd : N.Nodup
  pre : N.take P.length = P
  par : ∀ x ∈ P, sc.names.lookup x = some .local ∨ sc.names.lookup x = some .cell
  nofree : ∀ y ∈ sc.names, y.2 ≠ .free
theorem bindL_out {kindOf : Str → Option NameKind} {x : Str} : ∀ {binds : List (Str × Value)} {m : Str → Option Value}, (∀ v, (x, v) ∉ binds) → bindL kindOf binds m x = m x
  | [], _, _ => rfl
  | (n, v) :: r, m, h => by
    unfold bindL
    rw [bindL_out fun w hw => h w (List.mem_cons_of_mem _ hw)]
    split
    · have : x ≠ n := by rintro rfl; exact h v List.mem_cons_self
      simp [this]
    · rfl
theorem bindC_out {kindOf : Str → Option NameKind} {x : Str} : ∀ {binds : List (Str × Value)} {m : Str → Option Value}, (∀ v, (x, v) ∉ binds) → bindC kindOf binds m x = m x
  | [], _, _ => rfl
  | (n, v) :: r, m, h => by
    unfold bindC
    rw [bindC_out fun w hw => h w (List.mem_cons_of_mem _ hw)]
    split
    · rfl
    · have : x ≠ n := by rintro rfl; exact h v List.mem_cons_self
      simp [this]
theorem bindL_get {kindOf : Str → Option NameKind} {x : Str} {v : Value} : ∀ {P : List Str} {vs : List Value} {i : Nat} {m : Str → Option Value}, P.Nodup → P[i]? = some x → vs[i]? = some v → kindOf x = some .local →
    bindL kindOf (P.zip vs) m x = some v
  | [], _, _, _, _, h, _, _ => by simp at h
  | _ :: _, [], _, _, _, _, h, _ => by simp at h
  | p :: P, w :: vs, 0, m, nd, h1, h2, hk => by
    simp at h1 h2; subst h1; subst h2
    show bindL kindOf ((p, w) :: P.zip vs) m p = _
    unfold bindL
    rw [bindL_out fun v hv => (List.nodup_cons.mp nd).1 (List.of_mem_zip hv).1, if_pos hk]
    simp
  | p :: P, w :: vs, i + 1, m, nd, h1, h2, hk => by
    show bindL kindOf ((p, w) :: P.zip vs) m x = _
    unfold bindL
    exact bindL_get (i := i) (List.nodup_cons.mp nd).2 (by simpa using h1) (by simpa using h2) hk
theorem bindC_get {kindOf : Str → Option NameKind} {x : Str} {v : Value} : ∀ {P : List Str} {vs : List Value} {i : Nat} {m : Str → Option Value}, P.Nodup → P[i]? = some x → vs[i]? = some v → kindOf x ≠ some .local →
    bindC kindOf (P.zip vs) m x = some v
  | [], _, _, _, _, h, _, _ => by simp at h
  | _ :: _, [], _, _, _, _, h, _ => by simp at h
  | p :: P, w :: vs, 0, m, nd, h1, h2, hk => by
    simp at h1 h2; subst h1; subst h2
    show bindC kindOf ((p, w) :: P.zip vs) m p = _
    unfold bindC
    rw [bindC_out fun v hv => (List.nodup_cons.mp nd).1 (List.of_mem_zip hv).1, if_neg hk]
    simp
  | p :: P, w :: vs, i + 1, m, nd, h1, h2, hk => by
    show bindC kindOf ((p, w) :: P.zip vs) m x = _
    unfold bindC
    exact bindC_get (i := i) (List.nodup_cons.mp nd).2 (by simpa using h1) (by simpa using h2) hk
def start (N : List Str) (vs : List V) : St := vs.map some ++ List.replicate (N.length - vs.length) none
def cxOf (CX : CXT) (P : Program) (w : World) (K : PySem.W.Frag) (mg : Str → Option Value) (base : Heap) (N : List Str) (qual : Str) (scope : Scope) (f : Addr) (cd : Value) (A : Around) (outer : List Env) (s : Shared) (H : Hp) (E : XK) : Cx where
  prog := P
  w := w
  K := K
  mg := mg
  base := base
  A := A.deeper (envOfC qual scope s.heap.objs.size f cd)
  N := N
  s₀ := s
  H₀ := H
  env := envOfC qual scope s.heap.objs.size f cd
  outer := outer
  stack := envOfC qual scope s.heap.objs.size f cd :: outer
  ex := []
  calm := true
  fn := fun _ => true
  pn := []
  xe := fun e s' => wpAny (model P w) (A.deeper (envOfC qual scope s.heap.objs.size f cd)) (leaving (envOfC qual scope s.heap.objs.size f cd) e) (fun _ s'' => CX outer H s E e s'') (fun e' s'' => CX outer H s E e' s'') s'
theorem cell_has {sc : Scope} {n : Nat} {x : Str} (h : sc.names.lookup x = some .cell) : ∃ c, (cellsFrom n sc.names []).lookup x = some c := by
  have q := PySem.W.cellsFrom_some sc.names n [] (.inl h)
  exact Option.isSome_iff_exists.mp q
theorem inv_start {CX : CXT} {P : Program} {w : World} {K : PySem.W.Frag} {mg : Str → Option Value} {base : Heap} {N ps : List Str} {qual : Str} {scope : Scope} {f : Addr} {cd : Value} {A : Around} {outer : List Env} {s s1 : Shared} {H : Hp} {E : XK} {us : List Value} {vs : List V}
    (S : FnScope N ps scope) (hd : A.handled = none) (e0 : Env0 P w K mg base A outer s H) (hl : vs.length = ps.length) (r : Vals vs us)
    (x : InCallC s s.heap.objs.size (bindL (envOfC qual scope s.heap.objs.size f cd).kindOf (ps.zip us) fun _ => none) (cellsFrom (s.heap.objs.size + 1) scope.names []) (bindC (envOfC qual scope s.heap.objs.size f cd).kindOf (ps.zip us) fun _ => none) s1) :
    Inv (cxOf CX P w K mg base N qual scope f cd A outer s H E) [] (start N vs) H s1 := by
  have hpl : ps.length ≤ N.length := by have := congrArg List.length S.pre; rw [List.length_take] at this; (first | lia | omega)
  obtain ⟨h1, tk, rfl, hk⟩ := x.done
  have noA : ∀ b : Addr, b ∉ (cxOf CX P w K mg base N qual scope f cd A outer s H E).ex := fun b z => absurd (show b ∈ ([] : List Addr) from z) (by simp)
  refine ⟨⟨e0.mod, S.kind, rfl, rfl, Nat.le_refl _, fun y z c h1 h2 => ?_, fun y hy => ?_, fun y c _ h => ?_, fun _ => hd, Around.frames_deeper e0.frames, .inr ⟨rfl, rfl⟩, fun b z => absurd z (noA b), e0.bs, e0.bsz, fun b _ _ => noA b, fun b z => absurd z (noA b), e0.funs, e0.frf⟩,
    rfl, e0.bare, Un.kept hk, ⟨_, x.toInCall.ns, fun i y v h1 h2 h3 => ?_⟩, fun y c h => ⟨_, x.cell y c h⟩, e0.hok.fresh (Nat.le_refl _), fun y c h => ?_, fun p hp => absurd (show p ∈ ([] : List (Addr × Obj)) from hp) (by simp), e0.hok.kept hk, ?_⟩
  · exact name_of_addr x.apart (PySem.mem_of_lookup h1) (PySem.mem_of_lookup h2)
  · have hy : scope.names.lookup y = some .cell ∨ scope.names.lookup y = some .free := hy
    rcases hy with hy | hy
    · exact cell_has hy
    · exact absurd rfl (S.nofree _ (PySem.mem_of_lookup hy))
  · exact Nat.le_of_lt (x.above y c (PySem.mem_of_lookup h))
  · have hi : i < vs.length := by
      unfold start at h2
      by_cases hi : i < vs.length
      · exact hi
      · rw [List.getElem?_append_right (by simpa using hi)] at h2
        rw [List.getElem?_replicate] at h2
        split at h2 <;> cases h2
    have ha : vs[i]? = some v := by
      unfold start at h2
      rw [List.getElem?_append_left (by simpa using hi), List.getElem?_map] at h2
      cases e : vs[i]? with
      | none => rw [e] at h2; cases h2
      | some a => rw [e] at h2; cases h2; rfl
    obtain ⟨u, hu, rv⟩ := r.get ha
    have hp : ps[i]? = some y := by
      rw [← S.pre, List.getElem?_take_of_lt (by (first | lia | omega))]; exact h1
    have ndP : ps.Nodup := by rw [← S.pre]; exact S.nd.sublist (List.take_sublist _ _)
    refine ⟨u, rv, ?_⟩
    rcases S.par y (List.mem_of_getElem? hp) with k | k
    · exact .inl ⟨k, bindL_get ndP hp hu k⟩
    · obtain ⟨c, e⟩ := cell_has (n := s.heap.objs.size + 1) k
      refine .inr ⟨.inl k, c, e, ?_⟩
      have q := x.cell y c e
      rw [bindC_get ndP hp hu (by show scope.names.lookup y ≠ _; rw [k]; decide)] at q
      exact q
  · exact e0.hok.fresh (Nat.le_of_lt (x.above y c (PySem.mem_of_lookup h)))
  · unfold start
    show _ = N.length
    rw [List.length_append, List.length_map, List.length_replicate]
    (first | lia | omega)
theorem fn_of {CX : CXT} {P : Program} {w : World} {K : PySem.W.Frag} {mg : Str → Option Value} {base : Heap} {k : Nat} {f : Addr} {name qual : Str} {params : Arguments} {body : List Stmt} {scope : Scope} {dV kV doc pm cdv ct oc : Value} {an od : Option Addr}
    {osl : Array (Option Value)} {N ps : List Str} {sp : Sp} (lk : K.lookup f = some ⟨oc, od, .func (PySem.W.fnOf name qual params body scope dV kV doc pm an cdv ct), osl⟩) (hcd : PySem.W.codeIn K cdv qual = true) (S : FnScope N ps scope)
    (len : ∀ vs H Q E, sp vs H Q E → vs.length = ps.length)
    (hbody : ∀ (A : Around) (outer : List Env) (s : Shared) (H : Hp) (vs : List V) (Q : VK) (E : XK), Room k (A.deeper (envOfC qual scope s.heap.objs.size f cdv)) → sp vs H Q E →
      ∃ t, PSs (cxOf CX P w K mg base N qual scope f cdv A outer s H E) body t ∧ t { nx := fun _ H' => Q .non H', rt := Q } (start N vs) H) :
    FnOk P w K mg base CX (k + 1) f (PySem.W.fnOf name qual params body scope dV kV doc pm an cdv ct) ps sp := by
  refine ⟨len, fun A outer s H args us vs Q E hr e0 hb r hsp => ?_⟩
  have hl := len _ _ _ _ hsp
  have KX : K.In s.heap := e0.mod.kin.keeps fun b o e => (e0.bs b o e).1
  have lim : s.heap.NoLimit := e0.mod.nolimit.keeps fun b o e => (e0.bs b o e).1
  have hkind : ∀ y ∈ ps.zip us, scope.names.lookup y.1 = some .local ∨ (scope.names.lookup y.1 = some .cell ∧ ((cellsFrom (s.heap.objs.size + 1) scope.names []).lookup y.1).isSome = true) := fun ⟨n, v⟩ hy => by
    rcases S.par n (List.of_mem_zip hy).1 with q | q
    · exact .inl q
    · exact .inr ⟨q, PySem.W.cellsFrom_some _ _ _ (.inl q)⟩
  refine codeAny_call_function hr.depth (KX _ _ lk) rfl S.co S.gen rfl (PySem.W.codeRec_of KX hcd) (hb _ _ _ _ ?_)
  refine wpAny_newFunctionEnv_cells S.kind hkind fun env he s1 x => ?_
  subst he
  refine ⟨lim.keeps x.toInCall.keep, codeAny_func ?_⟩
  obtain ⟨t, ht, hq⟩ := hbody A outer s H vs Q E (hr.deeper _) hsp
  have I : Inv (cxOf CX P w K mg base N qual scope f cdv A outer s H E) [] (start N vs) H s1 := inv_start S hr.hd e0 hl r x
  refine wpAny_mono (ht [] s1 (start N vs) H _ I hq) (fun fl s' hs => ?_) fun e s' hs => hs
  have fin : ∀ {σ' : St} {H' : Hp} {v : V} {u : Value}, Inv (cxOf CX P w K mg base N qual scope f cdv A outer s H E) [] σ' H' s' → RelV v u → Q v H' → CE outer P w H s Q u s' :=
    fun {σ' H' v u} J rv q => ⟨v, H', J.os, J.bare, J.base, J.hok, rv, q⟩
  cases fl with
  | ret u =>
    obtain ⟨v, σ', H', J, rv, q⟩ := hs
    exact fin J rv q
  | next =>
    obtain ⟨σ', H', J, q⟩ := hs
    exact fin (v := V.non) (u := Value.none) J rfl q
  | brk =>
    obtain ⟨_, _, _, q⟩ := hs
    exact False.elim q
  | cont =>
    obtain ⟨_, _, _, q⟩ := hs
    exact False.elim q
end L2
namespace L2
open PySem PySem.Spec PyProof.Rows
section
variable {X : Cx} {x : Str} {p pos : Pos} {e : Expr} {es : List Expr} {t : TA} {id T : String} {r : List V → Hp → VK → Prop}
def tCB (r : List V → Hp → VK → Prop) (t : TA) : TE := fun σ H Q => t σ H fun vs H1 => r vs H1 Q
theorem pe_callB (hc : CallR X (.builtin id) r) (hg : Gl X x) (hm : X.mg x = none) (hv : bootBuiltins x = some (.builtin id)) (ha : PA X (e :: es) t) (hn : x ≠ "__name__" := by decide) (hdb : (x == ("__debug__" : Str)) = false := by decide)
    (he : starEach (e :: es) X.env = (false, eval e X.env) :: starEach es X.env := by rfl) (hpl : (backTo pos (starEach es X.env)).any (·.1) = false := by rfl) : PE X (.Call (.Name x p) (e :: es) [] pos) (tCB r t) := by
  intro pins s σ H Q I h
  refine wpAny_Call_Name_kw (ld_blt I hg hm hv ?_ hn hdb)
  exact PyProof.Rows.callWith_builtin1 (thn (ha pos pins s σ H _ I h) fun us s1 ⟨vs, H1, I1, r1, q1⟩ => hc pins s1 σ H1 vs us Q I1 r1 q1) he hpl
theorem pe_callTy (hc : CallR X (.type T) r) (hg : Gl X x) (hm : X.mg x = none) (hv : bootBuiltins x = some (.type T)) (ha : PA X (e :: es) t) (hn : x ≠ "__name__" := by decide) (hdb : (x == ("__debug__" : Str)) = false := by decide)
    (he : starEach (e :: es) X.env = (false, eval e X.env) :: starEach es X.env := by rfl) (hpl : (backTo pos (starEach es X.env)).any (·.1) = false := by rfl) : PE X (.Call (.Name x p) (e :: es) [] pos) (tCB r t) := by
  intro pins s σ H Q I h
  refine wpAny_Call_Name_kw (ld_blt I hg hm hv ?_ hn hdb)
  exact PyProof.Rows.callWith_type1 (thn (ha pos pins s σ H _ I h) fun us s1 ⟨vs, H1, I1, r1, q1⟩ => hc pins s1 σ H1 vs us Q I1 r1 q1) he hpl
end
end L2
namespace HT
open PySem PyProof.Rows
section
open PySem.SeqAt
open PySem.AutoSeq1 (wpAny_loadPart')
open PySem.MeetsSeq PySem.MeetsSeq2 PySem.MeetsSeq3
end
section
variable {prog : Program} {w : World} {A : Around} {E : Value → Shared → Prop} {s : Shared}
def sIx (n d : Nat) : Option Int → Nat
  | none => d
  | some v => if v < 0 then (v + (n : Int)).toNat else min v.toNat n
end
end HT
namespace L2
open PySem PySem.Spec PyProof.Rows
abbrev TO := St → Hp → (Option Int → Hp → Prop) → Prop
def PO (X : Cx) (e : Option Expr) (t : TO) : Prop :=
  ∀ (pins : List (Addr × Obj)) (s : Shared) (σ : St) (H : Hp) (Q : Option Int → Hp → Prop), Inv X pins σ H s → t σ H Q →
    wpAny (model X.prog X.w) X.A (evalPart e X.env) (fun u s' => ∃ o H', Inv X pins σ H' s' ∧ IsPart u o ∧ Q o H') X.xe s
def tNoPart : TO := fun _ H Q => Q none H
def tPart (t : TE) : TO := fun σ H Q => t σ H fun x H1 => ∃ i, x = .int i ∧ Q (some i) H1
section
variable {X : Cx} {e : Expr} {te : TE} {lo hi : Option Expr} {tl th : TO} {pos p2 : Pos}
theorem po_none : PO X none tNoPart := by
  intro pins s σ H Q I h
  rw [evalPart_none]
  exact wpAny_pure ⟨none, H, I, .none, h⟩
theorem po_some (h : PE X e te) : PO X (some e) (tPart te) := by
  intro pins s σ H Q I hw
  rw [evalPart_some]
  refine thn (h pins s σ H _ I hw) fun u s1 ⟨x, H1, I1, r1, q1⟩ => ?_
  obtain ⟨i, rfl, q⟩ := q1
  obtain ⟨t, rfl⟩ := r1
  exact ⟨some i, H1, I1, .int i t, q⟩
def SlR (X : Cx) (r : V → Option Int → Option Int → Hp → VK → Prop) : Prop :=
  ∀ (pins : List (Addr × Obj)) (s : Shared) (σ : St) (H : Hp) (x : V) (v vl vu : Value) (lo hi : Option Int) (sl : Addr) (Q : VK), Inv X pins σ H s → RelV x v → s.heap.IsSliceOf sl vl vu .none → IsPart vl lo → IsPart vu hi → r x lo hi H Q →
    ∃ T id, typeLookup (.type T) "__getitem__" = pure (some (.builtin id)) ∧ s.TypeIs v T ∧ wpAny (model X.prog X.w) X.A (getItem v (.ref sl)) (EP X pins σ Q) X.xe s
def tSl (r : V → Option Int → Option Int → Hp → VK → Prop) (te : TE) (tl th : TO) : TE := fun σ H Q => te σ H fun x H1 => tl σ H1 fun l H2 => th σ H2 fun u H3 => r x l u H3 Q
theorem pe_slice {r : V → Option Int → Option Int → Hp → VK → Prop} (hr : SlR X r) (he : PE X e te) (hl : PO X lo tl) (hu : PO X hi th) : PE X (.Subscript e (.Slice lo hi none p2) pos) (tSl r te tl th) := by
  intro pins s σ H Q I h
  refine Subscript_ (thn (he pins s σ H _ I h) fun v s1 ⟨x, H1, I1, r1, q1⟩ => ?_)
  refine wpAny_Slice (thn (hl pins s1 σ H1 _ I1 q1) fun vl s2 ⟨l, H2, I2, pl, q2⟩ => thn (hu pins s2 σ H2 _ I2 q2) fun vu s3 ⟨u, H3, I3, pu, q3⟩ => ?_)
  rw [evalPart_none]
  refine wpAny_pure ?_
  have I4 : Inv X pins σ H3 { s3 with heap := s3.heap.push { cls := .type "slice", data := .fields #[vl, vu, .none] } } := I3.kept (t' := s3.toks) fun b ob q => Heap.get?_push_of_some _ q
  obtain ⟨T, id, hT, ht, hg⟩ := hr pins { s3 with heap := s3.heap.push { cls := .type "slice", data := .fields #[vl, vu, .none] } } σ H3 x v vl vu l u s3.heap.objs.size Q I4 r1 (Heap.IsSliceOf.new ..) pl pu q3
  show wpAny (model X.prog X.w) X.A (subscriptTail e (.Slice lo hi none p2) v (.ref s3.heap.objs.size)) (EP X pins σ Q) X.xe { s3 with heap := s3.heap.push { cls := .type "slice", data := .fields #[vl, vu, .none] } }
  exact tail_any (ops := [.ref s3.heap.objs.size, v]) ht hT hg (by with_unfolding_all rfl)
def cutV (xs : List V) (lo hi : Option Int) : List V := (xs.drop (HT.sIx xs.length 0 lo)).take (HT.sIx xs.length xs.length hi - HT.sIx xs.length 0 lo)
theorem cutV_length (xs : List V) (lo hi : Option Int) : (cutV xs lo hi).length ≤ xs.length := by
  unfold cutV
  rw [List.length_take, List.length_drop]
  (first | lia | omega)
end
end L2
namespace L2
open PySem PySem.Spec PyProof.Rows
def ixN (n : Nat) (i : Int) : Option Nat := if 0 ≤ i then (if i < n then some i.toNat else none) else if -(n : Int) ≤ i then some (i + n).toNat else none
def atI {α : Type} (xs : List α) (i : Int) : Option α := (ixN xs.length i).bind fun j => xs[j]?
theorem ixN_seq {n : Nat} {i : Int} {j : Nat} (h : ixN n i = some j) : seqIndex? i n = some j ∧ j < n ∧ -(n : Int) ≤ i ∧ i < n := by
  unfold ixN at h
  by_cases h0 : 0 ≤ i
  · rw [if_pos h0] at h
    by_cases h1 : i < n
    · rw [if_pos h1] at h
      have e : i.toNat = j := Option.some.inj h
      exact ⟨by rw [seqIndex_of h0 h1, e], by (first | lia | omega), by (first | lia | omega), h1⟩
    · rw [if_neg h1] at h; cases h
  · rw [if_neg h0] at h
    by_cases h1 : -(n : Int) ≤ i
    · rw [if_pos h1] at h
      have e : (i + n).toNat = j := Option.some.inj h
      exact ⟨by rw [seqIndex_neg (by (first | lia | omega)) h1, e], by (first | lia | omega), h1, by (first | lia | omega)⟩
    · rw [if_neg h1] at h; cases h
theorem atI_get {α : Type} {xs : List α} {i : Int} {v : α} (h : atI xs i = some v) : ∃ j, seqIndex? i xs.length = some j ∧ xs[j]? = some v ∧ j < xs.length ∧ -(xs.length : Int) ≤ i ∧ i < xs.length := by
  unfold atI at h
  cases e : ixN xs.length i with
  | none => rw [e] at h; cases h
  | some j =>
    rw [e] at h
    obtain ⟨h1, h2, h3, h4⟩ := ixN_seq e
    exact ⟨j, h1, h, h2, h3, h4⟩
theorem atI_nat {α : Type} {xs : List α} {j : Nat} {v : α} (h : xs[j]? = some v) : atI xs (j : Int) = some v := by
  have hj : j < xs.length := (List.getElem?_eq_some_iff.mp h).1
  have e : ixN xs.length (j : Int) = some j := by
    unfold ixN
    rw [if_pos (by (first | lia | omega)), if_pos (by (first | lia | omega))]; simp
  unfold atI; rw [e]; exact h
theorem atI_last {α : Type} (xs : List α) (v : α) : atI (xs ++ [v]) (-1) = some v := by
  have hl : (xs ++ [v]).length = xs.length + 1 := by simp
  have e : ixN (xs ++ [v]).length (-1) = some xs.length := by
    unfold ixN
    rw [hl, if_neg (by decide), if_pos (by (first | lia | omega))]
    congr 1
    (first | lia | omega)
  unfold atI
  rw [e]
  show (xs ++ [v])[xs.length]? = some v
  simp
def PlainIx (b : Expr) : Prop := ∀ o i, subscripted b false o i = operate [o, i] (getItem o i)
def IxR (X : Cx) (r : R2) : Prop :=
  ∀ (value slice : Expr) (pins : List (Addr × Obj)) (s : Shared) (σ : St) (H : Hp) (x y : V) (v u : Value) (Q : VK), Inv X pins σ H s → RelV x v → RelV y u → r x y H Q →
    subscripted slice false v u = operate [v, u] (getItem v u) → wpAny (model X.prog X.w) X.A (subscriptTail value slice v u) (EP X pins σ Q) X.xe s
def MtR (X : Cx) (id : String) (r : V → List V → Hp → VK → Prop) : Prop :=
  ∀ (pins : List (Addr × Obj)) (s : Shared) (σ : St) (H : Hp) (x : V) (xs : List V) (v : Value) (us : List Value) (Q : VK), Inv X pins σ H s → RelV x v → Vals xs us → r x xs H Q →
    wpAny (model X.prog X.w) X.A (call (.builtin id) (v :: us)) (EP X pins σ Q) X.xe s
section
variable {X : Cx} {a b : Expr} {ta tb : TE} {pos : Pos}
theorem pe_ix {r : R2} (hr : IxR X r) (ha : PE X a ta) (hb : PE X b tb) (hs : PlainIx b) : PE X (.Subscript a b pos) (tOp r ta tb) := by
  intro pins s σ H Q I h
  exact Subscript_ (binT ha hb I h fun v u s2 x y H2 I2 rx ry q => hr a b pins s2 σ H2 x y v u Q I2 rx ry q (hs _ _))
def rIxL (K : PySem.W.Frag) : R2 := fun x y H Q => ∃ p xs i v, x = .ref p ∧ y = .int i ∧ SqL K H p xs ∧ atI xs i = some v ∧ Q v H
def rIxT (K : PySem.W.Frag) : R2 := fun x y H Q => ∃ p xs i v, x = .ref p ∧ y = .int i ∧ SqT K H p xs ∧ atI xs i = some v ∧ Q v H
def rIxS : R2 := fun x y H Q => ∃ z i c, x = .str z ∧ y = .int i ∧ z.length ≤ sizeLine ∧ atI z.cps.toList i = some c ∧ Q (.str ⟨#[c]⟩) H
theorem ix_list : IxR X (rIxL X.K) := by
  intro value slice pins s σ H x y v u Q I rx ry h hs
  obtain ⟨p, xs, i, z, rfl, rfl, hq, he, q⟩ := h
  cases rx
  obtain ⟨t, rfl⟩ := ry
  obtain ⟨its, r, pl, hz⟩ := I.list hq
  obtain ⟨j, h1, h2, h3, h4, h5⟩ := atI_get he
  obtain ⟨w, ew, rw'⟩ := r.get h2
  have hl := r.length
  have hn := line63
  have fin : EP X pins σ Q w s := ⟨z, H, I, rw', q⟩
  by_cases h0 : 0 ≤ i
  · have hj : i.toNat = j := by
      rw [seqIndex_of h0 h5] at h1
      exact Option.some.inj h1
    exact item_listR pl.isList h0 (by (first | lia | omega)) (by rw [hj]; simpa using ew) fin hs
  · have hj : (i + (its.toArray.size : Int)).toNat = j := by
      rw [seqIndex_neg (by (first | lia | omega)) h4] at h1
      rw [List.size_toArray, ← hl]
      exact Option.some.inj h1
    exact subscriptTail_builtinR (x := w) pl.isList.typeIs slot_list_getitem.lookup
      (wpAny_getItem_list_neg (Q := fun r s' => r = w ∧ EP X pins σ Q r s') pl.isList (by (first | lia | omega)) (by rw [List.size_toArray] <;> (first | lia | omega)) (by (first | lia | omega)) (by rw [hj]; simpa using ew) ⟨rfl, fin⟩) hs
theorem ix_tup : IxR X (rIxT X.K) := by
  intro value slice pins s σ H x y v u Q I rx ry h hs
  obtain ⟨p, xs, i, z, rfl, rfl, hq, he, q⟩ := h
  cases rx
  obtain ⟨t, rfl⟩ := ry
  obtain ⟨its, r, pl, hz⟩ := I.tuple hq
  obtain ⟨j, h1, h2, h3, h4, h5⟩ := atI_get he
  obtain ⟨w, ew, rw'⟩ := r.get h2
  have hl := r.length
  have hn := line63
  have fin : EP X pins σ Q w s := ⟨z, H, I, rw', q⟩
  exact subscriptTail_builtinR (x := w) pl.typeIs slot_tuple_getitem.lookup
    (getItem_tuple (j := j) (Q := fun r s' => r = w ∧ EP X pins σ Q r s') pl (by (first | lia | omega)) (by (first | lia | omega)) (by rw [List.size_toArray, ← hl]; exact h1) (by simpa using ew) ⟨rfl, fin⟩) hs
theorem ix_str : IxR X rIxS := by
  intro value slice pins s σ H x y v u Q I rx ry h hs
  obtain ⟨z, i, c, rfl, rfl, hz, he, q⟩ := h
  obtain ⟨t, rfl⟩ := rx
  obtain ⟨t', rfl⟩ := ry
  obtain ⟨j, h1, h2, h3, h4, h5⟩ := atI_get he
  have hl : z.cps.toList.length = z.length := by simp [Str.length]
  rw [hl] at h1 h4 h5
  have hn := line63
  exact tail_any (typeIs_str s z t) slot_str_getitem.lookup (getItem_str (c := c) (by
    have e1 : decide (i < -(2 ^ 63 : Int)) = false := decide_eq_false (by (first | lia | omega))
    have e2 : decide (i ≥ 2 ^ 63) = false := decide_eq_false (by (first | lia | omega))
    rw [e1, e2, Bool.or_false]) (by rw [h1]; simpa using h2) ⟨.str ⟨#[c]⟩, H, I.tok _, ⟨_, rfl⟩, q⟩) hs
theorem mapSeq_set (its : List Value) (n j : Nat) (u : Value) : Obj.mapSeq (·.setIfInBounds j u) { cls := .type "list", data := .seq its.toArray n } = { cls := .type "list", data := .seq (its.set j u).toArray n } := by
  simp [Obj.mapSeq]
theorem Inv.lst {pins : List (Addr × Obj)} {σ : St} {H : Hp} {s : Shared} {p : Addr} {xs : List V} (I : Inv X pins σ H s) (h : H p = some (.lst xs)) :
    ∃ (its : List Value) (n : Nat), Vals xs its ∧ s.heap.get? p = some { cls := .type "list", data := .seq its.toArray n } ∧ xs.length ≤ sizeLine := by
  obtain ⟨z, its, n, r, e⟩ := I.hok p _ h
  exact ⟨its, n, r, e, z⟩
theorem Inv.lstUpd {pins : List (Addr × Obj)} {σ : St} {H : Hp} {s : Shared} {p : Addr} {xs ys : List V} {its its' : List Value} {n n' : Nat} {f : Obj → Obj} (I : Inv X pins σ H s) (h : H p = some (.lst xs))
    (ho : s.heap.get? p = some { cls := .type "list", data := .seq its.toArray n }) (hf : f { cls := .type "list", data := .seq its.toArray n } = { cls := .type "list", data := .seq its'.toArray n' }) (r : Vals ys its') (hz : ys.length ≤ sizeLine) (t : Nat) :
    Inv X pins σ (upd H p (.lst ys)) { s with heap := s.heap.update p f, toks := t } := by
  have e : (s.heap.update p f).get? p = some { cls := .type "list", data := .seq its'.toArray n' } := by
    rw [Heap.get?_update_self f ho (by rw [hf] <;> rfl), hf]
  refine I.write (x := p) (e := p) (by rw [h]; trivial) (.inl rfl) (fun b u hb q => (Heap.get?_update_other _ _ (Ne.symm hb)).trans q) ⟨_, e⟩ ?_
  exact ⟨hz, its', n', r, e⟩
def rSetL : V → V → V → Hp → (Hp → Prop) → Prop := fun o i v H Q => ∃ p xs k j, o = .ref p ∧ i = .int k ∧ H p = some (.lst xs) ∧ ixN xs.length k = some j ∧ Q (upd H p (.lst (xs.set j v)))
theorem set_list : PSet X rSetL := by
  intro pins s σ H o i v ov iv u Q I ro ri rv h
  obtain ⟨p, xs, k, j, rfl, rfl, hp, hj, q⟩ := h
  cases ro
  obtain ⟨t, rfl⟩ := ri
  obtain ⟨its, n, r, ho, hz⟩ := I.lst hp
  obtain ⟨h1, h2, h3, h4⟩ := ixN_seq hj
  have hl := r.length
  have hn := line63
  have I' : Inv X pins σ (upd H p (.lst (xs.set j v))) { s with heap := s.heap.update p (Obj.mapSeq (·.setIfInBounds j u)) } :=
    I.lstUpd hp ho (mapSeq_set its n j u) (r.set rv j) (by rw [List.length_set]; exact hz) s.toks
  by_cases h0 : 0 ≤ k
  · have hk : k.toNat = j := by
      rw [seqIndex_of h0 h4] at h1
      exact Option.some.inj h1
    exact PySem.W.ki_setAt ho h0 (by (first | lia | omega)) (by rw [List.size_toArray, ← hl]; exact h4) (by rw [hk]; exact ⟨_, I', q⟩)
  · have hk : (k + (its.toArray.size : Int)).toNat = j := by
      rw [seqIndex_neg (by (first | lia | omega)) h3] at h1
      rw [List.size_toArray, ← hl]
      exact Option.some.inj h1
    exact PySem.W.ki_setBack ho (by (first | lia | omega)) (by rw [List.size_toArray, ← hl]; exact h3) (by (first | lia | omega)) (by rw [hk]; exact ⟨_, I', q⟩)
theorem slice_bounds (lo hi : Option Int) (n : Nat) : (sliceBounds lo hi none n).1 = ((HT.sIx n 0 lo : Nat) : Int) ∧ (sliceBounds lo hi none n).2.1 = ((HT.sIx n n hi : Nat) : Int) ∧ (sliceBounds lo hi none n).2.2 = 1 := by
  refine ⟨?_, ?_, rfl⟩
  · cases lo with
    | none => simp [sliceBounds, HT.sIx]
    | some i =>
      simp only [sliceBounds, HT.sIx, Option.getD_none, show (1 : Int) > 0 by decide, if_true]
      by_cases h : i < 0
      · simp only [h, if_true] <;> (first | lia | omega)
      · simp only [h, if_false] <;> (first | lia | omega)
  · cases hi with
    | none => simp [sliceBounds, HT.sIx]
    | some i =>
      simp only [sliceBounds, HT.sIx, Option.getD_none, show (1 : Int) > 0 by decide, if_true]
      by_cases h : i < 0
      · simp only [h, if_true] <;> (first | lia | omega)
      · simp only [h, if_false] <;> (first | lia | omega)
theorem slicePick_cut (its : List Value) (lo hi : Option Int) : slicePick its.toArray lo hi none = ((its.drop (HT.sIx its.length 0 lo)).take (HT.sIx its.length its.length hi - HT.sIx its.length 0 lo)).toArray := by
  obtain ⟨h1, h2, h3⟩ := slice_bounds lo hi its.toArray.size
  unfold slicePick
  rw [h1, h2, h3]
  simp only [sliceRange_one, pick_run, List.size_toArray] <;> rfl
def rSlL (K : PySem.W.Frag) : V → Option Int → Option Int → Hp → VK → Prop := fun x lo hi H Q => ∃ a xs, x = .ref a ∧ SqL K H a xs ∧ ∀ p, H p = none → Q (.ref p) (upd H p (.lst (cutV xs lo hi)))
theorem sl_list : SlR X (rSlL X.K) := by
  intro pins s σ H x v vl vu lo hi sl Q I rx hs pl pu h
  obtain ⟨a, xs, rfl, hx, q⟩ := h
  cases rx
  obtain ⟨its, r, ht, hz⟩ := I.list hx
  have hlen := r.length
  refine ⟨"list", _, slot_list_getitem.lookup, ht.isList.typeIs, ?_⟩
  refine wpAny_getItem_list_slice ht.isList hs pl pu .none (by simp) ?_ (by rw [List.size_toArray] <;> (first | lia | omega))
  rw [slicePick_cut, ← hlen]
  refine ⟨.ref s.heap.objs.size, _, I.laid (t' := s.toks) (o := .lst (cutV xs lo hi)) (fun b ob q => Heap.get?_push_of_some _ q) (Nat.le_refl _) ?_, rfl, q _ (I.hok.fresh (Nat.le_refl _))⟩
  exact ⟨Nat.le_trans (cutV_length xs lo hi) hz, _, 0, (r.drop (HT.sIx xs.length 0 lo)).take (HT.sIx xs.length xs.length hi - HT.sIx xs.length 0 lo), Heap.get?_push_size _ rfl⟩
def flatV : V → Bool
  | .non => true
  | .bl _ => true
  | .int _ => true
  | .str _ => true
  | _ => false
def eqV : V → V → Bool
  | .non, .non => true
  | .bl a, .bl b => a == b
  | .bl a, .int b => (if a then 1 else 0) == b
  | .int a, .bl b => a == (if b then 1 else 0)
  | .int a, .int b => a == b
  | .str a, .str b => a == b
  | _, _ => false
theorem eqAt_V {A : Around} {s : Shared} {y x : V} {u v : Value} (ry : RelV y u) (rx : RelV x v) (fy : flatV y = true) (fx : flatV x = true) : SeqAt.EqAt A s u v (eqV y x) := by
  cases y with
  | non =>
    cases ry
    cases x with
    | non => cases rx; exact SeqAt.EqAt.same _
    | bl b => cases rx; exact SeqAt.EqAt.none_bool b
    | int b => obtain ⟨t, rfl⟩ := rx; exact SeqAt.EqAt.none_int b t
    | str b => obtain ⟨t, rfl⟩ := rx; exact SeqAt.EqAt.none_str b t
    | _ => exact absurd (show false = true from fx) Bool.false_ne_true
  | bl a =>
    cases ry
    cases x with
    | non => cases rx; exact SeqAt.EqAt.bool_none a
    | bl b => cases rx; exact SeqAt.EqAt.bool_bool a b
    | int b => obtain ⟨t, rfl⟩ := rx; exact SeqAt.EqAt.bool_int a b t
    | str b => obtain ⟨t, rfl⟩ := rx; exact SeqAt.EqAt.bool_str a b t
    | _ => exact absurd (show false = true from fx) Bool.false_ne_true
  | int a =>
    obtain ⟨t', rfl⟩ := ry
    cases x with
    | non => cases rx; exact SeqAt.EqAt.int_none a t'
    | bl b => cases rx; exact SeqAt.EqAt.int_bool a t' b
    | int b => obtain ⟨t, rfl⟩ := rx; exact SeqAt.EqAt.int_int a t' b t
    | str b => obtain ⟨t, rfl⟩ := rx; exact SeqAt.EqAt.int_str a t' b t
    | _ => exact absurd (show false = true from fx) Bool.false_ne_true
  | str a =>
    obtain ⟨t', rfl⟩ := ry
    cases x with
    | non => cases rx; exact SeqAt.EqAt.str_none a t'
    | bl b => cases rx; exact SeqAt.EqAt.str_bool a t' b
    | int b => obtain ⟨t, rfl⟩ := rx; exact SeqAt.EqAt.str_int a t' b t
    | str b => obtain ⟨t, rfl⟩ := rx; exact SeqAt.EqAt.str_str a t' b t
    | _ => exact absurd (show false = true from fx) Bool.false_ne_true
  | _ => exact absurd (show false = true from fy) Bool.false_ne_true
def eqU (x : V) (u : Value) : Bool := match u with
  | .none => eqV .non x
  | .bool b => eqV (.bl b) x
  | .int i _ => eqV (.int i) x
  | .str z _ => eqV (.str z) x
  | _ => false
theorem eqU_of {x y : V} {u : Value} (r : RelV y u) (f : flatV y = true) : eqU x u = eqV y x := by
  cases y with
  | non => cases r; rfl
  | bl b => cases r; rfl
  | int i => obtain ⟨t, rfl⟩ := r; rfl
  | str z => obtain ⟨t, rfl⟩ := r; rfl
  | _ => exact absurd (show false = true from f) Bool.false_ne_true
theorem any_eqU {x : V} : ∀ {xs : List V} {us : List Value}, Vals xs us → xs.all flatV = true → us.any (eqU x) = xs.any fun y => eqV y x
  | _, _, .nil, _ => rfl
  | y :: xs, u :: us, .cons r t, f => by
    rw [List.all_cons, Bool.and_eq_true] at f
    rw [List.any_cons, List.any_cons, eqU_of r f.1, any_eqU t f.2]
theorem mem_eqAt {A : Around} {s : Shared} {x : V} {v : Value} (rx : RelV x v) (fx : flatV x = true) : ∀ {xs : List V} {us : List Value}, Vals xs us → xs.all flatV = true → ∀ u ∈ us, SeqAt.EqAt A s u v (eqU x u)
  | _, _, .nil, _ => fun u hu => by cases hu
  | y :: xs, u :: us, .cons r t, f => fun u' hu => by
    rw [List.all_cons, Bool.and_eq_true] at f
    rcases List.mem_cons.mp hu with rfl | hu
    · rw [eqU_of r f.1]; exact eqAt_V r rx f.1 fx
    · exact mem_eqAt rx fx t f.2 u' hu
def inV (x : V) (xs : List V) : Bool := xs.any fun y => eqV y x
def rIn (K : PySem.W.Frag) (neg : Bool) : R2 := fun x y H Q => ∃ p xs, y = .ref p ∧ (SqL K H p xs ∨ SqT K H p xs) ∧ flatV x = true ∧ xs.all flatV = true ∧ Q (.bl (if neg then !inV x xs else inV x xs)) H
theorem op_in_seq : OpR X (compareOp .In) (rIn X.K false) := by
  intro pins s σ H x y v u Q I rx ry h
  obtain ⟨p, xs, rfl, hq, fx, fs, q⟩ := h
  cases ry
  rcases hq with hq | hq
  · obtain ⟨its, r, pl, hz⟩ := I.list hq
    refine SeqAt.in_listAt (eqU x) pl.isList (fun w hw => mem_eqAt rx fx r fs w (by simpa using hw)) ⟨.bl _, H, I, rfl, ?_⟩
    rw [show its.toArray.any (eqU x) = its.any (eqU x) by simp, any_eqU r fs]
    exact q
  · obtain ⟨its, r, pl, hz⟩ := I.tuple hq
    refine SeqAt.in_tupleAt (eqU x) pl (fun w hw => mem_eqAt rx fx r fs w (by simpa using hw)) ⟨.bl _, H, I, rfl, ?_⟩
    rw [show its.toArray.any (eqU x) = its.any (eqU x) by simp, any_eqU r fs]
    exact q
theorem call_len_seq : CallR X (.builtin "len") (fun xs H Q => ∃ p ys, xs = [.ref p] ∧ (SqL X.K H p ys ∨ SqT X.K H p ys) ∧ Q (.int ys.length) H) := by
  intro pins s σ H xs us Q I r h
  obtain ⟨p, ys, rfl, hq, q⟩ := h
  obtain ⟨u, rfl, rx⟩ := vals1 r
  cases rx
  have hn := line63
  rcases hq with hq | hq
  · obtain ⟨its, r', pl, hz⟩ := I.list hq
    have hlen := r'.length
    exact Calls.call_len_list pl.isList (by simp only [List.size_toArray] <;> (first | lia | omega)) ⟨.int ys.length, H, I.tok _, ⟨s.toks + 1, by rw [List.size_toArray, hlen]⟩, q⟩
  · obtain ⟨its, r', pl, hz⟩ := I.tuple hq
    have hlen := r'.length
    exact len_tuple pl (by simp only [List.size_toArray] <;> (first | lia | omega)) ⟨.int ys.length, H, I.tok _, ⟨s.toks + 1, by rw [List.size_toArray, hlen]⟩, q⟩
theorem call_len_str : CallR X (.builtin "len") (fun xs H Q => ∃ z, xs = [.str z] ∧ z.length ≤ sizeLine ∧ Q (.int z.length) H) := by
  intro pins s σ H xs us Q I r h
  obtain ⟨z, rfl, hz, q⟩ := h
  obtain ⟨u, rfl, t, rfl⟩ := vals1 r
  have hn := line63
  exact len_str (by (first | lia | omega)) ⟨.int z.length, H, I.tok _, ⟨_, rfl⟩, q⟩
theorem call_tuple_of : CallR X (.type "tuple") (fun xs H Q => ∃ p ys, xs = [.ref p] ∧ ((SqL X.K H p ys ∧ ∀ l, H l = none → Q (.ref l) (upd H l (.tup ys))) ∨ (SqT X.K H p ys ∧ Q (.ref p) H))) := by
  intro pins s σ H xs us Q I r h
  obtain ⟨p, ys, rfl, h⟩ := h
  obtain ⟨u, rfl, rx⟩ := vals1 r
  cases rx
  rcases h with ⟨hq, q⟩ | ⟨hq, q⟩
  · obtain ⟨its, r', pl, hz⟩ := I.list hq
    have hlen := r'.length
    refine call_tuple_list pl.isList (fun h' kp => ?_) (by simp only [List.size_toArray] <;> (first | lia | omega))
    have I1 : Inv X pins σ H { s with heap := h' } := I.kept (t' := s.toks) kp
    have I2 : Inv X pins σ (upd H h'.objs.size (.tup ys)) { s with heap := h'.push { cls := .type "tuple", data := .seq its.toArray } } :=
      I1.laid (t' := s.toks) (fun b o e => Heap.get?_push_of_some _ e) (Nat.le_refl _) (show ObjOk X.prog X.w _ _ _ (.tup ys) from ⟨hz, its, r', IsTup.new _ _⟩)
    exact ⟨.ref h'.objs.size, _, I2, rfl, q _ (I1.hok.fresh (Nat.le_refl _))⟩
  · obtain ⟨its, r', pl, hz⟩ := I.tuple hq
    exact call_tuple_same pl ⟨.ref p, H, I, rfl, q⟩
def tyV (K : PySem.W.Frag) (T : String) (x : V) (H : Hp) : Prop := match x with
  | .str _ => T = "str"
  | .int _ => T = "int"
  | .ref p => (T = "list" ∧ ∃ xs, SqL K H p xs) ∨ (T = "tuple" ∧ ∃ o, K.lookup p = some o ∧ o.cls = .type "tuple" ∧ o.dict = none) ∨
      (T = "dict" ∧ ((∃ kvs, H p = some (.dK kvs)) ∨ ∃ kvs, H p = some (.dT kvs))) ∨ (T = "set" ∧ ∃ S n, H p = some (.set S n))
  | _ => False
theorem tyV_is {pins : List (Addr × Obj)} {σ : St} {H : Hp} {s : Shared} {T : String} {x : V} {v : Value} (I : Inv X pins σ H s) (r : RelV x v) (ty : tyV X.K T x H) :
    s.TypeIs v T ∧ ∀ a, v = .ref a → ∃ ob, s.heap.get? a = some ob ∧ ob.dict = none := by
  cases x with
  | str z =>
    obtain ⟨t, rfl⟩ := r
    cases (show T = "str" from ty)
    exact ⟨typeIs_str s z t, fun _ e => nomatch e⟩
  | int i =>
    obtain ⟨t, rfl⟩ := r
    cases (show T = "int" from ty)
    exact ⟨typeIs_int s i t, fun _ e => nomatch e⟩
  | ref p =>
    cases r
    rcases ty with ⟨rfl, xs, hq⟩ | ⟨rfl, o, hk, hc, hd⟩ | ⟨rfl, hk⟩ | ⟨rfl, S, n, hk⟩
    · obtain ⟨its, _, pl, _⟩ := I.list hq
      refine ⟨pl.isList.typeIs, fun a e => ?_⟩
      cases e
      obtain ⟨o, n, e, c, hd, _⟩ := pl
      exact ⟨o, e, hd⟩
    · refine ⟨⟨o, I.kIn p o hk, hc⟩, fun a e => ?_⟩
      cases e
      exact ⟨o, I.kIn _ o hk, hd⟩
    · have z : ∃ o, s.heap.get? p = some o ∧ o.ExactDict := by
        rcases hk with ⟨kvs, hk⟩ | ⟨kvs, hk⟩
        · obtain ⟨_, _, _, _, o, _, _, e, ex, _⟩ := I.hok p _ hk
          exact ⟨o, e, ex⟩
        · obtain ⟨_, _, _, _, o, _, _, e, ex, _⟩ := I.hok p _ hk
          exact ⟨o, e, ex⟩
      obtain ⟨o, e, ex⟩ := z
      refine ⟨⟨o, e, ex.1⟩, fun a e2 => ?_⟩
      cases e2
      exact ⟨o, e, ex.2.1⟩
    · obtain ⟨o, _, _, _, e, ex, _⟩ := I.hok p _ hk
      refine ⟨⟨o, e, ex.1⟩, fun a e2 => ?_⟩
      cases e2
      exact ⟨o, e, ex.2.1⟩
  | _ => exact False.elim ty
def tBM (K : PySem.W.Frag) (T : String) (r : V → List V → Hp → VK → Prop) (to : TE) (t : TA) : TE := fun σ H Q => to σ H fun x H1 => tyV K T x H1 ∧ t σ H1 fun xs H2 => r x xs H2 Q
variable {o e : Expr} {es : List Expr} {to : TE} {t : TA} {name : Str} {apos cpos : Pos} {T id : String} {r : V → List V → Hp → VK → Prop}
theorem pe_bm (pa : PlainAttrs T) (slot : Slot T name id) (hty : typeOf (.builtin id) = pure (.type "method_descriptor")) (hm : MtR X id r) (ho : PE X o to) (ha : PA X (e :: es) t)
    (hbase : attributeBase o name X.env (eval o X.env) = eval o X.env := by rfl)
    (hfew : ((backTo cpos (starEach (e :: es) X.env)).all (fun x => !x.1) && (backToKw cpos (keywordEach [] X.env)).all (fun x => x.1.isSome)
      && decide ((e :: es).length + ([] : List Keyword).length + (if ([] : List Keyword).isEmpty then 0 else 1) < 30)) = true := by rfl)
    (hline : (apos.endLine == cpos.line) = true := by rfl) (hs : starEach (e :: es) X.env = (false, eval e X.env) :: starEach es X.env := by rfl) (hplain : (backTo cpos (starEach es X.env)).any (·.1) = false := by rfl) :
    PE X (.Call (.Attribute o name apos) (e :: es) [] cpos) (tBM X.K T r to t) := by
  intro pins s σ H Q I h
  refine wpAny_Call_method_late hbase hfew hline rfl (thn (ho pins s σ H _ I h) fun v s1 ⟨x, H1, I1, r1, ty, q1⟩ => ?_)
  obtain ⟨h1, h2⟩ := tyV_is I1 r1 ty
  refine ⟨T, id, pa, slot, hty, h1, h2, ?_⟩
  have hA := ha cpos pins s1 σ H1 _ I1 q1
  rw [hs] at hA ⊢
  refine Calls.callWith_builtin (by show (false || (backTo cpos (starEach es X.env)).any (·.1)) = false; rw [hplain] <;> rfl) (Calls.evalArgs_plain ?_)
  exact thn hA fun us s2 ⟨vs, H2, I2, r2, q2⟩ => hm pins s2 σ H2 x vs v us Q I2 r1 r2 q2
end
end L2
namespace L2
open PySem PySem.Spec PyProof.Rows
def MtM (X : Cx) (id : String) (r : V → List V → Hp → VK → Prop) : Prop :=
  ∀ (pins : List (Addr × Obj)) (s : Shared) (σ : St) (H : Hp) (x : V) (xs : List V) (v : Value) (us : List Value) (Q : VK), Inv X pins σ H s → RelV x v → Vals xs us → r x xs H Q →
    wpAny (model X.prog X.w) X.A (call (.builtin id) (v :: us)) (EP X pins σ Q) X.xe s
theorem Vals.one : ∀ {x : V} {us : List Value}, Vals [x] us → ∃ u, us = [u] ∧ RelV x u
  | _, _, .cons r .nil => ⟨_, rfl, r⟩
theorem Vals.rep {xs : List V} {us : List Value} (h : Vals xs us) : ∀ k : Nat, Vals (List.replicate k xs).flatten (List.replicate k us).flatten
  | 0 => .nil
  | k + 1 => by
    rw [List.replicate_succ, List.replicate_succ, List.flatten_cons, List.flatten_cons]
    exact Vals.append h (Vals.rep h k)
theorem foldl_rep (its : List Value) : ∀ (k : Nat) (acc : List Value),
    List.foldl (fun x1 x2 => x1 ++ x2) acc.toArray (List.replicate k its.toArray) = (acc ++ (List.replicate k its).flatten).toArray
  | 0, acc => by simp
  | k + 1, acc => by
    have e : acc.toArray ++ its.toArray = (acc ++ its).toArray := by simp
    have e2 : (acc ++ its) ++ (List.replicate k its).flatten = acc ++ (List.replicate (k + 1) its).flatten := by
      rw [List.replicate_succ, List.flatten_cons, List.append_assoc]
    rw [← e2, ← foldl_rep its k (acc ++ its), ← e, List.replicate_succ, List.foldl_cons]
section
variable {X : Cx} {pins : List (Addr × Obj)} {σ : St} {H : Hp} {s : Shared} {l b : Addr} {xs ys zs : List V}
theorem Inv.lset {its its' : List Value} {n : Nat} {f : Array Value → Array Value} {t' : Nat} (I : Inv X pins σ H s) (hH : H l = some (.lst xs))
    (e : s.heap.get? l = some { cls := .type "list", data := .seq its.toArray n }) (hf : f its.toArray = its'.toArray) (hv : Vals ys its') (hz : ys.length ≤ sizeLine) :
    Inv X pins σ (upd H l (.lst ys)) { s with heap := s.heap.update l (Obj.mapSeq f), toks := t' } := by
  have q := PySem.IsL.update e f
  rw [hf] at q
  refine I.write (x := l) (e := l) (by rw [hH]; exact trivial) (.inl rfl) (fun b' u hb hu => (Heap.get?_update_other s.heap (Obj.mapSeq f) (Ne.symm hb)).trans hu) ⟨_, q⟩ ?_
  exact ⟨hz, its', _, hv, q⟩
theorem Inv.lnew {its : List Value} {t' : Nat} (I : Inv X pins σ H s) (hv : Vals ys its) (hz : ys.length ≤ sizeLine) :
    Inv X pins σ (upd H s.heap.objs.size (.lst ys)) { s with heap := s.heap.push { cls := .type "list", data := .seq its.toArray }, toks := t' } :=
  I.laid (fun _ _ q => Heap.get?_push_of_some _ q) (Nat.le_refl _) ⟨hz, its, 0, hv, Heap.get?_push_size _ rfl⟩
theorem Inv.fresh (I : Inv X pins σ H s) : H s.heap.objs.size = none := I.hok.fresh (Nat.le_refl _)
theorem Inv.lstM (I : Inv X pins σ H s) (hH : H l = some (.lst xs)) : xs.length ≤ sizeLine ∧ ∃ (its : List Value) (n : Nat), Vals xs its ∧ xs.length = its.length ∧ s.heap.get? l = some { cls := .type "list", data := .seq its.toArray n } := by
  obtain ⟨z, its, n, r, e⟩ := I.hok l _ hH
  exact ⟨z, its, n, r, r.length, e⟩
theorem notLongL {n : Nat} (h : n ≤ sizeLine) : Builtin.List.listTooLong n = false := by
  unfold Builtin.List.listTooLong
  exact decide_eq_false (by (first | lia | omega))
end
section
variable {X : Cx}
def rAppend : V → List V → Hp → VK → Prop := fun x vs H Q => ∃ l xs y, x = .ref l ∧ vs = [y] ∧ H l = some (.lst xs) ∧ xs.length < sizeLine ∧ Q .non (upd H l (.lst (xs ++ [y])))
theorem mt_append : MtM X "list.append" rAppend := by
  intro pins s σ H x vs v us Q I rx rv h
  obtain ⟨l, xs, y, rfl, rfl, hH, hz, q⟩ := h
  cases rx
  obtain ⟨u, rfl, ru⟩ := rv.one
  obtain ⟨z, its, n, r, hl, e⟩ := I.lstM hH
  refine call_meets F.slot_list_append ⟨_, e, rfl⟩ F.entry_list_append (F.args_list_append_2 _ _) (PySem.list_append l its.toArray n u (by rw [List.size_toArray]; (first | lia | omega))) ⟨e, ?_⟩
  refine ⟨.non, _, I.lset (its' := its ++ [u]) hH e (by simp) (r.append (.cons ru .nil)) ?_, rfl, q⟩
  rw [List.length_append, List.length_singleton]
  (first | lia | omega)
def rExtend : V → List V → Hp → VK → Prop := fun x vs H Q => ∃ l b xs zs, x = .ref l ∧ vs = [.ref b] ∧ H l = some (.lst xs) ∧ H b = some (.lst zs) ∧ xs.length + zs.length ≤ sizeLine ∧ Q .non (upd H l (.lst (xs ++ zs)))
theorem mt_extend : MtM X "list.extend" rExtend := by
  intro pins s σ H x vs v us Q I rx rv h
  obtain ⟨l, b, xs, zs, rfl, rfl, hH, hB, hz, q⟩ := h
  cases rx
  obtain ⟨u, rfl, ru⟩ := rv.one
  cases ru
  obtain ⟨z, its, n, r, hl, e⟩ := I.lstM hH
  obtain ⟨z2, its2, n2, r2, hl2, e2⟩ := I.lstM hB
  have hsz : its.toArray.size + its2.toArray.size ≤ sizeLine := by rw [List.size_toArray, List.size_toArray]; (first | lia | omega)
  have hlong : ¬ (!its.toArray.isEmpty && Builtin.List.listTooLong (its.toArray.size + its2.toArray.size)) = true := by
    rw [notLongL hsz, Bool.and_false]
    exact Bool.false_ne_true
  refine call_meets F.slot_list_extend ⟨_, e, rfl⟩ F.entry_list_extend (F.args_list_extend_2 _ _)
    (AutoSeq1.list_extend_list_list_0 l its.toArray n b its2.toArray n2 hlong (by rw [List.size_toArray]; (first | lia | omega)) (by (first | lia | omega))) ⟨e, e2, ?_⟩
  refine ⟨.non, _, I.lset (its' := its ++ its2) hH e (by simp) (r.append r2) ?_, rfl, q⟩
  rw [List.length_append]
  (first | lia | omega)
def rCat : R2 := fun x y H Q => ∃ l b xs zs, x = .ref l ∧ y = .ref b ∧ H l = some (.lst xs) ∧ H b = some (.lst zs) ∧ xs.length + zs.length ≤ sizeLine ∧ ∀ p, H p = none → Q (.ref p) (upd H p (.lst (xs ++ zs)))
theorem op_cat : OpR X (binaryOp .Add) rCat := by
  intro pins s σ H x y v u Q I rx ry h
  obtain ⟨l, b, xs, zs, rfl, rfl, hH, hB, hz, q⟩ := h
  cases rx
  cases ry
  obtain ⟨z, its, n, r, hl, e⟩ := I.lstM hH
  obtain ⟨z2, its2, n2, r2, hl2, e2⟩ := I.lstM hB
  refine PySem.P.add_list e e2 ?_ (by rw [List.size_toArray, List.size_toArray]; (first | lia | omega))
  have ea : its.toArray ++ its2.toArray = (its ++ its2).toArray := by simp
  rw [ea]
  exact ⟨.ref _, _, I.lnew (t' := s.toks) (r.append r2) (by rw [List.length_append]; (first | lia | omega)), rfl, q _ I.fresh⟩
def rRep : R2 := fun x y H Q => ∃ l k xs, x = .ref l ∧ y = .int k ∧ H l = some (.lst xs) ∧ -(2 ^ 63) ≤ k ∧ k < 2 ^ 63 ∧ xs.length * k.toNat ≤ sizeLine ∧
  ∀ p, H p = none → Q (.ref p) (upd H p (.lst (List.replicate k.toNat xs).flatten))
theorem len_rep {α : Type} (xs : List α) (k : Nat) : (List.replicate k xs).flatten.length = k * xs.length := by
  induction k with
  | zero => simp
  | succ k ih => rw [List.replicate_succ, List.flatten_cons, List.length_append, ih, Nat.succ_mul, Nat.add_comm]
theorem op_rep : OpR X (binaryOp .Mult) rRep := by
  intro pins s σ H x y v u Q I rx ry h
  obtain ⟨l, k, xs, rfl, rfl, hH, h1, h2, hz, q⟩ := h
  cases rx
  obtain ⟨t, rfl⟩ := ry
  obtain ⟨z, its, n, r, hl, e⟩ := I.lstM hH
  have hlen : its.toArray.size * k.toNat ≤ sizeLine := by rw [List.size_toArray, ← hl]; exact hz
  have hcap : ¬ its.toArray.size * k.toNat > (2 ^ 63 - 1) / 8 := by
    have : (sizeLine : Nat) ≤ (2 ^ 63 - 1) / 8 := by decide
    (first | lia | omega)
  have hfit : ¬ (!Builtin.List.listFitsIndex k) = true := by
    rw [fitsIndex_both h1 h2]
    exact Bool.false_ne_true
  have hlong : ¬ Builtin.List.listTooLong (its.toArray.size * k.toNat) = true := by
    rw [notLongL hlen]
    exact Bool.false_ne_true
  have hnew : List.foldl (fun x1 x2 => x1 ++ x2) #[] (List.replicate (if its.toArray.isEmpty = true then 0 else k.toNat) its.toArray) = (List.replicate k.toNat its).flatten.toArray := by
    have f0 : ∀ m : Nat, List.foldl (fun x1 x2 => x1 ++ x2) #[] (List.replicate m its.toArray) = (List.replicate m its).flatten.toArray := fun m => by
      have := foldl_rep its m []
      rw [List.nil_append] at this
      exact this
    rw [f0]
    cases its with
    | nil => simp
    | cons a r' => rw [if_neg (by simp)]
  refine wpAny_binaryOp_repeat_ref (T := "list") (U := "int") (by decide) ⟨_, e, rfl⟩ (fun s' => typeIs_int s' k t) noFill_list_mul F.fills_int_mul F.slot_int_rmul repeat_list F.slot_int_index.lookup
    (call_meets F.slot_int_rmul (typeIs_int s k t) F.entry_int_rmul (F.args_int_rmul_2 _ _) (int___rmul___int_list k t l its.toArray n)
      ⟨e, rfl, ⟨_, e, rfl⟩, call_meets F.slot_list_mul ⟨_, e, rfl⟩ F.entry_list_mul (F.args_list_mul_2 _ _) (AutoListH.list___mul___list_int_3 l its.toArray n k t hfit hcap hlong) ⟨e, ?_⟩⟩)
  rw [hnew]
  exact ⟨.ref _, _, I.lnew (t' := s.toks) (r.rep k.toNat) (by rw [len_rep, Nat.mul_comm]; exact hz), rfl, q _ I.fresh⟩
end
section
variable {prog : Program} {w : World} {A : Around} {E : Value → Shared → Prop} {s : Shared}
end
section
variable {X : Cx}
end
end L2
namespace Att
open PySem PySem.W PySem.Calls PyProof.Rows
theorem ints_of_wellAll {P : Params} {h : Heap} : ∀ (ns : List Int) (vs : List Value), WellAll P h vs (ns.map WData.int) → IntsAre vs ns := by
  intro ns
  induction ns with
  | nil =>
    intro vs w
    rw [List.map_nil] at w
    cases w
    exact .nil
  | cons n ns ih =>
    intro vs w
    rw [List.map_cons] at w
    cases w with
    | cons a b =>
      cases a
      exact .cons _ _ (ih _ b)
theorem script_of {l : OpenLaw} {n : Nat} (hn : l.most = some n) {P : Params} {h : Heap} {args : List WData} {vals : List Value}
    (hpre : l.row.toRowW.claim.pre args = true) (hwl : WellAll P h vals args) :
    ∃ a vs ns, vals = [Value.ref a] ∧ args = [WData.list (ns.map WData.int)] ∧ h.get? a = some { cls := .type "list", data := .seq vs.toArray } ∧ IntsAre vs ns ∧ ns.length ≤ n := by
  have hsh : WShape.hasAll [] args [.list .int] = true := (pre_splitW hpre).1
  have hc : l.pre.holds [] { args := args } = true := (pre_splitW hpre).2
  obtain ⟨d, r, rfl, h1, h2⟩ := hasAllW_cons hsh
  obtain rfl := hasAllW_nil h2
  obtain ⟨xs, rfl, h3⟩ := hasW_list h1
  obtain ⟨ns, rfl⟩ := items_int h3
  have hlen : ns.length ≤ n := by
    unfold OpenLaw.pre at hc
    have h4 : (WTm.not (.lt (.lit (.int (n : Int))) (.len (.arg 0)))).holds [] { args := [.list (ns.map .int)] } = true := by
      have h4 := (holds_andW hc).1
      rw [hn] at h4
      exact h4
    have h5 := condW_of h4 (w_not (w_lt w_lit (w_len_list (w_arg rfl))))
    rw [List.length_map] at h5
    refine Nat.le_of_not_lt fun q => ?_
    have q' : (n : Int) < ((ns.length : Nat) : Int) := by (first | lia | omega)
    first
      | (rw [decide_eq_true q'] at h5; exact absurd h5 (by decide))
      | (simp at h5; (first | lia | omega))
  cases hwl with
  | cons w1 w2 =>
    cases w2
    cases w1 with
    | list ho hall => exact ⟨_, _, ns, rfl, rfl, ho, ints_of_wellAll ns _ hall, hlen⟩
theorem post_true (l : OpenLaw) (args : List WData) : l.row.toRowW.claim.post args (.bool true) args = true :=
  postW_of (r := l.row.toRowW) (X := (true == true))
    (show WShape.has [] (.bool true) .bool = true by first | rfl | decide | simp [WShape.has, WShape.arms, WShape.armsAll])
    (show (WTm.eq .res (.lit (.bool true))).value [] { args := args, res := some (.bool true), after := args } = some (.bool (true == true)) from w_eq_bool (w_res rfl) w_lit) rfl
theorem attach_call {l : OpenLaw} {n : Nat} {q : Program} {loose : List Str} {XP : (Str → Option Value) → Heap → Prop} {YP : World → Heap → Prop} {d : DefRec}
    (hn : l.most = some n) (hdf : d.params.defaults = [])
    (call : ∀ (w : World) (s₀ s₁ : Shared) (mg mb : Str → Option Value) (fa : Addr) (o : Obj) (pm cd doc : Value) (a : Addr) (vs : List Value) (ns : List Int),
      Ground q loose [] XP w s₀ mg mb s₁.heap → YP w s₁.heap →
      s₁.heap.get? fa = some o → o.data = .func (docDef d.name d.params d.body d.scope pm cd doc) → s₁.heap.CodeRec cd d.name → mg d.name = some (.ref fa) →
      s₁.heap.get? a = some { cls := .type "list", data := .seq vs.toArray } → IntsAre vs ns → ns.length ≤ n → s₁.gens = #[] →
      codeAny (model l.prog w) callerA (.call (.ref fa) ⟨[.ref a], []⟩) (fun r s' => r = .ok (.ret (.bool true)) ∧ OldK s₁.heap s'.heap ∧ s'.os = s₁.os ∧ AllBare s'.gens) s₁) :
    WalkO q loose XP YP l.row.toRowW d [] (fun f vs => PySem.call f vs) := by
  intro w s₀ s₁ mg mb G Y fa o pm cd doc dV kV ho hd hcd hD hmg hg args vals as hpre hlay hrd hwl hlo
  obtain rfl : dV = .none := Dflts.none hD hdf
  obtain rfl : kV = .none := Dflts.noKw hD
  obtain ⟨a, vs, ns, rfl, rfl, hobj, hints, hlen⟩ := script_of hn hpre hwl
  refine enter_call (codeAny_mono (call w s₀ s₁ mg mb fa o pm cd doc a vs ns G Y ho (fd_plain hd) hcd hmg hobj hints hlen hg) fun r s' hq => ?_)
  obtain ⟨rfl, h2, h3, h4⟩ := hq
  exact ⟨.inl ⟨.bool true, .bool true, [], rfl, fun _ => rfl, .bool true, post_true l _, fun _ => ⟨List.Pairwise.nil, fun _ hm => (nomatch hm)⟩⟩, h2, h3, h4⟩
section
variable {prog : Program} {w : World} {A : Around} {E : Value → Shared → Prop} {s : Shared} {K : Frag}
end
end Att
namespace L2
open PySem PySem.Spec PyProof.Rows
theorem vals_ints : ∀ {vs : List Value} {ns : List Int}, IntsAre vs ns → Vals (ns.map V.int) vs
  | _, _, .nil => .nil
  | _, _, .cons n t h => .cons ⟨t, rfl⟩ (vals_ints h)
def Only (H : Hp) : Prop := ∀ b, H b = none ∨ ∃ o xs, H b = some (.frz o (.lst xs))
end L2
namespace L2
open PySem PySem.Spec PyProof.Rows
end L2
namespace L2
open PySem PySem.Spec PyProof.Rows
def defArgs (s : Stmt) : Arguments := match s with
  | .FunctionDef _ a _ _ _ _ _ _ _ _ => a
  | _ => { posonlyargs := [], args := [], vararg := none, kwonlyargs := [], kw_defaults := [], kwarg := none, defaults := [] }
def defBody (s : Stmt) : List Stmt := match s with
  | .FunctionDef _ _ b _ _ _ _ _ _ _ => b
  | _ => []
def defScope (s : Stmt) : Scope := match s with
  | .FunctionDef _ _ _ _ _ _ sc _ _ _ => sc
  | _ => { kind := .function, names := [], isGenerator := false, isCoroutine := false }
abbrev CX0 : CXT := fun _ _ _ _ _ _ => False
abbrev E0 : XK := fun _ _ _ => False
theorem pass0 {X : Cx} : Passes CX0 X E0 := fun _ _ _ _ _ _ _ h => h.elim
structure Fun (K : PySem.W.Frag) (x qual : Str) (st : Stmt) (f : Addr) (fd : FuncData) : Prop where
  ex : ∃ (oc : Value) (od : Option Addr) (kV doc pm : Value) (an : Option Addr) (cdv ct : Value) (osl : Array (Option Value)),
    fd = PySem.W.fnOf x qual (defArgs st) (defBody st) (defScope st) .none kV doc pm an cdv ct ∧ K.lookup f = some ⟨oc, od, .func fd, osl⟩ ∧ PySem.W.codeIn K cdv qual = true
  kp : PySem.W.keepIn K (.ref f) = true
section
variable {P : Program} {w : World} {K : PySem.W.Frag} {mg : Str → Option Value} {base : Heap}
theorem Fun.ok {x qual : Str} {st : Stmt} {f : Addr} {fd : FuncData} {N ps : List Str} {k : Nat} {sp : Sp} (F : Fun K x qual st f fd) (S : FnScope N ps (defScope st)) (len : ∀ vs H Q E, sp vs H Q E → vs.length = ps.length)
    (hbody : ∀ (cdv : Value) (A : Around) (outer : List Env) (s : Shared) (H : Hp) (vs : List V) (Q : VK) (E : XK), Room k (A.deeper (envOfC qual (defScope st) s.heap.objs.size f cdv)) → sp vs H Q E →
      ∃ t, PSs (cxOf CX0 P w K mg base N qual (defScope st) f cdv A outer s H E).nox (defBody st) t ∧ t { nx := fun _ H' => Q .non H', rt := Q } (start N vs) H) : FnOk P w K mg base CX0 (k + 1) f fd ps sp := by
  obtain ⟨oc, od, kV, doc, pm, an, cdv, ct, osl, rfl, lk, hcd⟩ := F.ex
  refine fn_of lk hcd S len fun A outer s H vs Q E hr hsp => ?_
  obtain ⟨t, h, q⟩ := hbody cdv A outer s H vs Q E hr hsp
  exact ⟨t, h.nox, q⟩
theorem Fun.binds {x qual : Str} {st : Stmt} {f : Addr} {fd : FuncData} {ps : List Str} (F : Fun K x qual st f fd)
    (h : ∀ (kV doc pm : Value) (an : Option Addr) (cdv ct : Value) (us : List Value), us.length = ps.length → bindArgs (PySem.W.fnOf x qual (defArgs st) (defBody st) (defScope st) .none kV doc pm an cdv ct) ⟨us, []⟩ = pure (ps.zip us)) : Binds K fd ps [] := by
  obtain ⟨oc, od, kV, doc, pm, an, cdv, ct, osl, rfl, lk, hcd⟩ := F.ex
  exact .all (h kV doc pm an cdv ct)
theorem fun_mk {x qual : Str} {st : Stmt} {f : Addr} {oc : Value} {od an : Option Addr} {osl : Array (Option Value)} {kV doc pm cdv ct : Value} (l : K.lookup f = some ⟨oc, od, .func (PySem.W.fnOf x qual (defArgs st) (defBody st) (defScope st) .none kV doc pm an cdv ct), osl⟩)
    (c : PySem.W.codeIn K cdv qual = true) (k : PySem.W.keepIn K (.ref f) = true) : Fun K x qual st f (PySem.W.fnOf x qual (defArgs st) (defBody st) (defScope st) .none kV doc pm an cdv ct) := ⟨⟨oc, od, kV, doc, pm, an, cdv, ct, osl, rfl, l, c⟩, k⟩
end
theorem hu_of {A : Around} {k : Nat} (hr : Room k A) : A.units + 1 < cLine := Nat.lt_of_le_of_lt (Nat.add_le_add_left (by decide : 1 ≤ 64) _) hr.units
theorem small1000 {n : Nat} (h : n ≤ 1000) : n < sizeLine := Nat.lt_of_le_of_lt h (by decide)
section
variable {X : Cx}
theorem pv (i : Nat) {x : Str} {pos : Pos} (hN : X.N[i]? = some x := by rfl) (hv : Vis X.env.scope x := by first | exact Or.inl rfl | exact Or.inr (Or.inl rfl) | exact Or.inr (Or.inr rfl)) (hd : (x == ("__debug__" : Str)) = false := by decide)
    (hcd : (x == ("__classdict__" : Str)) = false := by decide) : PE X (.Name x pos) (tVar i) := pe_var hN hv hd hcd
end
theorem iteF {A B : Prop} (h : B) : if false = true then A else B := by
  rw [if_neg Bool.false_ne_true]
  exact h
theorem iteT {A B : Prop} (h : A) : if true = true then A else B := by
  rw [if_pos rfl]
  exact h
theorem ite2 {c A B : Prop} [Decidable c] (h1 : c → A) (h2 : ¬ c → B) : if c then A else B := by
  by_cases h : c
  · rw [if_pos h]
    exact h1 h
  · rw [if_neg h]
    exact h2 h
def Same (H H' : Hp) : Prop := ∀ b o, H b = some o → H' b = some o
theorem Same.refl (H : Hp) : Same H H := fun _ _ h => h
theorem Same.trans {H H1 H2 : Hp} (a : Same H H1) (b : Same H1 H2) : Same H H2 := fun c o h => b c o (a c o h)
theorem Same.seq {K : PySem.W.Frag} {H H' : Hp} {a : Addr} {xs : List V} (e : Same H H') (h : SqL K H a xs) : SqL K H' a xs := by
  rcases h with (h | ⟨o, h⟩) | h
  · exact .inl (.inl (e _ _ h))
  · exact .inl (.inr ⟨o, e _ _ h⟩)
  · exact .inr h
end L2
set_option Elab.async false
set_option linter.all false
set_option maxRecDepth 100000
namespace L2
open PySem PySem.Spec PyProof.Rows
section
variable {κ : Type} [DecidableEq κ]
end
section
variable {P : Program} {w : World} {H : Hp} {h : Heap} {a : Addr}
theorem rd_of {u : HO} (ok : HOk P w H h) (e : Rd H a u) : ObjOk P w H h a u := e.ok ok
theorem dk_rd {kvs : List (Key × V)} (ok : HOk P w H h) (e : Rd H a (.dK kvs)) : kvs.length ≤ sizeLine ∧ (a == sysModules) = false ∧ ∃ vs, KV kvs vs ∧ h.DictOf (mixKind P w) a vs :=
  show ObjOk P w H h a (.dK kvs) from rd_of ok e
theorem dk_of {kvs : List (Key × V)} (ok : HOk P w H h) (e : H a = some (.dK kvs)) : kvs.length ≤ sizeLine ∧ (a == sysModules) = false ∧ ∃ vs, KV kvs vs ∧ h.DictOf (mixKind P w) a vs := dk_rd ok (.inl e)
end
section
variable {X : Cx} {pins : List (Addr × Obj)} {σ : St} {H : Hp} {s : Shared} {a : Addr} {y v : V} {u r : Value} {o : Option V} {A : Around} {E : Value → Shared → Prop}
theorem Inv.big (I : Inv X pins σ H s) : sysModules < s.heap.objs.size := by
  have h : mainGlobals < s.heap.objs.size := (I.mod.glob.keeps I.bk).lt
  exact Nat.lt_trans (by decide) h
theorem dk_new {P : Program} {w : World} {H' : Hp} {h' : Heap} {kvs : List (Key × V)} {vs : List (Key × Value)} (z : kvs.length ≤ sizeLine) (hd : (a == sysModules) = false) (rel : KV kvs vs) (dd : h'.DictOf (mixKind P w) a vs) :
    ObjOk P w H' h' a (.dK kvs) := ⟨z, hd, vs, rel, dd⟩
end
section
variable {X : Cx} {pins : List (Addr × Obj)} {σ : St} {H : Hp} {s : Shared} {a : Addr} {kvs : List (Key × V)} {k : Key} {u : Value} {A : Around} {E : Value → Shared → Prop}
end
section
variable {X : Cx} {o i e value : Expr} {pos pos' tpos : Pos} {td ty tv : TE}
end
theorem dk_empty {P : Program} {w : World} {H : Hp} (h : Heap) (hb : sysModules < h.objs.size) : ObjOk P w H (h.push { cls := .type "dict", data := .dict #[] }) h.objs.size (.dK []) :=
  ⟨Nat.zero_le _, beq_eq_false_iff_ne.mpr (Ne.symm (Nat.ne_of_lt hb)), [], .nil, Heap.DictOf.new h⟩
def tDNewK : TE := fun _ H Q => ∀ p, H p = none → Q (.ref p) (upd H p (.dK []))
section
variable {X : Cx} {pos : Pos}
theorem pe_dnewK : PE X (.Dict [] [] pos) tDNewK := fun pins s σ H Q I h =>
  wpAny_Dict_empty ⟨.ref s.heap.objs.size, _, I.laid (a := s.heap.objs.size) (o := .dK []) (t' := s.toks) (fun _ _ q => Heap.get?_push_of_some _ q) (Nat.le_refl _) (dk_empty s.heap I.big), rfl, h _ (I.hok.fresh (Nat.le_refl _))⟩
end
section
variable {X : Cx} {pins : List (Addr × Obj)} {σ : St} {H : Hp} {s : Shared} {a : Addr} {y d : V} {u r : Value} {o : Option V} {A : Around} {E : Value → Shared → Prop}
end
section
variable {X : Cx} {o e f : Expr} {apos cpos : Pos} {td ty tx : TE}
end
section
variable {X : Cx} {pins : List (Addr × Obj)} {σ : St} {H : Hp} {s : Shared} {a : Addr} {kvs : List (Key × V)} {A : Around} {E : Value → Shared → Prop}
end
section
variable {X : Cx} {pins : List (Addr × Obj)} {σ : St} {H : Hp} {s : Shared} {a : Addr} {y : V} {u : Value} {A : Around} {E : Value → Shared → Prop}
end
end L2
set_option Elab.async false
set_option maxHeartbeats 4000000
namespace L2
open PySem PySem.Spec PyProof.Rows
def clOf (env : Env) : List (Str × NameKind) → List (Str × Addr) → List (Str × Addr)
  | [], cs => cs
  | (n, k) :: r, cs => clOf env r (if k = .free then (n, (env.cells.lookup n).getD 0) :: cs else cs)
theorem clOf_eq {env : Env} : ∀ (ns : List (Str × NameKind)) (cs : List (Str × Addr)), (∀ x ∈ ns, x.2 = .free → ∃ c, env.cells.lookup x.1 = some c) →
    (forIn (m := Sem) ns cs fun (x : Str × NameKind) (r : List (Str × Addr)) => (if (x.2 == .free) = true then (do let a ← cellOf env x.1; pure (ForInStep.yield ((x.1, a) :: r))) else pure (ForInStep.yield r))) = pure (clOf env ns cs)
  | [], cs, _ => by simp [clOf]
  | (n, k) :: r, cs, h => by
    have ih := fun cs => clOf_eq r cs fun x hx => h x (List.mem_cons_of_mem _ hx)
    rw [List.forIn_cons]
    by_cases hk : k = .free
    · subst hk
      obtain ⟨c, hc⟩ := h (n, .free) List.mem_cons_self rfl
      have e1 : cellOf env n = pure c := by unfold cellOf; rw [hc]
      have hb : (NameKind.free == NameKind.free) = true := rfl
      simp only [hb, if_true, e1, pure_bind, clOf, hc, Option.getD_some]
      exact ih _
    · have hb : (k == NameKind.free) = false := by simpa using hk
      simp only [hb, Bool.false_eq_true, if_false, pure_bind, clOf, if_neg hk]
      exact ih _
theorem clOf_get {env : Env} : ∀ (ns : List (Str × NameKind)) (cs : List (Str × Addr)) (x : Str) (c : Addr), (∀ x ∈ ns, x.2 = .free → ∃ c, env.cells.lookup x.1 = some c) → (clOf env ns cs).lookup x = some c → cs.lookup x = some c ∨ env.cells.lookup x = some c
  | [], cs, x, c, _, e => .inl e
  | (n, k) :: r, cs, x, c, h, e => by
    have ih := clOf_get r (if k = .free then (n, (env.cells.lookup n).getD 0) :: cs else cs) x c (fun x hx => h x (List.mem_cons_of_mem _ hx)) e
    rcases ih with ih | ih
    · by_cases hk : k = .free
      · subst hk
        rw [if_pos rfl] at ih
        obtain ⟨d, hd⟩ := h (n, .free) List.mem_cons_self rfl
        have hd' : env.cells.lookup n = some d := hd
        rw [hd'] at ih
        rw [List.lookup_cons] at ih
        cases hx : x == n with
        | true =>
          rw [hx] at ih
          have : x = n := by simpa using hx
          subst this
          right
          rw [hd']
          exact ih
        | false =>
          rw [hx] at ih
          exact .inl ih
      · rw [if_neg hk] at ih
        exact .inl ih
    · exact .inr ih
theorem clOf_keep {env : Env} : ∀ (ns : List (Str × NameKind)) (cs : List (Str × Addr)) (x : Str), (∃ c, cs.lookup x = some c) → ∃ c, (clOf env ns cs).lookup x = some c
  | [], _, _, h => h
  | (n, k) :: r, cs, x, h => by
    refine clOf_keep r _ x ?_
    split
    · rw [List.lookup_cons]
      split
      · exact ⟨_, rfl⟩
      · exact h
    · exact h
theorem clOf_has {env : Env} : ∀ (ns : List (Str × NameKind)) (cs : List (Str × Addr)) (x : Str), (x, NameKind.free) ∈ ns → ∃ c, (clOf env ns cs).lookup x = some c
  | [], _, _, h => nomatch h
  | (n, k) :: r, cs, x, h => by
    rcases List.mem_cons.mp h with e | h
    · cases e
      refine clOf_keep r _ _ ⟨(env.cells.lookup n).getD 0, ?_⟩
      rw [if_pos rfl, List.lookup_cons, beq_self_eq_true]
    · exact clOf_has r _ x h
theorem closure_of {scope : Scope} {env : Env} (h : ∀ x ∈ scope.names, x.2 = .free → ∃ c, env.cells.lookup x.1 = some c) : closureFor scope env = pure (clOf env scope.names []) := by
  have e := clOf_eq scope.names [] h
  unfold closureFor
  simp only [] at e ⊢
  rw [e]
  rfl
theorem relabel_get {scope : Scope} {env : Env} {x : Str} {k : NameKind} : (relabel scope env).names.lookup x = some k → ∃ k', (x, k') ∈ scope.names ∧ (k = k' ∨ (k' = .free ∧ k = .cell)) := by
  intro h
  have all : ∀ (ns : List (Str × NameKind)), (ns.map fun (n, k) => if (k == NameKind.free && env.scope.kind == .function && env.kindOf n == some .cell) then (n, NameKind.cell) else (n, k)).lookup x = some k → ∃ k', (x, k') ∈ ns ∧ (k = k' ∨ (k' = .free ∧ k = .cell)) := by
    intro ns
    induction ns with
    | nil => intro h; simp at h
    | cons y r ih =>
      obtain ⟨n, k'⟩ := y
      intro h
      rw [List.map_cons, List.lookup_cons] at h
      by_cases hc : (k' == NameKind.free && env.scope.kind == .function && env.kindOf n == some .cell) = true
      · simp only [hc, if_true] at h
        cases hx : x == n with
        | true =>
          rw [hx] at h
          have e : x = n := by simpa using hx
          subst e
          have hk : k' = .free := by
            simp only [Bool.and_eq_true] at hc
            simpa using hc.1.1
          exact ⟨k', List.mem_cons_self, .inr ⟨hk, (Option.some.inj h).symm⟩⟩
        | false =>
          rw [hx] at h
          obtain ⟨k2, h1, h2⟩ := ih h
          exact ⟨k2, List.mem_cons_of_mem _ h1, h2⟩
      · simp only [hc, Bool.false_eq_true, if_false] at h
        cases hx : x == n with
        | true =>
          rw [hx] at h
          have e : x = n := by simpa using hx
          subst e
          exact ⟨k', List.mem_cons_self, .inl (Option.some.inj h).symm⟩
        | false =>
          rw [hx] at h
          obtain ⟨k2, h1, h2⟩ := ih h
          exact ⟨k2, List.mem_cons_of_mem _ h1, h2⟩
  exact all scope.names h
def Cx.comp (X : Cx) (scope : Scope) (N' : List Str) (C : Addr) (fp : List Addr) (s₀ : Shared) (H₀ : Hp) : Cx :=
  { X with N := N', s₀ := s₀, H₀ := H₀, env := compEnvC scope (clOf X.env scope.names []) C X.env, outer := X.stack, stack := X.stack, ex := fp, fn := fun _ => false, pn := [], xe := fun _ _ => False }
structure CompScope (X : Cx) (scope : Scope) : Prop where
  kind : scope.kind = .function
  nocell : ∀ x ∈ scope.names, x.2 ≠ .cell
  loc : ∀ x ∈ scope.names, x.2 = .local → scope.names.lookup x.1 = some .local
  free : ∀ x ∈ scope.names, x.2 = .free → X.env.kindOf x.1 = some .cell
section
variable {X : Cx} {pins : List (Addr × Obj)} {σ : St} {H : Hp} {s : Shared} {scope : Scope} {N' : List Str} {fp : List Addr}
theorem CompScope.cells (S : CompScope X scope) (ok : X.Ok) : ∀ x ∈ scope.names, x.2 = .free → ∃ c, X.env.cells.lookup x.1 = some c := fun x hx hk => ok.has x.1 (.inl (S.free x hx hk))
theorem CompScope.sub (S : CompScope X scope) (ok : X.Ok) {x : Str} {c : Addr} (e : (clOf X.env scope.names []).lookup x = some c) : X.env.cells.lookup x = some c := by
  rcases clOf_get scope.names [] x c (S.cells ok) e with h | h
  · cases h
  · exact h
theorem CompScope.ok (S : CompScope X scope) (I : Inv X pins σ H s) (hf : ∀ b ∈ fp, FpOk X pins H b) (ho : ∀ b ∈ fp, b < s.heap.objs.size) : (X.comp scope N' s.heap.objs.size fp s H).Ok where
  mod := I.ok.mod
  kind := S.kind
  glob := I.ok.glob
  blt := I.ok.blt
  above := Nat.le_refl _
  inj := fun x y c e1 e2 => I.ok.inj x y c (S.sub I.ok e1) (S.sub I.ok e2)
  has := fun x hx => by
    have hx' : (relabel scope X.env).names.lookup x = some .cell ∨ (relabel scope X.env).names.lookup x = some .free := hx
    have fr : (x, NameKind.free) ∈ scope.names := by
      rcases hx' with h | h
      · obtain ⟨k', h1, h2⟩ := relabel_get h
        rcases h2 with h2 | ⟨h2, _⟩
        · subst h2; exact absurd rfl (S.nocell _ h1)
        · subst h2; exact h1
      · obtain ⟨k', h1, h2⟩ := relabel_get h
        rcases h2 with h2 | ⟨h2, h3⟩
        · subst h2; exact h1
        · cases h3
    exact clOf_has scope.names [] x fr
  cab := fun x c h _ => by cases h
  hd := I.ok.hd
  frames := I.ok.frames
  stk := .inl rfl
  exf := fun b hb => ⟨Nat.ne_of_lt (ho b hb), fun x c e => (hf b hb).2.2.2.2.1 x c (S.sub I.ok e)⟩
  bs := I.bs
  bsz := Nat.le_trans I.ok.bsz I.sz
  noex := fun b o e hb => by
    rcases (hf b hb).2.2.2.1 with h | h
    · exact I.ok.noex b o e h
    · exact absurd (Nat.lt_of_lt_of_le (Heap.lt_size e) (Nat.le_trans I.ok.bsz h)) (Nat.lt_irrefl _)
  exfs := fun b hb hs => by
    rcases List.mem_cons.mp (I.stkSub b hs) with h | h
    · exact (hf b hb).2.1 h
    · exact (hf b hb).2.2.1 h
  funs := I.stack
  frf := I.stkFree
def capt (nl : Nat) (ix : List Nat) (σ : St) : St := List.replicate nl none ++ ix.map fun j => (σ[j]?).join
structure Capt (X : Cx) (scope : Scope) (N' : List Str) (nl : Nat) (ix : List Nat) : Prop where
  len : N'.length = nl + ix.length
  at' : ∀ (k j : Nat), ix[k]? = some j → ∃ x, X.N[j]? = some x ∧ N'[nl + k]? = some x ∧ X.env.kindOf x = some .cell ∧ (relabel scope X.env).names.lookup x = some .cell ∧ (x, NameKind.free) ∈ scope.names
theorem capt_inv {nl : Nat} {ix : List Nat} {h1 : Heap} {tk : Nat} (S : CompScope X scope) (Cp : Capt X scope N' nl ix) (I : Inv X pins σ H s) (hf : ∀ b ∈ fp, FpOk X pins H b) (ho : ∀ b ∈ fp, b < s.heap.objs.size)
    (hn : h1.Ns s.heap.objs.size (fun _ => none)) (hk : ∀ b o, s.heap.get? b = some o → h1.get? b = some o) : Inv (X.comp scope N' s.heap.objs.size fp s H) [] (capt nl ix σ) H { s with heap := h1, toks := tk } := by
  have ok := S.ok (N' := N') I hf ho
  refine ⟨ok, rfl, I.bare, Un.kept hk, ⟨_, hn, fun i x v e1 e2 e3 => ?_⟩, fun x c e => ?_, I.hok.fresh (Nat.le_refl _), fun x c e => I.freeC x c (S.sub I.ok e), fun p hp => by simp [Cx.comp] at hp, I.hok.kept hk, ?_⟩
  · unfold capt at e2
    rw [List.getElem?_append] at e2
    split at e2
    · rw [List.getElem?_replicate] at e2
      split at e2 <;> simp at e2
    · rename_i hi
      rw [List.length_replicate] at hi e2
      rw [List.getElem?_map] at e2
      cases ej : ix[i - nl]? with
      | none => rw [ej] at e2; simp at e2
      | some j =>
        rw [ej] at e2
        have e2' : (σ[j]?).join = some v := by simpa using e2
        have e2'' : σ[j]? = some (some v) := by
          cases q : σ[j]? with
          | none => rw [q] at e2'; simp at e2'
          | some z => rw [q] at e2'; simp at e2'; rw [e2']
        obtain ⟨x', a1, a2, a3, a4, a5⟩ := Cp.at' _ _ ej
        have hi2 : nl + (i - nl) = i := by (first | lia | omega)
        rw [hi2] at a2
        have e1' : N'[i]? = some x := e1
        rw [a2] at e1'
        cases e1'
        obtain ⟨m, hm, hl⟩ := I.loc
        obtain ⟨u, r, l⟩ := hl j x v a1 e2'' (.inr (.inl a3))
        refine ⟨u, r, ?_⟩
        rcases l with ⟨k, _⟩ | ⟨_, c, ec, z⟩
        · rw [k] at a3; cases a3
        · obtain ⟨c', hc'⟩ := clOf_has (env := X.env) scope.names [] x a5
          have ec' := S.sub I.ok hc'
          rw [ec] at ec'
          cases ec'
          obtain ⟨o, ho', hd⟩ := z
          exact .inr ⟨.inl a4, c, hc', o, hk _ _ ho', hd⟩
  · obtain ⟨v, o, ho', hd⟩ := I.cell x c (S.sub I.ok e)
    exact ⟨v, o, hk _ _ ho', hd⟩
  · show (capt nl ix σ).length = N'.length
    unfold capt
    rw [List.length_append, List.length_replicate, List.length_map, Cp.len]
theorem comp_back {H' : Hp} {σ' : St} {pins' : List (Addr × Obj)} {s' : Shared} {h' : Heap} (I : Inv X pins σ H s) (hf : ∀ b ∈ fp, FpOk X pins H b)
    (I' : Inv (X.comp scope N' s.heap.objs.size fp s H) pins' σ' H' s') (hs : Heap.SameBut s.heap.objs.size s'.heap h') : Inv X pins σ H' { s' with heap := h' } := by
  have lo : ∀ b o, s.heap.get? b = some o → b ≠ s.heap.objs.size := fun b o e => Nat.ne_of_lt (Heap.lt_size e)
  have B := I'.base
  refine I.call' (ch := fp) (show s'.os = s.os from I'.os) ⟨fun b o e n hb hx => ?_, fun b o e n hb hx => ?_, fun b o e n hx => B.free b o e n hx, fun b o e hx => ?_, B.tups, B.frzs, B.tbls⟩ (fun b u e => ?_) I'.bare fun b hb => ⟨(hf b hb).2.2.2.1, (hf b hb).2.1, (hf b hb).2.2.2.2.1, (hf b hb).2.2.2.2.2⟩
  · exact (hs.2 b (lo b o e)).trans (B.keep b o e n hb hx)
  · obtain ⟨sl, q⟩ := B.slot b o e n hb hx
    exact ⟨sl, (hs.2 b (lo b o e)).trans q⟩
  · obtain ⟨o', q⟩ := B.there b o e hx
    exact ⟨o', (hs.2 b (lo b o e)).trans q⟩
  · have nl : H' s.heap.objs.size = none := I'.free
    refine (I'.hok b u e).stay (fun c v hc q => (hs.2 c ?_).trans q) (fun _ q => q) fun _ _ q => q
    rintro rfl
    rcases hc with z | z
    · rw [← z, nl] at e; cases e
    · rw [nl] at z; cases z
end
def PIf (X : Cx) (ifs : List Expr) (t : TT) : Prop :=
  ∀ (pins : List (Addr × Obj)) (s : Shared) (σ : St) (H : Hp) (Q : Bool → Hp → Prop), Inv X pins σ H s → t σ H Q →
    wpAny (model X.prog X.w) X.A (forIn ifs true fun c r => if r = true then do let ok ← isTrue c X.env (eval c X.env); pure (ForInStep.yield ok) else pure (ForInStep.yield r)) (TP X pins σ Q) X.xe s
def tYes : TT := fun _ H Q => Q true H
theorem pif_nil {X : Cx} : PIf X [] tYes := fun _ _ _ H _ I h => wpAny_tests_nil ⟨H, I, h⟩
theorem pif_one {X : Cx} {c : Expr} {t : TT} (h : PT X c t) : PIf X [c] t := fun pins s σ H Q I hw => wpAny_tests_one (h pins s σ H Q I hw)
section
variable {prog : Program} {w : World} {A : Around} {R : Result → Shared → Prop} {s : Shared}
theorem compLoop_L {elt target iter : Expr} {ifs : List Expr} {scope : Scope} {pos : Pos} {it acc : Value} {env : Env} (I : Nat → Shared → Prop)
    (turn : ∀ n s, I n s → wpAny (model prog w) A (pyNext it) (fun r s₁ => match r with
      | none => R (.ok .next) s₁
      | some v => wpAny (model prog w) A (letOwnedTupleGo target it v) (fun _ s₁' => wpAny (model prog w) A (assign target env v) (fun _ s₂ =>
          wpAny (model prog w) A (forIn ifs true fun c r => if r = true then do let ok ← isTrue c env (eval c env); pure (ForInStep.yield ok) else pure (ForInStep.yield r)) (fun ok s₃ =>
            if ok = true then wpAny (model prog w) A (eval elt env) (fun x s₄ =>
              wpAny (model prog w) A (call (.builtin "list.append") [acc, x]) (fun _ s₅ => ∃ m, m < n ∧ I m s₅) (fun _ _ => False) s₄) (fun _ _ => False) s₃
            else ∃ m, m < n ∧ I m s₃) (fun _ _ => False) s₂) (fun _ _ => False) s₁') (fun _ _ => False) s₁) (fun _ _ => False) s)
    (n : Nat) (h : I n s) :
    codeAny (model prog w) A (.compLoop (.ListComp elt [⟨target, iter, ifs, 0⟩] scope pos) 0 it acc env) R s := by
  have no : ∀ {E : Value → Shared → Prop} (x : Value) (s : Shared), False → E x s := fun _ _ z => z.elim
  refine codeAny_loop rfl I (fun n s hI => ?_) n h
  show wpAny _ A ((compTurn (.ListComp elt [⟨target, iter, ifs, 0⟩] scope pos) 0 it acc env).onRaise (fun x => do noteFrame x env; theTreesLotGoes x)) _ _ s
  refine wpAny_noted ?_
  rw [compTurn_list]
  refine wpAny_bind (wpAny_standAt (wpAny_bind (wpAny_mono (turn n s hI) (fun r s₁ h₁ => ?_) no)))
  cases r with
  | none => exact wpAny_pure h₁
  | some v =>
    refine wpAny_bind (wpAny_mono h₁ (fun _ s₁' h₁' => wpAny_bind (wpAny_mono h₁' (fun _ s₂ h₂ => wpAny_bind (wpAny_mono h₂ (fun ok s₃ h₃ => ?_) no)) no)) no)
    cases ok with
    | false => exact wpAny_pure ⟨rfl, h₃⟩
    | true =>
      exact wpAny_bind (wpAny_bind (wpAny_mono h₃ (fun x s₄ h₄ => wpAny_bind (wpAny_mono h₄ (fun _ s₅ h₅ => wpAny_pure (wpAny_pure ⟨rfl, h₅⟩)) no)) no))
end
def tLComp (nl : Nat) (ix : List Nat) (wi : TI) (g : TG) (tf : TT) (te : TE) : TE := fun σ H Q => wi σ H fun J H1 => ∀ D, H1 D = none → ∃ W : Nat → Nat → List V → Hp → Prop, (∃ m, W 0 m [] (upd H1 D (.lst []))) ∧
  ∀ i m ys H2, W i m ys H2 → H2 D = some (.lst ys) ∧ ((J.stop i H2 ∧ Q (.ref D) H2) ∨ (J.go i H2 ∧ ∀ x H3, J.yld i H2 x H3 → g x (capt nl ix σ) H3 fun σ4 H4 => (σ4.length = (capt nl ix σ).length ∧ σ4.drop nl = ix.map fun j => (σ[j]?).join) ∧ tf σ4 H4 fun b H5 =>
    if b = true then te σ4 H5 fun y H6 => H6 D = some (.lst ys) ∧ ys.length < sizeLine ∧ ∃ m', m' < m ∧ W (i + 1) m' (ys ++ [y]) (upd H6 D (.lst (ys ++ [y]))) else ∃ m', m' < m ∧ W (i + 1) m' ys H5))
theorem capt_weak {X : Cx} {pins : List (Addr × Obj)} {σ σ4 : St} {H : Hp} {s : Shared} {nl : Nat} {ix : List Nat} (I : Inv X pins σ4 H s) (hl : σ4.length = (capt nl ix σ).length) (hd : σ4.drop nl = ix.map fun j => (σ[j]?).join) : Inv X pins (capt nl ix σ) H s := by
  refine I.weak hl.symm fun i v e => ?_
  unfold capt at e
  rw [List.getElem?_append] at e
  split at e
  · rw [List.getElem?_replicate] at e
    split at e <;> simp at e
  · rename_i hi
    rw [List.length_replicate] at hi e
    rw [← hd, List.getElem?_drop] at e
    have hi2 : nl + (i - nl) = i := by (first | lia | omega)
    rw [hi2] at e
    exact e
section
variable {X : Cx}
theorem pe_lcomp {elt tg iter : Expr} {ifs : List Expr} {scope : Scope} {pos : Pos} {N' : List Str} {nl : Nat} {ix : List Nat} {wi : TI} {g : TG} {tf : TT} {te : TE} (hc : X.calm = true) (S : CompScope X scope) (Cp : Capt X scope N' nl ix) (hi : PI X tg iter wi)
    (hg : ∀ C fp s₀ H₀, PG (X.comp scope N' C fp s₀ H₀) tg g) (hf : ∀ C fp s₀ H₀, PIf (X.comp scope N' C fp s₀ H₀) ifs tf) (he : ∀ C fp s₀ H₀, PE (X.comp scope N' C fp s₀ H₀) elt te)
    (hs : ∀ x, foldedSetIterable iter X.env x = pure x := by intro _; rfl) : PE X (.ListComp elt [⟨tg, iter, ifs, 0⟩] scope pos) (tLComp nl ix wi g tf te) := by
  intro pins s σ H Q I h
  rw [eval_ListComp]
  refine wpAny_comprehension_free (use := none) (cl := clOf X.env scope.names []) rfl hs (closure_of (S.cells I.ok)) S.kind S.loc ?_
  refine thn (hi pins s σ H _ I h) fun v s1 h1 => thn h1 fun itv s2 h2 => ?_
  obtain ⟨it, fp, tn, J, H2, rfl, I2, T, st2, f2, h2⟩ := h2
  obtain ⟨W, ⟨m0, w0⟩, turn⟩ := h2 s2.heap.objs.size I2.fresh
  refine wpAny_newObj_type (wpAny_newFunctionEnv S.nocell (by intro y hy; simp at hy) (fun h₁ hns₁ hsb₁ => ?_) S.kind)
  dsimp only at hns₁ hsb₁ ⊢
  have fpo : ∀ b ∈ fp, b < s2.heap.objs.size := fun b hb => by
    obtain ⟨o, e, _⟩ := T.obj 0 _ st2 b hb
    exact Heap.lt_size e
  have I3 : Inv X pins σ (upd H2 s2.heap.objs.size (.lst [])) { s2 with heap := s2.heap.push { cls := .type "list", data := .seq ([] : List Value).toArray }, toks := s2.toks } := I2.lnew .nil (Nat.zero_le _)
  have hD : (upd H2 s2.heap.objs.size (.lst [])) s2.heap.objs.size = some (.lst []) := upd_same
  have f3 : ∀ b ∈ fp, FpOk X pins (upd H2 s2.heap.objs.size (.lst [])) b := fun b hb => by
    refine ⟨?_, (f2 b hb).2⟩
    rw [upd_ne (Nat.ne_of_lt (fpo b hb))]
    exact (f2 b hb).1
  generalize hS3 : s2.heap.push { cls := .type "list", dict := none, data := .seq ([] : List Value).toArray } = g3 at hns₁ hsb₁ I3 ⊢
  have sz3 : g3.objs.size = s2.heap.objs.size + 1 := by rw [← hS3, Heap.size_push]
  have fpo3 : ∀ b ∈ fp, b < ({ s2 with heap := g3, toks := s2.toks } : Shared).heap.objs.size := fun b hb => by
    show b < g3.objs.size
    rw [sz3]
    exact Nat.lt_succ_of_lt (fpo b hb)
  have old : ∀ b o, g3.get? b = some o → h₁.get? b = some o := fun b o e => hsb₁.extBut b o (Nat.ne_of_lt (Heap.lt_size e)) (Heap.get?_push_of_some _ e)
  have I4 := capt_inv (tk := s2.toks + ([] : List (Str × Value)).length) S Cp I3 f3 fpo3 hns₁ old
  generalize hX : X.comp scope N' g3.objs.size fp { s2 with heap := g3, toks := s2.toks } (upd H2 s2.heap.objs.size (.lst [])) = X' at *
  have hPr : X'.prog = X.prog := by rw [← hX]; rfl
  have hWr : X'.w = X.w := by rw [← hX]; rfl
  have hKr : X'.K = X.K := by rw [← hX]; rfl
  have hAr : X'.A = X.A := by rw [← hX]; rfl
  have hCa : X'.calm = true := by rw [← hX]; exact hc
  have hXe : X'.xe = fun _ _ => False := by rw [← hX]; rfl
  have hEx : X'.ex = fp := by rw [← hX]; rfl
  have hPn : X'.pn = [] := by rw [← hX]; rfl
  have hLo : X'.env.locals = g3.objs.size := by rw [← hX]; rfl
  have hEn : X'.env = compEnvC scope (clOf X.env scope.names []) g3.objs.size X.env := by rw [← hX]; rfl
  have hg' := hg g3.objs.size fp { s2 with heap := g3, toks := s2.toks } (upd H2 s2.heap.objs.size (.lst []))
  have hf' := hf g3.objs.size fp { s2 with heap := g3, toks := s2.toks } (upd H2 s2.heap.objs.size (.lst []))
  have he' := he g3.objs.size fp { s2 with heap := g3, toks := s2.toks } (upd H2 s2.heap.objs.size (.lst []))
  rw [hX] at hg' hf' he'
  have I4' : Inv X' [] (capt nl ix σ) (upd H2 s2.heap.objs.size (.lst [])) { s2 with heap := h₁, toks := s2.toks + ([] : List (Str × Value)).length } := I4
  have back : ∀ {H' : Hp} {σ' : St} {pins' : List (Addr × Obj)} {s' : Shared} {h' : Heap}, Inv X' pins' σ' H' s' → Heap.SameBut g3.objs.size s'.heap h' → Inv X pins σ H' { s' with heap := h' } := fun I' sb => by
    subst hX
    exact comp_back I3 f3 I' sb
  have stat : ∀ {H' : Hp}, (∀ b ∈ fp, H' b = none) → ∀ b ∈ fp, FpOk X' [] H' b := fun hn b hb => by
    refine ⟨hn b hb, ?_, ?_, .inl (by rw [hEx]; exact hb), ?_, fun p hp => by rw [hPn] at hp; cases hp⟩
    · rw [hLo]; exact Nat.ne_of_lt (fpo3 b hb)
    · exact I4'.ok.exfs b (by rw [hEx]; exact hb)
    · exact (I4'.ok.exf b (by rw [hEx]; exact hb)).2
  have loop : codeAny (model X.prog X.w) X.A (.compLoop (.ListComp elt [⟨tg, iter, ifs, 0⟩] scope pos) 0 (.ref it) (.ref s2.heap.objs.size) X'.env)
      (compPost (model X.prog X.w) X.A X.xe none (EP X pins σ Q) (.ref s2.heap.objs.size) g3.objs.size) { s2 with heap := h₁, toks := s2.toks + ([] : List (Str × Value)).length } := by
    rw [← hPr, ← hWr, ← hAr]
    refine compLoop_L (fun n s' => ∃ i ys H', Inv X' [] (capt nl ix σ) H' s' ∧ tn i s'.heap ∧ (∀ b ∈ fp, H' b = none) ∧ W i n ys H') ?_ m0
      ⟨0, [], _, I4', T.keep _ _ _ st2 (fun b hb o e => old b o (by rw [← hS3]; exact Heap.get?_push_of_some _ e)), fun b hb => (f3 b hb).1, w0⟩
    rintro n s5 ⟨i, ys, H5, I5, st5, fr5, w5⟩
    obtain ⟨hD5, alt⟩ := turn i n ys H5 w5
    rcases alt with ⟨stop, qn⟩ | ⟨go, step⟩
    · rw [hPr, hWr]
      refine thn (T.done X' hPr hWr hKr hCa i [] s5 _ H5 _ I5 (stat fr5) st5 stop) fun r s6 ⟨hr, I6⟩ => ?_
      subst hr
      obtain ⟨m, hn, _⟩ := I6.loc
      rw [hLo] at hn
      exact ⟨m, hn, fun h' sb => ⟨.ref s2.heap.objs.size, H5, back I6 sb, rfl, qn⟩⟩
    · have it5 := T.item X' hPr hWr hKr hCa i [] s5 _ H5 (fun _ _ => False) I5 (stat fr5) st5 go
      rw [← hPr, ← hWr] at it5
      refine thn it5 fun r s6 ⟨u, hr, h6⟩ => ?_
      subst hr
      refine thn h6 fun _ s7 ⟨x, H7, I7, r7, y7, st7, fr7⟩ => ?_
      have I7' := I7.pinned (stat fr7) (T.obj _ _ st7)
      have g7 := hg' _ s7 _ H7 x u _ I7' r7 (step x H7 y7)
      rw [hXe] at g7
      refine thn g7 fun _ s8 ⟨σ8, H8, I8, ⟨hl8, hd8⟩, q8⟩ => ?_
      have f8 := hf' _ s8 σ8 H8 _ I8 q8
      rw [hXe] at f8
      refine thn f8 fun ok s9 ⟨H9, I9, q9⟩ => ?_
      have again : ∀ {H10 : Hp} {s10 : Shared} {ys' : List V}, Inv X' ([] ++ pinsAt fp s7.heap) σ8 H10 s10 → (∃ m', m' < n ∧ W (i + 1) m' ys' H10) → ∃ m, m < n ∧ ∃ i ys H', Inv X' [] (capt nl ix σ) H' s10 ∧ tn i s10.heap ∧ (∀ b ∈ fp, H' b = none) ∧ W i m ys H' := fun {H10 s10 ys'} I10 ⟨m', hm, w'⟩ => by
        refine ⟨m', hm, i + 1, ys', H10, capt_weak I10.unpinned hl8 hd8, T.keep _ _ _ st7 fun b hb o e => (I10.pin (b, o) (List.mem_append_right _ (List.mem_append_right _ (mem_pinsAt hb e)))).1, fun b hb => ?_, w'⟩
        obtain ⟨o, e, d⟩ := T.obj _ _ st7 b hb
        exact (I10.pin (b, o) (List.mem_append_right _ (List.mem_append_right _ (mem_pinsAt hb e)))).2.1
      cases ok with
      | false =>
        rw [if_neg Bool.false_ne_true] at q9 ⊢
        exact again I9 q9
      | true =>
        rw [if_pos rfl] at q9 ⊢
        have e9 := he' _ s9 σ8 H9 _ I9 q9
        rw [hXe] at e9
        refine thn e9 fun xv s10 ⟨y, H10, I10, r10, hD10, hz, mw⟩ => ?_
        have a10 := mt_append (X := X') _ s10 σ8 H10 (.ref s2.heap.objs.size) [y] _ [xv] (fun _ H' => H' = upd H10 s2.heap.objs.size (.lst (ys ++ [y]))) I10 rfl (.cons r10 .nil) ⟨_, ys, y, rfl, rfl, hD10, hz, rfl⟩
        rw [hXe] at a10
        refine thn a10 fun _ s11 ⟨_, H11, I11, _, e11⟩ => ?_
        subst e11
        exact again I11 mw
  rw [hEn] at loop
  exact codeAny_compStart_list loop (T.self _ 0 _ _ _ (T.keep _ _ _ st2 (fun b hb o e => old b o (by rw [← hS3]; exact Heap.get?_push_of_some _ e))) loop)
end
end L2
set_option Elab.async false
set_option maxHeartbeats 4000000
namespace L2
open PySem PySem.Spec PyProof.Rows
theorem strsAre_of : ∀ {ss : List Str} {us : List Value}, Vals (ss.map V.str) us → StrsAre us ss
  | [], _, .nil => .nil
  | _ :: _, _, .cons r t => by
    obtain ⟨k, rfl⟩ := r
    exact .cons _ k (strsAre_of t)
theorem of_strsAre : ∀ {ss : List Str} {us : List Value}, StrsAre us ss → Vals (ss.map V.str) us
  | _, _, .nil => .nil
  | _, _, .cons y t h => .cons ⟨t, rfl⟩ (of_strsAre h)
theorem all_getD : ∀ bs : List Bool, (List.range bs.length).all (fun i => bs.getD i false) = bs.all id
  | [] => rfl
  | b :: r => by
    rw [List.length_cons, List.range_succ_eq_map, List.all_cons, List.all_map, List.all_cons, ← all_getD r]
    rfl
section
variable {X : Cx}
theorem call_all (hc : X.calm = true) : CallR X (.builtin "all") (fun xs H Q => ∃ (p : Addr) (bs : List Bool), xs = [.ref p] ∧ SqL X.K H p (bs.map V.bl) ∧ Q (.bl (bs.all id)) H) := by
  intro pins s σ H xs us Q I r h
  obtain ⟨p, bs, rfl, hq, q⟩ := h
  obtain ⟨u, rfl, rx⟩ := vals1 r
  cases rx
  obtain ⟨its, rv, pl, hz⟩ := I.list hq
  have hh : X.A.in1.handled = none := I.ok.hd hc
  have hlt : p < s.heap.objs.size := by obtain ⟨o, e, _⟩ := pl.isList; exact Heap.lt_size e
  have hlen := rv.length
  rw [List.length_map] at hlen
  refine call_all_walk (wpAny_pyIter_list pl.isList ?_)
  refine ⟨s.heap.objs.size, _, _, _, _, _, fun i => bs.getD i false, rfl, Walks.list hh s.heap.objs.size p (Nat.ne_of_lt hlt) its.toArray, ⟨⟨_, Heap.get?_push_size _ rfl, rfl, rfl⟩, pl.isList.push _⟩, fun i v s' Q' E' hv hq' => ?_, fun h' tk hk => ?_⟩
  · have hv' : its[i]? = some v := by simpa using hv
    have hi : i < its.length := (List.getElem?_eq_some_iff.mp hv').1
    have hb : bs[i]? = some (bs.getD i false) := by
      rw [List.getD_eq_getElem?_getD]
      rw [List.getElem?_eq_getElem (by (first | lia | omega))]
      rfl
    obtain ⟨u, hu, ru⟩ := rv.get (i := i) (x := .bl (bs.getD i false)) (by rw [List.getElem?_map, hb]; rfl)
    rw [hv'] at hu
    cases hu
    cases ru
    exact wpAny_truthy_bool hq'
  · have e : (List.range its.toArray.size).all (fun i => bs.getD i false) = bs.all id := by
      rw [List.size_toArray, ← hlen, all_getD]
    rw [e]
    refine ⟨.bl _, H, ?_, rfl, q⟩
    refine (I.kept (t' := s.toks) (h' := s.heap.push { cls := .type "list_iterator", data := .fields #[.ref p, .int 0 0] }) fun b o e => Heap.get?_push_of_some _ e).turned (it := s.heap.objs.size) (t' := tk) (h' := h') (fun b o hb e => hk b o (by simpa using hb) e) I.fresh (Nat.ne_of_gt I.lt) (.inr I.sz) (fun x c e z => ?_) fun p' hp z => ?_
    · obtain ⟨v, q⟩ := I.cell x c e
      exact absurd (z ▸ q.lt) (Nat.lt_irrefl _)
    · exact absurd (z ▸ Heap.lt_size (I.pin p' hp).1) (Nat.lt_irrefl _)
theorem call_sum (hc : X.calm = true) : CallR X (.builtin "sum") (fun xs H Q => ∃ (p : Addr) (ns : List Int), xs = [.ref p] ∧ SqL X.K H p (ns.map V.int) ∧ (∀ n ∈ ns, 0 ≤ n ∧ n ≤ 1000000) ∧ ns.length ≤ 1000000 ∧ Q (.int ns.sum) H) := by
  intro pins s σ H xs us Q I r h
  obtain ⟨p, ns, rfl, hq, hb, hl, q⟩ := h
  obtain ⟨u, rfl, rx⟩ := vals1 r
  cases rx
  obtain ⟨its, rv, pl, hz⟩ := I.list hq
  have hh : X.A.in1.handled = none := I.ok.hd hc
  have hlt : p < s.heap.objs.size := by obtain ⟨o, e, _⟩ := pl.isList; exact Heap.lt_size e
  have hlen := rv.length
  rw [List.length_map] at hlen
  have hbd : ∀ i, 0 ≤ ns.getD i 0 ∧ ns.getD i 0 ≤ 1000000 := fun i => by
    rw [List.getD_eq_getElem?_getD]
    cases e : ns[i]? with
    | none => simp
    | some z => exact hb z (List.mem_of_getElem? e)
  have hpre : ∀ j : Nat, 0 ≤ preSum (fun i => ns.getD i 0) j ∧ preSum (fun i => ns.getD i 0) j ≤ 1000000 * (j : Int) := fun j => by
    induction j with
    | zero => simp [preSum]
    | succ j ih =>
      have := hbd j
      simp only [preSum]
      (first | lia | omega)
  refine call_sum_walk (wpAny_pyIter_list pl.isList ?_)
  refine ⟨s.heap.objs.size, _, _, _, _, _, fun i => ns.getD i 0, rfl, Walks.list hh s.heap.objs.size p (Nat.ne_of_lt hlt) its.toArray, ⟨⟨_, Heap.get?_push_size _ rfl, rfl, rfl⟩, pl.isList.push _⟩, fun b hb => ?_, fun i v hv => ?_, fun j hj => ?_, fun h' tk t' hk => ?_⟩
  · show b < (s.heap.push _).objs.size
    rw [Heap.size_push]
    rcases List.mem_cons.mp hb with rfl | hb
    · exact Nat.lt_succ_self _
    · rw [List.mem_singleton.mp hb]; exact Nat.lt_succ_of_lt hlt
  · have hv' : its[i]? = some v := by simpa using hv
    have hi : i < its.length := (List.getElem?_eq_some_iff.mp hv').1
    have hb : ns[i]? = some (ns.getD i 0) := by
      rw [List.getD_eq_getElem?_getD]
      rw [List.getElem?_eq_getElem (by (first | lia | omega))]
      rfl
    obtain ⟨u, hu, ru⟩ := rv.get (i := i) (x := .int (ns.getD i 0)) (by rw [List.getElem?_map, hb]; rfl)
    rw [hv'] at hu
    cases hu
    exact ru
  · have h1 := hbd j
    have h2 := hpre (j + 1)
    have h3 : j < its.length := by simpa using hj
    refine ⟨⟨by show -(2 ^ 63) ≤ ns.getD j 0; (first | lia | omega), by show ns.getD j 0 < 2 ^ 63; (first | lia | omega)⟩, by (first | lia | omega), ?_⟩
    have h4 : ((j + 1 : Nat) : Int) ≤ 1000000 := by (first | lia | omega)
    (first | lia | omega)
  · have e : preSum (fun i => ns.getD i 0) its.toArray.size = ns.sum := by
      have all : ∀ (k : Nat) (l : List Int), k ≤ l.length → preSum (fun i => l.getD i 0) k = (l.take k).sum := fun k => by
        induction k with
        | zero => intro l _; simp [preSum]
        | succ k ih =>
          intro l hk
          rw [preSum, ih l (by (first | lia | omega)), List.take_add_one, List.sum_append, List.getD_eq_getElem?_getD, List.getElem?_eq_getElem (by (first | lia | omega))]
          simp
      rw [List.size_toArray, ← hlen, all _ ns (Nat.le_refl _), List.take_length]
    rw [e]
    refine ⟨.int _, H, ?_, ⟨_, rfl⟩, q⟩
    refine (I.kept (t' := s.toks) (h' := s.heap.push { cls := .type "list_iterator", data := .fields #[.ref p, .int 0 0] }) fun b o e => Heap.get?_push_of_some _ e).turned (it := s.heap.objs.size) (t' := tk) (h' := h') (fun b o hb e => hk b o (by simpa using hb) e) I.fresh (Nat.ne_of_gt I.lt) (.inr I.sz) (fun x c e z => ?_) fun p' hp z => ?_
    · obtain ⟨v, q⟩ := I.cell x c e
      exact absurd (z ▸ q.lt) (Nat.lt_irrefl _)
    · exact absurd (z ▸ Heap.lt_size (I.pin p' hp).1) (Nat.lt_irrefl _)
theorem call_sorted : CallR X (.builtin "sorted") (fun xs H Q => ∃ (p : Addr) (ss : List Str), xs = [.ref p] ∧ SqL X.K H p (ss.map V.str) ∧ ss.length < 64 ∧ ∀ (l : Addr) (ss' : List Str), H l = none → ss'.Perm ss → sortedS ss' = true → Q (.ref l) (upd H l (.lst (ss'.map V.str)))) := by
  intro pins s σ H xs us Q I r h
  obtain ⟨p, ss, rfl, hq, hl, q⟩ := h
  obtain ⟨u, rfl, rx⟩ := vals1 r
  cases rx
  obtain ⟨its, rv, pl, hz⟩ := I.list hq
  have hlen := rv.length
  rw [List.length_map] at hlen
  refine sorted_strs pl.isList (strsAre_of rv) (by (first | lia | omega)) fun out ss' a1 a2 a3 => ?_
  obtain ⟨e, he⟩ := sortedAll_at s.heap its out
  have hlen' : ss'.length = ss.length := a2.length_eq
  refine ⟨.ref (s.heap.objs.size + 1), _, I.laid (t' := s.toks) (o := .lst (ss'.map V.str)) (fun b o e => sortedAll_old e) (Nat.le_succ _) ⟨?_, out.toList, e, of_strsAre a1, ?_⟩, rfl, q _ ss' (I.hok.fresh (Nat.le_succ _)) a2 a3⟩
  · rw [List.length_map]
    exact Nat.le_of_lt (Nat.lt_of_lt_of_le (by (first | lia | omega) : ss'.length < 64) (by decide))
  · simpa using he
def rJoin : V → List V → Hp → VK → Prop := fun x vs H Q => ∃ (z : Str) (l : Addr) (ss : List Str), x = .str z ∧ vs = [.ref l] ∧ SqL X.K H l (ss.map V.str) ∧ (ss.map (·.length)).sum + ss.length * z.length ≤ 16777216 ∧ Q (.str (Txt.join z ss)) H
theorem mt_join : MtM X "str.join" (rJoin (X := X)) := by
  intro pins s σ H x vs v us Q I rx rv h
  obtain ⟨z, l, ss, rfl, rfl, hq, hz, q⟩ := h
  obtain ⟨t, rfl⟩ := rx
  obtain ⟨u, rfl, ru⟩ := rv.one
  cases ru
  obtain ⟨its, r, pl, _⟩ := I.list hq
  exact join_list pl.isList (by simpa using strsAre_of r) hz fun t' k => ⟨.str _, H, I.tok _, ⟨t', rfl⟩, q⟩
end
end L2
set_option Elab.async false
set_option maxHeartbeats 4000000
namespace L2
open PySem PySem.Spec PyProof.Rows
mutual
inductive Sees (H : Hp) : V → PyData → Prop
  | non : Sees H .non .none
  | bl (b : Bool) : Sees H (.bl b) (.bool b)
  | int (i : Int) : Sees H (.int i) (.int i)
  | str (x : Str) : Sees H (.str x) (.str x)
  | lst {a : Addr} {vs : List V} {ds : List PyData} : H a = some (.lst vs) → SeesAll H vs ds → Sees H (.ref a) (.list ds)
  | tup {a : Addr} {vs : List V} {ds : List PyData} : H a = some (.tup vs) → SeesAll H vs ds → Sees H (.ref a) (.tuple ds)
inductive SeesAll (H : Hp) : List V → List PyData → Prop
  | nil : SeesAll H [] []
  | cons {v : V} {vs : List V} {d : PyData} {ds : List PyData} : Sees H v d → SeesAll H vs ds → SeesAll H (v :: vs) (d :: ds)
end
mutual
theorem Sees.reads {P : Program} {w : World} {H : Hp} {h : Heap} (ok : HOk P w H h) : ∀ {d : PyData} {v : V} {u : Value}, Sees H v d → RelV v u → ∃ as, Reads h u d as
  | _, _, _, .non, r => by cases r; exact ⟨_, .none⟩
  | _, _, _, .bl b, r => by cases r; exact ⟨_, .bool b⟩
  | _, _, _, .int i, r => by obtain ⟨t, rfl⟩ := r; exact ⟨_, .int i t⟩
  | _, _, _, .str x, r => by obtain ⟨t, rfl⟩ := r; exact ⟨_, .str x t⟩
  | _, _, _, .lst e q, r => by
    cases r
    obtain ⟨_, its, n, rv, g⟩ := ok _ _ e
    obtain ⟨as, ra⟩ := SeesAll.reads ok q rv
    exact ⟨_, .list g rfl rfl (by simpa using ra)⟩
  | _, _, _, .tup e q, r => by
    cases r
    obtain ⟨_, its, rv, o, g, hc, n, hd⟩ := ok _ _ e
    obtain ⟨as, ra⟩ := SeesAll.reads ok q rv
    exact ⟨_, .tuple g hc hd (by simpa using ra)⟩
theorem SeesAll.reads {P : Program} {w : World} {H : Hp} {h : Heap} (ok : HOk P w H h) : ∀ {ds : List PyData} {vs : List V} {us : List Value}, SeesAll H vs ds → Vals vs us → ∃ as, ReadsAll h us ds as
  | _, _, _, .nil, r => by cases r; exact ⟨_, .nil⟩
  | _, _, _, .cons a b, r => by
    cases r with
    | cons r1 r2 =>
      obtain ⟨_, x⟩ := Sees.reads ok a r1
      obtain ⟨_, y⟩ := SeesAll.reads ok b r2
      exact ⟨_, .cons x y⟩
end
mutual
theorem Sees.same {H H' : Hp} : ∀ {d : PyData} {v : V}, (∀ b o, H b = some o → (∃ xs, o = .lst xs ∨ o = .tup xs) → H' b = some o) → Sees H v d → Sees H' v d
  | _, _, _, .non => .non
  | _, _, _, .bl b => .bl b
  | _, _, _, .int i => .int i
  | _, _, _, .str x => .str x
  | _, _, k, .lst e q => .lst (k _ _ e ⟨_, .inl rfl⟩) (SeesAll.same k q)
  | _, _, k, .tup e q => .tup (k _ _ e ⟨_, .inr rfl⟩) (SeesAll.same k q)
theorem SeesAll.same {H H' : Hp} : ∀ {ds : List PyData} {vs : List V}, (∀ b o, H b = some o → (∃ xs, o = .lst xs ∨ o = .tup xs) → H' b = some o) → SeesAll H vs ds → SeesAll H' vs ds
  | _, _, _, .nil => .nil
  | _, _, k, .cons a b => .cons (Sees.same k a) (SeesAll.same k b)
end
theorem SeesAll.strs {H : Hp} : ∀ ss : List Str, SeesAll H (ss.map V.str) (ss.map PyData.str)
  | [] => .nil
  | s :: r => .cons (.str s) (SeesAll.strs r)
section
variable {X : Cx}
def rEqD (A : Around) (neg : Bool) : R2 := fun x y H Q => ∃ da db, Sees H x da ∧ Sees H y db ∧ da.canLay0 = true ∧ db.canLay0 = true ∧ A.units + min da.depth db.depth < cLine ∧ Q (.bl (if neg then !PyData.eqv da db else PyData.eqv da db)) H
theorem op_eqD : OpR X (compareOp .Eq) (rEqD X.A false) := by
  intro pins s σ H x y v u Q I rx ry h
  obtain ⟨da, db, sa, sb, la, lb, hu, q⟩ := h
  obtain ⟨_, ra⟩ := sa.reads I.hok rx
  obtain ⟨_, rb⟩ := sb.reads I.hok ry
  exact SeqAt.rcAt_reads ra rb la lb hu _ _ _ _ ⟨.bl _, H, I, rfl, q⟩
theorem op_neD : OpR X (compareOp .NotEq) (rEqD X.A true) := by
  intro pins s σ H x y v u Q I rx ry h
  obtain ⟨da, db, sa, sb, la, lb, hu, q⟩ := h
  obtain ⟨_, ra⟩ := sa.reads I.hok rx
  obtain ⟨_, rb⟩ := sb.reads I.hok ry
  exact SeqAt.compareNe_reads ra rb la lb hu ⟨.bl _, H, I, rfl, q⟩
end
def Itn (n : Nat) (val : Nat → V → Prop) : It := ⟨fun i _ => i < n, fun i H x H' => H' = H ∧ val i x, fun i _ => i = n⟩
theorem turn_walks {P : Program} {w : World} {K : PySem.W.Frag} {x : Str} {p : Pos} {I : Addr} {n : Nat} {Pv : Nat → Value → Prop} {St : Nat → Heap → Prop} {val : Nat → V → Prop}
    (W : ∀ A' : Around, A'.handled = none → Walks P w A' I [I] [I] n Pv St) (ho : ∀ i h, St i h → ∃ o, h.get? I = some o ∧ ∀ v, o.data ≠ .cell v) (hv : ∀ i u, Pv i u → ∃ v, RelV v u ∧ val i v)
    (hself : ∀ (A : Around) (i : Nat) (s : Shared) (Q : Value → Shared → Prop) (E : Value → Shared → Prop), St i s.heap → Q (.ref I) s → wpAny (model P w) A (pyIter (.ref I)) Q E s) :
    Turn P w K (.Name x p) (Itn n val) [I] I St where
  mem := by simp
  obj := fun i h st b hb => by
    have e : b = I := by simpa using hb
    subst e
    exact ho i h st
  keep := fun i h h' st k => (W { handled := none, depth := 0, frames := none, guards := none, units := 0 } rfl).frame i h h' st k
  item := by
    intro X hP hw hK hc i pins s σ H E J hf st hg
    subst hP hw hK
    obtain ⟨f0, f1, f2, f3, f4, f5⟩ := hf I (by simp)
    refine (W X.A (J.ok.hd hc)).item i s _ _ hg st fun v h' tk hPv st' kk => ?_
    obtain ⟨y, ry, vy⟩ := hv i v hPv
    have J1 : Inv X pins σ H { s with heap := h', toks := tk } := J.turned (fun b o hb e => kk b o (by simpa using hb) e) f0 f1 f3 f4 f5
    exact ⟨v, rfl, wpAny_pure ⟨y, H, J1, ry, ⟨rfl, vy⟩, st', fun b hb => (hf b hb).1⟩⟩
  done := by
    intro X hP hw hK hc i pins s σ H E J hf st hg
    subst hP hw hK
    obtain ⟨f0, f1, f2, f3, f4, f5⟩ := hf I (by simp)
    have e : i = n := hg
    subst e
    exact (W X.A (J.ok.hd hc)).done s _ _ st fun h' tk kk => ⟨rfl, J.turned (fun b o hb e => kk b o (by simpa using hb) e) f0 f1 f3 f4 f5⟩
  self := hself
theorem strIter_obj {h : Heap} {I : Addr} {n : String} {x : Str} {t : Tok} {i : Nat} (st : h.IsStrIter I n x t i) : ∃ o, h.get? I = some o ∧ ∀ v, o.data ≠ .cell v := by
  obtain ⟨o, e, _, d⟩ := st
  exact ⟨o, e, fun v z => by rw [d] at z; cases z⟩
section
variable {X : Cx}
def ItS (z : Str) : It := Itn z.cps.size fun i v => ∃ c, z.cps[i]? = some c ∧ v = .str ⟨#[c]⟩
def iStr (tl : TE) : TI := fun σ H R => tl σ H fun x H1 => ∃ z, x = .str z ∧ R (ItS z) H1
theorem signAt_V {z : Str} (i : Nat) (u : Value) (h : SignAt z i u) : ∃ v, RelV v u ∧ ∃ c, z.cps[i]? = some c ∧ v = .str ⟨#[c]⟩ := by
  obtain ⟨c, t, e, rfl⟩ := h
  exact ⟨.str ⟨#[c]⟩, ⟨t, rfl⟩, c, e, rfl⟩
theorem pi_str {l : Expr} {tl : TE} {x : Str} {p : Pos} (hl : PE X l tl) : PI X (.Name x p) l (iStr tl) := by
  intro pins s σ H R I h
  refine thn (hl pins s σ H _ I h) fun v s1 ⟨y, H1, I1, r1, q1⟩ => ?_
  obtain ⟨z, rfl, q⟩ := q1
  obtain ⟨t, rfl⟩ := r1
  have fin : ∀ (o : Obj), Inv X pins σ H1 { s1 with heap := s1.heap.push o } := fun o => I1.kept (t' := s1.toks) fun b o e => Heap.get?_push_of_some _ e
  have ff : ∀ b ∈ [s1.heap.objs.size], FpOk X pins H1 b := fun b hb => by
    have e : b = s1.heap.objs.size := by simpa using hb
    subst e
    exact I1.fpOk (Nat.le_refl _) I1.fresh
  cases ha : z.cps.all (· < 128)
  · refine wpAny_pyIter_wide ha ⟨s1.heap.objs.size, [s1.heap.objs.size], _, ItS z, H1, rfl, fin _, turn_walks (fun A' hA => Walks.strWide hA _ z t) (fun i h st => strIter_obj st) signAt_V (fun A i s Q E st h => wpAny_pyIter_striter_wide st h), ⟨_, Heap.get?_push_size _ rfl, rfl, rfl⟩, ff, q⟩
  · refine wpAny_pyIter_ascii ha ⟨s1.heap.objs.size, [s1.heap.objs.size], _, ItS z, H1, rfl, fin _, turn_walks (fun A' hA => Walks.strAscii hA _ z t) (fun i h st => strIter_obj st) signAt_V (fun A i s Q E st h => wpAny_pyIter_striter_ascii st h), ⟨_, Heap.get?_push_size _ rfl, rfl, rfl⟩, ff, q⟩
def rSlS : V → Option Int → Option Int → Hp → VK → Prop := fun x lo hi H Q => ∃ z : Str, x = .str z ∧ z.length ≤ sizeLine ∧ Q (.str (Txt.slice z lo hi)) H
theorem sl_str : SlR X rSlS := by
  intro pins s σ H x v vl vu lo hi sl Q I rx hs pl pu h
  obtain ⟨z, rfl, hz, q⟩ := h
  obtain ⟨t, rfl⟩ := rx
  refine ⟨"str", _, PySem.F.slot_str_getitem.lookup, typeIs_str _ _ _, ?_⟩
  obtain ⟨o, ho, hc, hd⟩ := hs
  have fin : ∀ t' k, EP X pins σ Q (.str (Txt.slice z lo hi) t') { s with toks := k } := fun t' k => ⟨.str _, H, I.tok _, ⟨t', rfl⟩, q⟩
  cases pl with
  | none =>
    cases pu with
    | none => exact wpAny_getItem_str_slice (l := none) (u := none) (st := none) ⟨o, ho, hc, hd⟩ rfl (post_val_or_str ⟨Nat.le_trans (Txt.slice_le z _ _) hz, fun t' k => fin t' k⟩)
    | int j tj => exact wpAny_getItem_str_slice (l := none) (u := some (j, tj)) (st := none) ⟨o, ho, hc, hd⟩ rfl (post_val_or_str ⟨Nat.le_trans (Txt.slice_le z _ _) hz, fun t' k => fin t' k⟩)
  | int i ti =>
    cases pu with
    | none => exact wpAny_getItem_str_slice (l := some (i, ti)) (u := none) (st := none) ⟨o, ho, hc, hd⟩ rfl (post_val_or_str ⟨Nat.le_trans (Txt.slice_le z _ _) hz, fun t' k => fin t' k⟩)
    | int j tj => exact wpAny_getItem_str_slice (l := some (i, ti)) (u := some (j, tj)) (st := none) ⟨o, ho, hc, hd⟩ rfl (post_val_or_str ⟨Nat.le_trans (Txt.slice_le z _ _) hz, fun t' k => fin t' k⟩)
end
open PySem.Builtin PySem.Builtin.Str in
theorem slice_codes (z : Str) (a b : Nat) (hab : a ≤ b) (hb : b ≤ z.length) : (Txt.slice z (some (a : Int)) (some (b : Int))).cps.toList = (z.cps.toList.drop a).take (b - a) := by
  unfold Txt.slice
  have e := StrLaws.sliced_plain z hab hb
  split
  · rename_i h
    rw [StrLaws.strSliceIndices_plain hab hb] at h
    simp only [List.length_map, List.length_range, Bool.and_eq_true, beq_iff_eq] at h
    have h2 : b - a = z.length := h.2
    have ha : a = 0 := by (first | lia | omega)
    subst ha
    have hz : z.cps.toList.length = z.length := by simp [Str.length]
    rw [List.drop_zero, List.take_of_length_le (by (first | lia | omega))]
  · rw [e]
end L2
set_option Elab.async false
set_option maxHeartbeats 4000000
namespace L2
open PySem PySem.Spec PyProof.Rows
def relabelS (scope outer : Scope) : List (Str × NameKind) :=
  scope.names.map fun (n, k) => if (k == .free && outer.kind == .function && outer.names.lookup n == some .cell) then (n, .cell) else (n, k)
def compOk (outer scope : Scope) (N N' : List Str) (nl : Nat) (ix : List Nat) : Bool :=
  (scope.kind == .function && scope.names.all fun x => x.2 != .cell && (x.2 != .local || scope.names.lookup x.1 == some .local) && (x.2 != .free || outer.names.lookup x.1 == some .cell)) &&
  (N'.length == nl + ix.length && (List.range ix.length).all fun k => match ix[k]? with
    | none => false
    | some j => match N[j]? with
      | none => false
      | some x => N'[nl + k]? == some x && outer.names.lookup x == some .cell && (relabelS scope outer).lookup x == some .cell && decide ((x, NameKind.free) ∈ scope.names))
theorem comp_of {X : Cx} {outer scope : Scope} {N N' : List Str} {nl : Nat} {ix : List Nat} (h1 : X.env.scope = outer) (h2 : X.N = N) (h : compOk outer scope N N' nl ix = true) : CompScope X scope ∧ Capt X scope N' nl ix := by
  unfold compOk at h
  simp only [Bool.and_eq_true, List.all_eq_true, beq_iff_eq, bne_iff_ne, Bool.or_eq_true, ne_eq, List.mem_range] at h
  obtain ⟨⟨hk, ha⟩, hl, hb⟩ := h
  have kd : ∀ x, X.env.kindOf x = outer.names.lookup x := fun x => by rw [← h1]; rfl
  refine ⟨⟨hk, fun x hx => (ha x hx).1.1, fun x hx e => ?_, fun x hx e => ?_⟩, ⟨hl, fun k j e => ?_⟩⟩
  · rcases (ha x hx).1.2 with z | z
    · exact absurd e z
    · exact z
  · rcases (ha x hx).2 with z | z
    · exact absurd e z
    · rw [kd]; exact z
  · have hk' : k < ix.length := (List.getElem?_eq_some_iff.mp e).1
    have q := hb k hk'
    rw [e] at q
    simp only at q
    cases ex : N[j]? with
    | none => rw [ex] at q; simp at q
    | some x =>
      rw [ex] at q
      simp only [Bool.and_eq_true, beq_iff_eq, decide_eq_true_eq] at q
      obtain ⟨⟨⟨q1, q2⟩, q3⟩, q4⟩ := q
      refine ⟨x, by rw [h2]; exact ex, q1, by rw [kd]; exact q2, ?_, q4⟩
      have er : (relabel scope X.env).names = relabelS scope outer := by rw [← h1]; rfl
      rw [er]; exact q3
def Nx (n i : Nat) (p : Prop) : Prop := ∃ m', m' < n - i ∧ m' = n - (i + 1) ∧ i + 1 ≤ n ∧ p
theorem nx {n i : Nat} {p : Prop} (h : i < n) (q : p) : Nx n i p := ⟨n - (i + 1), by (first | lia | omega), rfl, h, q⟩
def CompTurn (nl : Nat) (ix : List Nat) (g : TG) (tf : TT) (te : TE) (σ : St) (D : Addr) (ys : List V) (H : Hp) (x : V) (nxt : List V → Hp → Prop) : Prop :=
  g x (capt nl ix σ) H fun σ4 H4 => (σ4.length = (capt nl ix σ).length ∧ σ4.drop nl = ix.map fun j => (σ[j]?).join) ∧ tf σ4 H4 fun b H5 =>
    if b = true then te σ4 H5 fun y H6 => H6 D = some (.lst ys) ∧ ys.length < sizeLine ∧ nxt (ys ++ [y]) (upd H6 D (.lst (ys ++ [y]))) else nxt ys H5
def CompW (nl : Nat) (ix : List Nat) (g : TG) (tf : TT) (te : TE) (σ : St) (J : It) (H1 : Hp) (D : Addr) (Q : VK) : Prop :=
  ∃ W : Nat → Nat → List V → Hp → Prop, (∃ m, W 0 m [] (upd H1 D (.lst []))) ∧
  ∀ i m ys H2, W i m ys H2 → H2 D = some (.lst ys) ∧ ((J.stop i H2 ∧ Q (.ref D) H2) ∨ (J.go i H2 ∧ ∀ x H3, J.yld i H2 x H3 → CompTurn nl ix g tf te σ D ys H3 x fun ys' H' => ∃ m', m' < m ∧ W (i + 1) m' ys' H'))
theorem lcomp_eq (nl : Nat) (ix : List Nat) (wi : TI) (g : TG) (tf : TT) (te : TE) (σ : St) (H : Hp) (Q : VK) (h : wi σ H fun J H1 => ∀ D, H1 D = none → CompW nl ix g tf te σ J H1 D Q) : tLComp nl ix wi g tf te σ H Q := h
section
variable {nl : Nat} {ix : List Nat} {g : TG} {tf : TT} {te : TE} {σ : St} {H1 : Hp} {D : Addr} {Q : VK} (Pv : Nat → List V → Hp → Prop)
theorem comp_n {J : It} {n : Nat} (h0 : Pv 0 [] (upd H1 D (.lst []))) (hD : ∀ i ys H, Pv i ys H → H D = some (.lst ys)) (go : ∀ i ys H, i < n → Pv i ys H → J.go i H) (stop : ∀ ys H, Pv n ys H → J.stop n H)
    (hs : ∀ i ys H x H', i < n → Pv i ys H → J.yld i H x H' → CompTurn nl ix g tf te σ D ys H' x fun ys' H' => Nx n i (Pv (i + 1) ys' H'))
    (hd : ∀ ys H, Pv n ys H → Q (.ref D) H) : CompW nl ix g tf te σ J H1 D Q := by
  refine ⟨fun i m ys H => m = n - i ∧ i ≤ n ∧ Pv i ys H, ⟨n, by simp, Nat.zero_le _, h0⟩, ?_⟩
  rintro i m ys H ⟨rfl, hi, p⟩
  refine ⟨hD i ys H p, ?_⟩
  by_cases hlt : i < n
  · exact .inr ⟨go i ys H hlt p, fun x H' y => hs i ys H x H' hlt p y⟩
  · have e : i = n := by (first | lia | omega)
    subst e
    exact .inl ⟨stop ys H p, hd ys H p⟩
theorem comp_range {lo : Int} {n : Nat} (h0 : Pv 0 [] (upd H1 D (.lst []))) (hD : ∀ i ys H, Pv i ys H → H D = some (.lst ys))
    (hs : ∀ i ys H, i < n → Pv i ys H → CompTurn nl ix g tf te σ D ys H (.int (lo + i)) fun ys' H' => Nx n i (Pv (i + 1) ys' H')) (hd : ∀ ys H, Pv n ys H → Q (.ref D) H) : CompW nl ix g tf te σ (Itr lo n) H1 D Q := by
  refine comp_n (n := n) Pv h0 hD (fun _ _ _ hi _ => hi) (fun _ _ _ => Nat.le_refl _) (fun i ys H x H' hi p y => ?_) hd
  obtain ⟨e, y⟩ := y
  subst e y
  exact hs i ys H' hi p
theorem comp_list {K : PySem.W.Frag} {a : Addr} {xs : List V} (h0 : Pv 0 [] (upd H1 D (.lst []))) (hD : ∀ i ys H, Pv i ys H → H D = some (.lst ys)) (hl : ∀ i ys H, Pv i ys H → SqL K H a xs)
    (hs : ∀ i ys H x, xs[i]? = some x → Pv i ys H → CompTurn nl ix g tf te σ D ys H x fun ys' H' => Nx xs.length i (Pv (i + 1) ys' H')) (hd : ∀ ys H, Pv xs.length ys H → Q (.ref D) H) : CompW nl ix g tf te σ (Itl K a) H1 D Q := by
  refine comp_n (n := xs.length) Pv h0 hD (fun i ys H hi p => ⟨xs, xs[i], hl i ys H p, by simp [hi]⟩) (fun ys H p => ⟨xs, hl _ ys H p, Nat.le_refl _⟩) (fun i ys H x H' hi p y => ?_) hd
  obtain ⟨e, y⟩ := y
  subst e
  exact hs i ys H' x (y xs (hl i ys H' p)) p
theorem comp_str {z : Str} (h0 : Pv 0 [] (upd H1 D (.lst []))) (hD : ∀ i ys H, Pv i ys H → H D = some (.lst ys))
    (hs : ∀ i ys H c, z.cps[i]? = some c → Pv i ys H → CompTurn nl ix g tf te σ D ys H (.str ⟨#[c]⟩) fun ys' H' => Nx z.cps.size i (Pv (i + 1) ys' H')) (hd : ∀ ys H, Pv z.cps.size ys H → Q (.ref D) H) : CompW nl ix g tf te σ (ItS z) H1 D Q := by
  refine comp_n (n := z.cps.size) Pv h0 hD (fun _ _ _ hi _ => hi) (fun _ _ _ => rfl) (fun i ys H x H' hi p y => ?_) hd
  obtain ⟨e, c, ec, ex⟩ := y
  subst e ex
  exact hs i ys H' c ec p
end
end L2
namespace L2
open PySem PySem.Spec PyProof.Rows
section
variable {X : Cx} {K : PySem.W.Frag}
theorem ix_listK (hK : X.K = K) : IxR X (rIxL K) := by subst hK; exact ix_list
theorem call_lenK (hK : X.K = K) : CallR X (.builtin "len") (fun xs H Q => ∃ p ys, xs = [.ref p] ∧ (SqL K H p ys ∨ SqT K H p ys) ∧ Q (.int ys.length) H) := by subst hK; exact call_len_seq
theorem pg_tupK {pos : Pos} {es : List Expr} {k : Nat} {t : TGs} {n : Nat} (hK : X.K = K) (hc : X.calm = true) (h : PGs X es t) (hn : (assignEach es X.env).length = n := by rfl) (hst : (assignEach es X.env).findIdx? (·.1) = none := by rfl) : PG X (.Tuple es k pos) (gTup K n t) := by
  subst hK
  exact pg_tup hc h hn hst
end
end L2
namespace L2
open PySem PySem.Spec PyProof.Rows
theorem turn_name {nl : Nat} {ix : List Nat} {te : TE} {σ : St} {D : Addr} {ys : List V} {H : Hp} {x : V} {nxt : List V → Hp → Prop} {i : Nat} (h1 : ((capt nl ix σ).set i (some x)).drop nl = ix.map fun j => (σ[j]?).join)
    (h : te ((capt nl ix σ).set i (some x)) H fun y H6 => H6 D = some (.lst ys) ∧ ys.length < sizeLine ∧ nxt (ys ++ [y]) (upd H6 D (.lst (ys ++ [y])))) : CompTurn nl ix (gName i) tYes te σ D ys H x nxt := by
  unfold CompTurn gName tYes
  dsimp only
  rw [if_pos rfl]
  exact ⟨⟨by simp, h1⟩, h⟩
end L2
set_option Elab.async false
set_option maxHeartbeats 4000000
namespace L2
open PySem PySem.Spec PyProof.Rows
section
variable {X : Cx}
theorem call_isinst : CallR X (.builtin "isinstance") (fun xs H Q => ∃ (x : V) (T : String) (t : Value) (b : Bool), xs = [x, .ty T] ∧ TyOf X.K H x t ∧ PySem.W.kitOne X.K t (.type T) = some b ∧ Q (.bl b) H) := by
  intro pins s σ H xs us Q I r h
  obtain ⟨x, T, t, b, rfl, ty, e, q⟩ := h
  obtain ⟨u, v, rfl, rx, ry⟩ := vals2 r
  cases ry
  exact isinst_ok I rx ty e fun tk => ⟨.bl b, H, I.tok _, rfl, q⟩
theorem kit_same (K : PySem.W.Frag) (n : String) : PySem.W.kitOne K (.type n) (.type n) = some true := by
  unfold PySem.W.kitOne
  rw [if_pos (by simp)]
end
end L2
set_option Elab.async false
set_option maxHeartbeats 4000000
namespace L2
open PySem PySem.Spec PyProof.Rows
def leS (a b : Str) : Prop := ltCps b.cps.toList a.cps.toList = false
theorem leS_iff {a b : Str} : leS a b ↔ a.cps.toList ≤ b.cps.toList := by
  unfold leS
  rw [ltCps_eq]
  constructor
  · intro h
    exact List.not_lt.mp (of_decide_eq_false h)
  · intro h
    exact decide_eq_false (List.not_lt.mpr h)
theorem leS_antisymm {a b : Str} (h1 : leS a b) (h2 : leS b a) : a = b := by
  have e := List.le_antisymm (leS_iff.mp h1) (leS_iff.mp h2)
  cases a; cases b
  simp only at e
  rw [Str.mk.injEq]
  exact Array.toList_inj.mp e
theorem leS_trans {a b c : Str} (h1 : leS a b) (h2 : leS b c) : leS a c := leS_iff.mpr (List.le_trans (leS_iff.mp h1) (leS_iff.mp h2))
theorem risingS_all : ∀ {l : List Str} {p : Str}, risingS p l = true → (∀ x ∈ l, leS p x) ∧ l.Pairwise leS
  | [], p, _ => ⟨(fun x hx => nomatch hx), List.Pairwise.nil⟩
  | y :: r, p, h => by
    have h' : (!ltCps y.cps.toList p.cps.toList && risingS y r) = true := h
    rw [Bool.and_eq_true, Bool.not_eq_true'] at h'
    obtain ⟨i1, i2⟩ := risingS_all h'.2
    have py : leS p y := h'.1
    refine ⟨fun x hx => ?_, List.Pairwise.cons i1 i2⟩
    rcases List.mem_cons.mp hx with rfl | hx
    · exact py
    · exact leS_trans py (i1 x hx)
theorem sortedS_pairwise : ∀ {l : List Str}, sortedS l = true → l.Pairwise leS
  | [], _ => List.Pairwise.nil
  | _ :: _, h => let ⟨a, b⟩ := risingS_all h; List.Pairwise.cons a b
theorem sorted_one : ∀ {l1 l2 : List Str}, l1.Pairwise leS → l2.Pairwise leS → l1.Perm l2 → l1 = l2
  | [], l2, _, _, p => (List.nil_perm.mp p).symm ▸ rfl
  | a :: r, [], _, _, p => absurd p.length_eq (by simp)
  | a :: r, b :: t, h1, h2, p => by
    have ab : leS a b := by
      rcases List.mem_cons.mp (p.mem_iff.mpr List.mem_cons_self : b ∈ a :: r) with e | hb
      · subst e; exact leS_iff.mpr (List.le_refl _)
      · exact (List.pairwise_cons.mp h1).1 b hb
    have ba : leS b a := by
      rcases List.mem_cons.mp (p.mem_iff.mp List.mem_cons_self : a ∈ b :: t) with e | ha
      · subst e; exact leS_iff.mpr (List.le_refl _)
      · exact (List.pairwise_cons.mp h2).1 a ha
    have e := leS_antisymm ab ba
    subst e
    rw [sorted_one (List.pairwise_cons.mp h1).2 (List.pairwise_cons.mp h2).2 p.cons_inv]
end L2
namespace L2
open PySem PySem.Spec PyProof.Rows
theorem turn_two {K : PySem.W.Frag} {nl : Nat} {ix : List Nat} {te : TE} {σ : St} {D : Addr} {ys : List V} {H : Hp} {x : V} {nxt : List V → Hp → Prop} {i j : Nat} (a : Addr) (v1 v2 : V) (hx : x = .ref a) (hs : SqT K H a [v1, v2])
    (h1 : (((capt nl ix σ).set i (some v1)).set j (some v2)).drop nl = ix.map fun j => (σ[j]?).join)
    (h : te (((capt nl ix σ).set i (some v1)).set j (some v2)) H fun y H6 => H6 D = some (.lst ys) ∧ ys.length < sizeLine ∧ nxt (ys ++ [y]) (upd H6 D (.lst (ys ++ [y])))) :
    CompTurn nl ix (gTup K 2 (gCons (gName i) (gCons (gName j) gNil))) tYes te σ D ys H x nxt := by
  subst hx
  unfold CompTurn gTup gCons gName gNil tYes
  dsimp only
  refine ⟨a, [v1, v2], rfl, hs, rfl, v1, [v2], rfl, v2, [], rfl, rfl, ⟨by simp, h1⟩, ?_⟩
  rw [if_pos rfl]
  exact h
end L2
set_option Elab.async false
set_option maxHeartbeats 4000000
namespace L2
open PySem PySem.Spec PyProof.Rows
open PySem.Builtin PySem.Builtin.Str in
theorem idx_to (j n : Nat) : strSliceIndices none (some (j : Int)) 1 n = strSliceIndices (some ((0 : Nat) : Int)) (some ((min j n : Nat) : Int)) 1 n := by
  unfold strSliceIndices
  have h1 : ¬ ((j : Int) < 0) := by (first | lia | omega)
  have h2 : ¬ (((min j n : Nat) : Int) < 0) := by (first | lia | omega)
  have h3 : ¬ (((0 : Nat) : Int) < 0) := by (first | lia | omega)
  simp only [h1, h2, h3, if_false, show ((1 : Int) > 0) = True from by simp, if_true]
  congr 1 <;> (first | lia | omega)
open PySem.Builtin PySem.Builtin.Str in
theorem idx_from (i n : Nat) : strSliceIndices (some (i : Int)) none 1 n = strSliceIndices (some ((min i n : Nat) : Int)) (some ((n : Nat) : Int)) 1 n := by
  unfold strSliceIndices
  have h1 : ¬ ((i : Int) < 0) := by (first | lia | omega)
  have h2 : ¬ (((min i n : Nat) : Int) < 0) := by (first | lia | omega)
  have h3 : ¬ (((n : Nat) : Int) < 0) := by (first | lia | omega)
  simp only [h1, h2, h3, if_false, show ((1 : Int) > 0) = True from by simp, if_true]
  congr 1 <;> (first | lia | omega)
theorem slice_to (z : Str) (j : Nat) : (Txt.slice z none (some (j : Int))).cps.toList = z.cps.toList.take j := by
  have e : Txt.slice z none (some (j : Int)) = Txt.slice z (some ((0 : Nat) : Int)) (some ((min j z.length : Nat) : Int)) := by
    unfold Txt.slice
    rw [idx_to]
  rw [e, slice_codes z 0 (min j z.length) (Nat.zero_le _) (Nat.min_le_right _ _), List.drop_zero, Nat.sub_zero]
  have hz : z.cps.toList.length = z.length := by simp [Str.length]
  by_cases h : j ≤ z.length
  · rw [Nat.min_eq_left h]
  · rw [Nat.min_eq_right (by (first | lia | omega)), List.take_of_length_le (by (first | lia | omega)), List.take_of_length_le (by (first | lia | omega))]
theorem slice_from (z : Str) (i : Nat) : (Txt.slice z (some (i : Int)) none).cps.toList = z.cps.toList.drop i := by
  have e : Txt.slice z (some (i : Int)) none = Txt.slice z (some ((min i z.length : Nat) : Int)) (some ((z.length : Nat) : Int)) := by
    unfold Txt.slice
    rw [idx_from]
  have hz : z.cps.toList.length = z.length := by simp [Str.length]
  rw [e, slice_codes z (min i z.length) z.length (Nat.min_le_right _ _) (Nat.le_refl _)]
  by_cases h : i ≤ z.length
  · rw [Nat.min_eq_left h, List.take_of_length_le (by rw [List.length_drop]; (first | lia | omega))]
  · rw [Nat.min_eq_right (by (first | lia | omega)), Nat.sub_self, List.take_zero, List.drop_of_length_le (by (first | lia | omega))]
theorem pigeon {α : Type} [DecidableEq α] : ∀ (n : Nat) (g : Nat → α) (l : List α), (∀ i j, i < n → j < n → g i = g j → i = j) → (∀ i, i < n → g i ∈ l) → n ≤ l.length
  | 0, _, _, _, _ => Nat.zero_le _
  | n + 1, g, l, inj, mem => by
    have hm := mem n (Nat.lt_succ_self n)
    have ih := pigeon n g (l.erase (g n)) (fun i j hi hj e => inj i j (by (first | lia | omega)) (by (first | lia | omega)) e) fun i hi => by
      have ne : g i ≠ g n := fun e => by have := inj i n (by (first | lia | omega)) (by (first | lia | omega)) e; (first | lia | omega)
      exact (List.mem_erase_of_ne ne).mpr (mem i (by (first | lia | omega)))
    have hl := List.length_erase_of_mem hm
    have hp : 0 < l.length := List.length_pos_of_mem hm
    (first | lia | omega)
end L2
set_option Elab.async false
set_option maxHeartbeats 4000000
set_option maxRecDepth 100000
namespace L2
open PySem PySem.Spec PyProof.Rows
section
variable {M : Model} {A : Around} {E : Value → Shared → Prop} {s : Shared}
end
section
variable {prog : Program} {w : World} {h h' : Heap} {a : Addr} {es : Array (Int × Value)} {ep : Nat} {t : SetTable} {ss : List Str}
section
variable {A : Around} {E : Value → Shared → Prop} {s : Shared}
theorem nodup_perm_snoc {α : Type} {l : List α} {x : α} {l' : List α} (hn : l.Nodup) (hx : x ∉ l) (p : l'.Perm (l ++ [x])) : l'.Nodup := by
  refine p.nodup_iff.mpr ?_
  rw [List.nodup_append]
  refine ⟨hn, by simp, fun a ha b hb e => ?_⟩
  rw [List.mem_singleton.mp hb] at e
  exact hx (e ▸ ha)
end
end
end L2
set_option Elab.async false
set_option maxHeartbeats 4000000
set_option maxRecDepth 100000
namespace L2
open PySem PySem.Spec PyProof.Rows
section
variable {prog : Program} {w : World} {A : Around} {E : Value → Shared → Prop} {s : Shared} {a I : Addr} {es : Array (Int × Value)} {ep : Nat} {t : SetTable}
end
end L2
set_option Elab.async false
set_option maxHeartbeats 4000000
set_option maxRecDepth 100000
namespace L2
open PySem PySem.Spec PyProof.Rows
section
variable {prog : Program} {w : World} {A : Around} {E : Value → Shared → Prop} {s : Shared} {a I T : Addr} {es : Array (Int × Value)} {ep : Nat} {t : SetTable} {ps : List Nat}
end
end L2
set_option Elab.async false
set_option maxHeartbeats 4000000
set_option maxRecDepth 100000
namespace L2
open PySem PySem.Spec PyProof.Rows
section
variable {prog : Program} {w : World} {A : Around} {E : Value → Shared → Prop} {s : Shared} {a I T : Addr} {es : Array (Int × Value)} {ep : Nat} {t : SetTable} {ps : List Nat} {i : Nat}
end
end L2
set_option Elab.async false
set_option maxHeartbeats 4000000
set_option maxRecDepth 100000
namespace L2
open PySem PySem.Spec PyProof.Rows PySem.W
section
variable {prog : Program} {w : World} {A : Around} {E : Value → Shared → Prop} {s : Shared} {a I T : Addr} {es : Array (Int × Value)} {ep : Nat} {t : SetTable} {ps : List Nat} {i : Nat}
end
end L2
set_option Elab.async false
set_option maxHeartbeats 4000000
set_option maxRecDepth 100000
namespace L2
open PySem PySem.Spec PyProof.Rows
section
variable {prog : Program} {w : World} {A : Around} {R : Result → Shared → Prop} {I : Addr} {fp wr : List Addr} {G : Array GenState → Array GenState → Prop} {n : Nat} {P : Nat → Value → Prop} {St : Nat → Shared → Prop}
end
section
variable {prog : Program} {w : World} {A : Around} {E : Value → Shared → Prop} {s : Shared}
end
end L2
set_option Elab.async false
set_option linter.all false
set_option maxHeartbeats 4000000
set_option maxRecDepth 100000
namespace L2
open PySem PySem.Spec PyProof.Rows
section
variable {X : Cx}
end
section
variable {prog : Program} {w : World} {A : Around} {R : Result → Shared → Prop} {s : Shared}
end
section
variable {X : Cx}
end
end L2
set_option Elab.async false
set_option linter.all false
set_option maxHeartbeats 4000000
set_option maxRecDepth 100000
namespace L2
open PySem PySem.Spec PyProof.Rows PySem.W
section
variable {X : Cx} {pins : List (Addr × Obj)} {σ : St} {H : Hp} {s : Shared} {a : Addr} {o : Obj} {kvs : List (Key × V)}
end
section
variable {X : Cx} {tg : Expr}
end
section
variable {X : Cx}
end
end L2
set_option Elab.async false
set_option linter.all false
set_option maxHeartbeats 4000000
set_option maxRecDepth 100000
namespace L2
open PySem PySem.Spec PyProof.Rows
section
variable {nl : Nat} {ix : List Nat} {g : TG} {tf : TT} {tk tv : TE} {σ : St} {H1 : Hp} {D : Addr} {Q : VK} (Pv : Nat → List (Key × V) → Hp → Prop)
end
theorem turn_test {nl : Nat} {ix : List Nat} {te : TE} {tf : TT} {σ : St} {D : Addr} {ys : List V} {H : Hp} {x : V} {nxt : List V → Hp → Prop} {i : Nat} (h1 : ((capt nl ix σ).set i (some x)).drop nl = ix.map fun j => (σ[j]?).join)
    (h : tf ((capt nl ix σ).set i (some x)) H fun b H5 => if b = true then te ((capt nl ix σ).set i (some x)) H5 fun y H6 => H6 D = some (.lst ys) ∧ ys.length < sizeLine ∧ nxt (ys ++ [y]) (upd H6 D (.lst (ys ++ [y]))) else nxt ys H5) : CompTurn nl ix (gName i) tf te σ D ys H x nxt := by
  unfold CompTurn gName
  dsimp only
  exact ⟨⟨by simp, h1⟩, h⟩
end L2
set_option Elab.async false
set_option linter.all false
set_option maxHeartbeats 4000000
set_option maxRecDepth 100000
namespace L2
open PySem PySem.Spec PyProof.Rows
def tCut (t : TS) : TS := fun D σ H => ∃ N : St → Hp → Prop, (∀ σ' H', N σ' H' → D.nx σ' H') ∧ t { D with nx := N } σ H
theorem ps_cut {X : Cx} {st : Stmt} {t : TS} (h : PS X st t) : PS X st (tCut t) := by
  intro pins s σ H D I hw
  obtain ⟨N, hN, q⟩ := hw
  refine thn (h pins s σ H _ I q) fun f s1 q1 => ?_
  cases f with
  | next => obtain ⟨σ', H', I', n⟩ := q1; exact ⟨σ', H', I', hN _ _ n⟩
  | brk => exact q1
  | cont => exact q1
  | ret u => exact q1
theorem app_codes (a b : Str) : (a ++ b).cps.toList = a.cps.toList ++ b.cps.toList := by
  show (a.cps ++ b.cps).toList = _
  simp
theorem join_codes : ∀ ss : List Str, (Txt.join (Str.ofString "") ss).cps.toList = (ss.map (·.cps.toList)).flatten := by
  intro ss
  show (Builtin.Str.glued (PySem.Str.ofString "") ss).cps.toList = _
  rw [StrLaws.glued_eq_join]
  have e0 : (Str.ofString "").cps.toList = [] := by decide
  induction ss with
  | nil => rfl
  | cons a r ih =>
    cases r with
    | nil => simp [Str.join]
    | cons b r' =>
      have : Str.join (Str.ofString "") (a :: b :: r') = a ++ Str.ofString "" ++ Str.join (Str.ofString "") (b :: r') := rfl
      rw [this, app_codes, app_codes, e0, List.append_nil, ih]
      simp
end L2
set_option Elab.async false
set_option linter.all false
set_option maxHeartbeats 4000000
set_option maxRecDepth 100000
namespace L2
open PySem PySem.Spec PyProof.Rows
section
variable {X : Cx} {outer scope : Scope} {N N' : List Str} {nl : Nat} {ix : List Nat} {tg iter : Expr} {ifs : List Expr} {pos : Pos} {wi : TI} {g : TG} {tf : TT}
theorem pe_lc {elt : Expr} {te : TE} (h1 : X.env.scope = outer) (h2 : X.N = N) (hc : X.calm = true) (hi : PI X tg iter wi)
    (hg : ∀ C fp s₀ H₀, PG (X.comp scope N' C fp s₀ H₀) tg g) (hf : ∀ C fp s₀ H₀, PIf (X.comp scope N' C fp s₀ H₀) ifs tf) (he : ∀ C fp s₀ H₀, PE (X.comp scope N' C fp s₀ H₀) elt te)
    (hck : compOk outer scope N N' nl ix = true := by decide +kernel) (hs : ∀ x, foldedSetIterable iter X.env x = pure x := by intro _; rfl) : PE X (.ListComp elt [⟨tg, iter, ifs, 0⟩] scope pos) (tLComp nl ix wi g tf te) :=
  let ⟨S, Cp⟩ := comp_of h1 h2 hck
  pe_lcomp hc S Cp hi hg hf he hs
end
end L2
set_option Elab.async false
set_option linter.all false
set_option maxHeartbeats 4000000
set_option maxRecDepth 100000
namespace L2
open PySem PySem.Spec PyProof.Rows
section
variable {X : Cx} {pins : List (Addr × Obj)} {σ : St} {H : Hp} {s : Shared} {h' : Heap}
theorem Inv.turnedNew {t' : Nat} {fp : List Addr} {a : Addr} {o : HO} (I : Inv X pins σ H s) (k : ∀ b o, b ∉ fp → s.heap.get? b = some o → h'.get? b = some o) (hf : ∀ b ∈ fp, FpOk X pins H b) (hp : s.heap.objs.size ≤ a) (new : ObjOk X.prog X.w (upd H a o) h' a o) :
    Inv X pins σ (upd H a o) { s with heap := h', toks := t' } := by
  have ha : H a = none := I.hok.fresh hp
  have nit : ∀ b u, H b = some u → b ∉ fp := fun b u e z => by have := (hf b z).1; rw [e] at this; cases this
  have up : ∀ {b u}, H b = some u → upd H a o b = some u := fun {b u} e => by rw [upd_ne (ne_of_none e ha)]; exact e
  refine I.step (g' := s.gens) (d' := s.drawn) (ch := fp) (fun b hb => ?_) (fun b o _ _ hc e _ => k b o hc e) (fun b o _ _ hc e _ => ⟨o.slots, k b o hc e⟩) (fun b ob _ e n => ?_)
    (fun b o hc e => ⟨o, k b o hc e⟩) (fun _ _ e => up e) (fun _ _ _ e => up e) (fun b ps e => ⟨#[], by rw [up e]; simp⟩) (fun m hm => ?_) (fun b u e => ?_) I.bare
  · obtain ⟨f0, f1, f2, f3, f4, f5⟩ := hf b hb
    exact ⟨f3, f1, f4, f5⟩
  · rw [upd_ne (Nat.ne_of_lt (Nat.lt_of_lt_of_le (Heap.lt_size e) hp))]; exact n
  · obtain ⟨o, es, ep, ho, r⟩ := hm
    exact ⟨o, es, ep, k _ o (fun z => (hf _ z).2.1 rfl) ho, r⟩
  · by_cases hb : b = a
    · subst hb; rw [upd_same] at e; cases e; exact new
    · rw [upd_ne hb] at e
      refine (I.hok b u e).stay (fun c v hc q => k c v ?_ q) (fun _ q => up q) fun _ _ q => up q
      rcases hc with z | z
      · rw [z]; exact nit b u e
      · exact nit c _ z
end
section
variable {X : Cx}
theorem boot_enumerate : bootBuiltins "enumerate" = some (.type "enumerate") := by decide +kernel
end
end L2
set_option Elab.async false
set_option linter.all false
set_option maxHeartbeats 4000000
set_option maxRecDepth 100000
namespace L2
open PySem PySem.Spec PyProof.Rows
section
variable {prog : Program} {w : World} {A : Around} {E : Value → Shared → Prop} {s : Shared}
end
section
variable {X : Cx}
variable {o e : Expr} {es : List Expr} {to : TE} {t : TA} {name : Str} {apos cpos : Pos} {T id : String} {r : V → List V → Hp → VK → Prop} {ty : V → Hp → Prop}
theorem op_mul_str : OpR X (binaryOp .Mult) (fun x y H Q => ∃ z n, x = .str z ∧ y = .int n ∧ -1000000 ≤ n ∧ n ≤ 1000 ∧ z.length ≤ 1000 ∧ Q (.str (Txt.mul z n)) H) := by
  intro pins s σ H x y v u Q I rx ry h
  obtain ⟨z, n, rfl, rfl, h1, h2, h3, q⟩ := h
  obtain ⟨t, rfl⟩ := rx
  obtain ⟨t', rfl⟩ := ry
  refine SB.mul ⟨by simp; (first | lia | omega), fun a b => ?_, fun a b => ?_⟩ fun t' k => ⟨.str _, H, I.tok _, ⟨t', rfl⟩, q⟩
  · intro c
    have : (2 ^ 63 - 1 : Int) / n ≥ 1000 := by
      have : (1000 : Int) * n ≤ 2 ^ 63 - 1 := by (first | lia | omega)
      exact Int.le_ediv_of_mul_le (by (first | lia | omega)) this
    (first | lia | omega)
  · unfold Builtin.Str.tooLong
    have : z.length * n.toNat ≤ 1000 * 1000 := Nat.mul_le_mul h3 (by (first | lia | omega))
    have h4 : z.length * n.toNat ≤ sizeLine := Nat.le_trans this (by decide)
    simpa using h4
end
end L2
set_option Elab.async false
set_option linter.all false
set_option maxHeartbeats 4000000
set_option maxRecDepth 100000
namespace L2
open PySem PySem.Spec PyProof.Rows
section
variable {X : Cx} {K : PySem.W.Frag} {P : Program} {w : World}
end
end L2
set_option Elab.async false
set_option linter.all false
set_option maxHeartbeats 4000000
set_option maxRecDepth 100000
namespace L2
open PySem PySem.Spec PyProof.Rows
section
variable {X : Cx}
end
end L2
set_option Elab.async false
set_option linter.all false
set_option maxHeartbeats 4000000
set_option maxRecDepth 100000
namespace L2
open PySem PySem.Spec PyProof.Rows
section
variable {X : Cx} {K : PySem.W.Frag} {P : Program} {w : World}
end
end L2
set_option Elab.async false
set_option linter.all false
set_option maxHeartbeats 4000000
set_option maxRecDepth 100000
namespace L2
open PySem PySem.Spec PyProof.Rows
section
variable {X : Cx}
end
end L2
set_option Elab.async false
set_option linter.all false
set_option maxHeartbeats 4000000
set_option maxRecDepth 100000
namespace L2
open PySem PySem.Spec PyProof.Rows
section
variable {prog : Program} {w : World} {A : Around} {E : Value → Shared → Prop}
end
section
variable {X : Cx}
end
end L2
set_option linter.all false
namespace L2
theorem tvE {i : Nat} {σ : St} {H : Hp} {Q : VK} {v : V} (h : σ[i]? = some (some v)) (k : Q v H) : tVar i σ H Q := ⟨v, h, k⟩
end L2
set_option Elab.async false
set_option linter.all false
set_option maxHeartbeats 4000000
set_option maxRecDepth 100000
namespace L2
open PySem PySem.Spec PyProof.Rows
def kD : Key → PyData
  | .inl i => .int i
  | .inr x => .str x
mutual
inductive See (H : Hp) : V → PyData → Prop
  | non : See H .non .none
  | bl (b : Bool) : See H (.bl b) (.bool b)
  | int (i : Int) : See H (.int i) (.int i)
  | str (x : Str) : See H (.str x) (.str x)
  | lst {a : Addr} {vs : List V} {ds : List PyData} : H a = some (.lst vs) → SeeAll H vs ds → See H (.ref a) (.list ds)
  | tup {a : Addr} {vs : List V} {ds : List PyData} : H a = some (.tup vs) → SeeAll H vs ds → See H (.ref a) (.tuple ds)
  | dic {a : Addr} {kvs : List (Key × Str)} : H a = some (.dK (kvs.map fun p => (p.1, V.str p.2))) → See H (.ref a) (.dict (kvs.map fun p => (kD p.1, PyData.str p.2)))
inductive SeeAll (H : Hp) : List V → List PyData → Prop
  | nil : SeeAll H [] []
  | cons {v : V} {vs : List V} {d : PyData} {ds : List PyData} : See H v d → SeeAll H vs ds → SeeAll H (v :: vs) (d :: ds)
end
theorem kd_reads {P : Program} {w : World} {h : Heap} : ∀ {kvs : List (Key × Str)} {vs : List (Key × Value)} {es : List DictEntry}, KV (kvs.map fun p => (p.1, V.str p.2)) vs → Pairs (mixKind P w) es vs →
    ReadsAll h (es.map (·.key)) ((kvs.map fun p => (kD p.1, PyData.str p.2)).map (·.1)) [] ∧ ReadsAll h (es.map (·.val)) ((kvs.map fun p => (kD p.1, PyData.str p.2)).map (·.2)) []
  | [], _, _, r, q => by
    cases r
    cases q
    exact ⟨.nil, .nil⟩
  | (k, x) :: kvs, _, _, r, q => by
    cases r with
    | cons hr r2 =>
      cases q with
      | cons h1 h2 q2 =>
        obtain ⟨a1, a2⟩ := kd_reads (h := h) r2 q2
        obtain ⟨e1, t, e2⟩ := hr
        have e1' : k = _ := e1
        subst e1'
        refine ⟨?_, ?_⟩
        · rcases keyIs_shape h1 with ⟨i, u, ek, ev⟩ | ⟨y, u, ek, ev⟩
          · rw [List.map_cons, List.map_cons, List.map_cons, ev]
            simp only [ek, kD]
            exact .cons (.int i u) a1
          · rw [List.map_cons, List.map_cons, List.map_cons, ev]
            simp only [ek, kD]
            exact .cons (.str y u) a1
        · rw [List.map_cons, List.map_cons, List.map_cons, h2, e2]
          exact .cons (.str x t) a2
mutual
theorem See.reads {P : Program} {w : World} {H : Hp} {h : Heap} (ok : HOk P w H h) : ∀ {d : PyData} {v : V} {u : Value}, See H v d → RelV v u → ∃ as, Reads h u d as ∧ ∀ a ∈ as, H a ≠ none
  | _, _, _, .non, r => by cases r; exact ⟨_, .none, by simp⟩
  | _, _, _, .bl b, r => by cases r; exact ⟨_, .bool b, by simp⟩
  | _, _, _, .int i, r => by obtain ⟨t, rfl⟩ := r; exact ⟨_, .int i t, by simp⟩
  | _, _, _, .str x, r => by obtain ⟨t, rfl⟩ := r; exact ⟨_, .str x t, by simp⟩
  | _, _, _, .lst e q, r => by
    cases r
    obtain ⟨_, its, n, rv, g⟩ := ok _ _ e
    obtain ⟨as, ra, ha⟩ := SeeAll.reads ok q rv
    refine ⟨_, .list g rfl rfl (by simpa using ra), fun a hm => ?_⟩
    rcases List.mem_cons.mp hm with z | z
    · rw [z, e]; simp
    · exact ha a z
  | _, _, _, .tup e q, r => by
    cases r
    obtain ⟨_, its, rv, o, g, hc, n, hd⟩ := ok _ _ e
    obtain ⟨as, ra, ha⟩ := SeeAll.reads ok q rv
    exact ⟨_, .tuple g hc hd (by simpa using ra), ha⟩
  | _, _, _, .dic (a := a) e, r => by
    cases r
    obtain ⟨_, _, vs, rel, o, es, ep, g, hx, hd, _, pr, _⟩ := dk_of ok e
    obtain ⟨r1, r2⟩ := kd_reads (h := h) rel pr
    refine ⟨_, .dict g hx.1 hd r1 r2, fun b hm => ?_⟩
    have z : b = a := by simpa using hm
    rw [z, e]; simp
theorem SeeAll.reads {P : Program} {w : World} {H : Hp} {h : Heap} (ok : HOk P w H h) : ∀ {ds : List PyData} {vs : List V} {us : List Value}, SeeAll H vs ds → Vals vs us → ∃ as, ReadsAll h us ds as ∧ ∀ a ∈ as, H a ≠ none
  | _, _, _, .nil, r => by cases r; exact ⟨_, .nil, by simp⟩
  | _, _, _, .cons a b, r => by
    cases r with
    | cons r1 r2 =>
      obtain ⟨_, x, hx⟩ := See.reads ok a r1
      obtain ⟨_, y, hy⟩ := SeeAll.reads ok b r2
      exact ⟨_, .cons x y, fun c hc => (List.mem_append.mp hc).elim (hx c) (hy c)⟩
end
mutual
theorem See.same {H H' : Hp} : ∀ {d : PyData} {v : V}, Same H H' → See H v d → See H' v d
  | _, _, _, .non => .non
  | _, _, _, .bl b => .bl b
  | _, _, _, .int i => .int i
  | _, _, _, .str x => .str x
  | _, _, k, .lst e q => .lst (k _ _ e) (SeeAll.same k q)
  | _, _, k, .tup e q => .tup (k _ _ e) (SeeAll.same k q)
  | _, _, k, .dic e => .dic (k _ _ e)
theorem SeeAll.same {H H' : Hp} : ∀ {ds : List PyData} {vs : List V}, Same H H' → SeeAll H vs ds → SeeAll H' vs ds
  | _, _, _, .nil => .nil
  | _, _, k, .cons a b => .cons (See.same k a) (SeeAll.same k b)
end
theorem SeeAll.strs {H : Hp} : ∀ ss : List Str, SeeAll H (ss.map V.str) (ss.map PyData.str)
  | [] => .nil
  | s :: r => .cons (.str s) (SeeAll.strs r)
theorem SeeAll.append {H : Hp} : ∀ {vs ws : List V} {ds es : List PyData}, SeeAll H vs ds → SeeAll H ws es → SeeAll H (vs ++ ws) (ds ++ es)
  | _, _, _, _, .nil, q => q
  | _, _, _, _, .cons a b, q => .cons a (SeeAll.append b q)
theorem SeeAll.length {H : Hp} : ∀ {vs : List V} {ds : List PyData}, SeeAll H vs ds → vs.length = ds.length
  | _, _, .nil => rfl
  | _, _, .cons _ b => by rw [List.length_cons, List.length_cons, SeeAll.length b]
theorem SeeAll.get {H : Hp} : ∀ {vs : List V} {ds : List PyData} {i : Nat} {v : V}, SeeAll H vs ds → vs[i]? = some v → ∃ d, ds[i]? = some d ∧ See H v d
  | _, _, _, _, .nil, e => by simp at e
  | _, _, 0, _, .cons a b, e => by
    simp at e
    subst e
    exact ⟨_, rfl, a⟩
  | _, _, i + 1, _, .cons a b, e => by
    simp at e
    obtain ⟨d, h1, h2⟩ := b.get e
    exact ⟨d, by simpa using h1, h2⟩
mutual
theorem See.reprK {P : Program} {w : World} {H : Hp} {h : Heap} (ok : HOk P w H h) : ∀ {d : PyData} {v : V} {u : Value}, See H v d → RelV v u → d.showable = true → d.shown.length ≤ sizeLine →
    ∃ bs, ReadAtMost h d.depth bs ∧ ReprK P w bs h d.depth u d.shown
  | _, _, _, .non, r, _, _ => by cases r; exact ⟨[], (fun _ z => nomatch z), by simp only [PyData.shown]; exact ReprK.of_is ReprIs.none _ _ _⟩
  | _, _, _, .bl b, r, _, _ => by cases r; exact ⟨[], (fun _ z => nomatch z), by simp only [PyData.shown]; exact ReprK.of_is (ReprIs.bool b) _ _ _⟩
  | _, _, _, .int i, r, hs, _ => by obtain ⟨t, rfl⟩ := r; exact ⟨[], (fun _ z => nomatch z), by simp only [PyData.shown]; exact ReprK.of_is (ReprIs.int t (by simpa [PyData.showable] using hs)) _ _ _⟩
  | _, _, _, .str x, r, _, hz => by obtain ⟨t, rfl⟩ := r; exact ⟨[], (fun _ z => nomatch z), by simp only [PyData.shown]; exact ReprK.of_is (ReprIs.str x t (by simpa only [PyData.shown] using hz)) _ _ _⟩
  | _, _, _, .lst (a := a) (ds := ds) e q, r, hs, hz => by
    have rd := See.reads ok (See.lst e q) r
    cases r
    obtain ⟨_, its, n, rv, g⟩ := ok _ _ e
    have zz : (listText (PyData.shownAll ds)).length ≤ sizeLine := hz
    obtain ⟨bs, hb, hk⟩ := SeeAll.reprK ok q rv hs fun t ht => Nat.le_trans (listText_mem_le ht) zz
    obtain ⟨as, rd, _⟩ := rd
    have hna : a ∉ bs := not_mem_of_deeper rd (by simp only [PyData.depth]; (first | lia | omega)) hb
    refine ⟨a :: bs, ReadAtMost.cons rd (by simp only [PyData.depth]; (first | lia | omega)) hb, ?_⟩
    simp only [PyData.depth, PyData.shown]
    cases its with
    | nil =>
      cases rv
      cases q
      simp only [PyData.shownAll, listText_nil]
      exact ReprK.listEmpty g rfl rfl
    | cons y l => exact ReprK.list g rfl rfl hna (by simpa using hk.length_eq) fun i z ez => hk.item i z (by simpa using ez)
  | _, _, _, .tup (a := a) (ds := ds) e q, r, hs, hz => by
    have rd := See.reads ok (See.tup e q) r
    cases r
    obtain ⟨_, its, rv, o, g, hc, n, hd⟩ := ok _ _ e
    have zz : (tupleText (PyData.shownAll ds)).length ≤ sizeLine := hz
    obtain ⟨bs, hb, hk⟩ := SeeAll.reprK ok q rv hs fun t ht => Nat.le_trans (tupleText_mem_le ht) zz
    obtain ⟨as, rd, _⟩ := rd
    have hna : a ∉ bs := not_mem_of_deeper rd (by simp only [PyData.depth]; (first | lia | omega)) hb
    refine ⟨a :: bs, ReadAtMost.cons rd (by simp only [PyData.depth]; (first | lia | omega)) hb, ?_⟩
    simp only [PyData.depth, PyData.shown]
    exact ReprK.tuple g hc hd hna (by simpa using hk)
  | _, _, _, .dic (a := a) (kvs := kvs) e, r, hs, hz => by
    obtain ⟨as, rd, _⟩ := See.reads ok (See.dic e) r
    cases r
    obtain ⟨_, hsys, vs, rel, o, es, ep, g, hx, hd, _, pr, _⟩ := dk_of ok e
    obtain ⟨r1, r2⟩ := kd_reads (h := h) rel pr
    have rr : Reads h (.ref a) (.dict (kvs.map fun p => (kD p.1, PyData.str p.2))) ([a] ++ []) := .dict g hx.1 hd r1 r2
    exact ReprK.of_reads rr hs (fun _ hm => (beq_eq_false_iff_ne.mp hsys) (List.mem_singleton.mp (by simpa using hm)).symm) hz
theorem SeeAll.reprK {P : Program} {w : World} {H : Hp} {h : Heap} (ok : HOk P w H h) : ∀ {ds : List PyData} {vs : List V} {us : List Value}, SeeAll H vs ds → Vals vs us → PyData.showableAll ds = true → (∀ t ∈ PyData.shownAll ds, t.length ≤ sizeLine) →
    ∃ bs, ReadAtMost h (PyData.depthAll ds) bs ∧ ReprAllK P w bs h (PyData.depthAll ds) us (PyData.shownAll ds)
  | _, _, _, .nil, r, _, _ => by cases r; exact ⟨[], (fun _ z => nomatch z), by simp only [PyData.shownAll]; exact ReprAllK.nil⟩
  | _, _, _, .cons a b, r, hs, hz => by
    cases r with
    | cons r1 r2 =>
      simp only [PyData.showableAll, Bool.and_eq_true] at hs
      obtain ⟨b1, m1, k1⟩ := See.reprK ok a r1 hs.1 (hz _ (by simp only [PyData.shownAll]; exact List.mem_cons_self))
      obtain ⟨b2, m2, k2⟩ := SeeAll.reprK ok b r2 hs.2 fun t ht => hz t (by simp only [PyData.shownAll]; exact List.mem_cons_of_mem _ ht)
      refine ⟨b1 ++ b2, (m1.mono ?_).append (m2.mono ?_), ?_⟩
      · simp only [PyData.depthAll]; (first | lia | omega)
      · simp only [PyData.depthAll]; (first | lia | omega)
      · simp only [PyData.depthAll, PyData.shownAll]
        exact .cons ((k1.more fun c hc => List.mem_append_left _ hc).level_le (by (first | lia | omega))) (k2.more_le (fun c hc => List.mem_append_right _ hc) (by (first | lia | omega)))
end
section
variable {X : Cx}
theorem repr_see {P : Program} {w : World} {A : Around} {E : Value → Shared → Prop} {s : Shared} {Q : Value → Shared → Prop} {H : Hp} {a : Addr} {d : PyData} (ok : HOk P w H s.heap) (sd : See H (.ref a) d) (hs : d.showable = true) (hz : d.shown.length ≤ sizeLine)
    (hg : A.guards = some []) (hu : A.units + (d.depth + 1) < cLine) (hQ : ∀ h' u tk, (∀ b o, s.heap.get? b = some o → h'.get? b = some o) → Q (.str d.shown u) { s with heap := h', toks := tk }) :
    wpAny (model P w) A (call (.builtin "repr") [.ref a]) Q E s := by
  have rd := See.reads ok sd (show RelV (.ref a) (.ref a) from rfl)
  cases sd with
  | @lst _ vs ds e q =>
    obtain ⟨_, its, n, rv, g⟩ := ok _ _ e
    have zz : (listText (PyData.shownAll ds)).length ≤ sizeLine := hz
    obtain ⟨bs, hb, hk⟩ := SeeAll.reprK ok q rv hs fun t ht => Nat.le_trans (listText_mem_le ht) zz
    obtain ⟨as, rd, _⟩ := rd
    have hna : a ∉ bs := not_mem_of_deeper rd (by simp only [PyData.depth]; (first | lia | omega)) hb
    simp only [PyData.depth] at hu
    refine call_repr_slot (by (first | lia | omega)) ⟨_, g, rfl⟩ F.slot_list_repr.toG ?_
    simp only [PyData.shown] at hQ
    cases its with
    | nil =>
      cases rv
      cases q
      simp only [PyData.shownAll, listText_nil] at hQ
      exact call_list_repr_empty ⟨_, g, rfl⟩ g rfl ⟨_, _, rfl, hQ s.heap _ _ fun _ _ z => z⟩
    | cons y l => exact call_list_reprK g rfl rfl hna (by simpa using hk.length_eq) (fun i z ez => hk.item i z (by simpa using ez)) hg (fun b _ => Clear.nil b) (by show A.units + 1 + _ < cLine; (first | lia | omega)) (fun _ _ z => z) (fun h' u tk k => ⟨_, _, rfl, hQ h' u tk k⟩) zz
  | @tup _ vs ds e q =>
    obtain ⟨_, its, rv, o, g, hc, n, hd⟩ := ok _ _ e
    have zz : (tupleText (PyData.shownAll ds)).length ≤ sizeLine := hz
    obtain ⟨bs, hb, hk⟩ := SeeAll.reprK ok q rv hs fun t ht => Nat.le_trans (tupleText_mem_le ht) zz
    obtain ⟨as, rd, _⟩ := rd
    have hna : a ∉ bs := not_mem_of_deeper rd (by simp only [PyData.depth]; (first | lia | omega)) hb
    simp only [PyData.depth] at hu
    refine call_repr_slot (by (first | lia | omega)) ⟨_, g, hc⟩ F.slot_tuple_repr ?_
    simp only [PyData.shown] at hQ
    exact call_tuple_reprK g hc hd hna (by simpa using hk) hg (fun b _ => Clear.nil b) (by show A.units + 1 + _ < cLine; (first | lia | omega)) (fun _ _ z => z) (fun h' u tk k => ⟨_, _, rfl, hQ h' u tk k⟩) zz
  | @dic _ kvs e =>
    obtain ⟨_, hsys, vs, rel, o, es, ep, g, hx, hd, _, pr, _⟩ := dk_of ok e
    obtain ⟨r1, r2⟩ := kd_reads (h := s.heap) rel pr
    have rr : Reads s.heap (.ref a) (.dict (kvs.map fun p => (kD p.1, PyData.str p.2))) ([a] ++ []) := .dict g hx.1 hd r1 r2
    exact repr_of_reads' rr hs (fun _ hm => (beq_eq_false_iff_ne.mp hsys) (List.mem_singleton.mp (by simpa using hm)).symm) hg hu (fun _ _ z => z) hQ hz
theorem call_repr (hg : X.A.guards = some []) : CallR X (.builtin "repr") (fun xs H Q => ∃ (x : V) (d : PyData), xs = [x] ∧ (x = .non ∨ ∃ a, x = .ref a) ∧ See H x d ∧ d.showable = true ∧ d.leavesShort 13 = true ∧ d.bulk ≤ 1000000 ∧ X.A.units + (d.depth + 1) < cLine ∧ Q (.str d.shown) H) := by
  intro pins s σ H xs us Q I r h
  obtain ⟨x, d, rfl, hx, sd, hs, hl, hb, hu, q⟩ := h
  obtain ⟨u, rfl, ru⟩ := vals1 r
  rcases hx with rfl | ⟨a, rfl⟩
  · cases ru
    cases sd
    exact P.repr_of_none ⟨.str _, H, I.tok _, ⟨_, rfl⟩, q⟩
  · cases ru
    exact repr_see I.hok sd hs (PyData.shown_fits_bulk (B := 13) (by decide) (by decide) hl (by (first | lia | omega))) hg hu fun h' t tk k => ⟨.str _, H, I.kept (t' := tk) k, ⟨t, rfl⟩, q⟩
def rStrip : V → List V → Hp → VK → Prop := fun x vs H Q => ∃ z y : Str, x = .str z ∧ vs = [.str y] ∧ z.length ≤ sizeLine ∧ Q (.str (Txt.stripChars z y)) H
theorem mt_strip : MtM X "str.strip" rStrip := by
  intro pins s σ H x vs v us Q I rx rv h
  obtain ⟨z, y, rfl, rfl, hz, q⟩ := h
  obtain ⟨t, rfl⟩ := rx
  obtain ⟨u, rfl, t2, rfl⟩ := rv.one
  exact call_gives F.slot_str_strip (typeIs_str _ _ _) F.entry_str_strip (F.args_str_strip_2 _ _) (gives_str_strip_chars z y t t2) (post_val_or_made (fun _ => fits_stripped _ _ _ hz) fun t' k => ⟨.str _, H, I.tok _, ⟨t', rfl⟩, q⟩)
theorem op_isB : OpR X (compareOp .Is) (fun x y H Q => ∃ a b : Bool, x = .bl a ∧ y = .bl b ∧ Q (.bl (a == b)) H) := by
  intro pins s σ H x y v u Q I rx ry h
  obtain ⟨a, b, rfl, rfl, q⟩ := h
  cases rx
  cases ry
  refine wpAny_pure (fin_bl I q ?_)
  cases a <;> cases b <;> rfl
theorem op_isNotB : OpR X (compareOp .IsNot) (fun x y H Q => ∃ a b : Bool, x = .bl a ∧ y = .bl b ∧ Q (.bl (!(a == b))) H) := by
  intro pins s σ H x y v u Q I rx ry h
  obtain ⟨a, b, rfl, rfl, q⟩ := h
  cases rx
  cases ry
  refine wpAny_pure (fin_bl I q ?_)
  cases a <;> cases b <;> rfl
end
end L2
set_option Elab.async false
set_option linter.all false
set_option maxHeartbeats 4000000
set_option maxRecDepth 100000
namespace L2
open PySem PySem.Spec PyProof.Rows
structure FnOkG (P : Program) (w : World) (K : PySem.W.Frag) (mg : Str → Option Value) (base : Heap) (CX : CXT) (k : Nat) (f : Addr) (fd : FuncData) (ps : List Str) (sp : Sp) : Prop where
  len : ∀ vs H Q E, sp vs H Q E → vs.length = ps.length
  run : ∀ (A : Around) (outer : List Env) (s : Shared) (H : Hp) (args : Args) (us : List Value) (vs : List V) (Q : VK) (E : XK), A.guards = some [] → Room k A → Env0 P w K mg base A outer s H → BindsTo s fd args (ps.zip us) → Vals vs us → sp vs H Q E →
    codeAny (model P w) A (.call (.ref f) args) (CR CX outer P w H s Q E) s
theorem fn_ofG {CX : CXT} {P : Program} {w : World} {K : PySem.W.Frag} {mg : Str → Option Value} {base : Heap} {k : Nat} {f : Addr} {name qual : Str} {params : Arguments} {body : List Stmt} {scope : Scope} {dV kV doc pm cdv ct oc : Value} {an od : Option Addr}
    {osl : Array (Option Value)} {N ps : List Str} {sp : Sp} (lk : K.lookup f = some ⟨oc, od, .func (PySem.W.fnOf name qual params body scope dV kV doc pm an cdv ct), osl⟩) (hcd : PySem.W.codeIn K cdv qual = true) (S : FnScope N ps scope)
    (len : ∀ vs H Q E, sp vs H Q E → vs.length = ps.length)
    (hbody : ∀ (A : Around) (outer : List Env) (s : Shared) (H : Hp) (vs : List V) (Q : VK) (E : XK), A.guards = some [] → Room k (A.deeper (envOfC qual scope s.heap.objs.size f cdv)) → sp vs H Q E →
      ∃ t, PSs (cxOf CX P w K mg base N qual scope f cdv A outer s H E) body t ∧ t { nx := fun _ H' => Q .non H', rt := Q } (start N vs) H) :
    FnOkG P w K mg base CX (k + 1) f (PySem.W.fnOf name qual params body scope dV kV doc pm an cdv ct) ps sp := by
  refine ⟨len, fun A outer s H args us vs Q E hg0 hr e0 hb r hsp => ?_⟩
  have hl := len _ _ _ _ hsp
  have KX : K.In s.heap := e0.mod.kin.keeps fun b o e => (e0.bs b o e).1
  have lim : s.heap.NoLimit := e0.mod.nolimit.keeps fun b o e => (e0.bs b o e).1
  have hkind : ∀ y ∈ ps.zip us, scope.names.lookup y.1 = some .local ∨ (scope.names.lookup y.1 = some .cell ∧ ((cellsFrom (s.heap.objs.size + 1) scope.names []).lookup y.1).isSome = true) := fun ⟨n, v⟩ hy => by
    rcases S.par n (List.of_mem_zip hy).1 with q | q
    · exact .inl q
    · exact .inr ⟨q, PySem.W.cellsFrom_some _ _ _ (.inl q)⟩
  refine codeAny_call_function hr.depth (KX _ _ lk) rfl S.co S.gen rfl (PySem.W.codeRec_of KX hcd) (hb _ _ _ _ ?_)
  refine wpAny_newFunctionEnv_cells S.kind hkind fun env he s1 x => ?_
  subst he
  refine ⟨lim.keeps x.toInCall.keep, codeAny_func ?_⟩
  obtain ⟨t, ht, hq⟩ := hbody A outer s H vs Q E hg0 (hr.deeper _) hsp
  have I : Inv (cxOf CX P w K mg base N qual scope f cdv A outer s H E) [] (start N vs) H s1 := inv_start S hr.hd e0 hl r x
  refine wpAny_mono (ht [] s1 (start N vs) H _ I hq) (fun fl s' hs => ?_) fun e s' hs => hs
  have fin : ∀ {σ' : St} {H' : Hp} {v : V} {u : Value}, Inv (cxOf CX P w K mg base N qual scope f cdv A outer s H E) [] σ' H' s' → RelV v u → Q v H' → CE outer P w H s Q u s' :=
    fun {σ' H' v u} J rv q => ⟨v, H', J.os, J.bare, J.base, J.hok, rv, q⟩
  cases fl with
  | ret u =>
    obtain ⟨v, σ', H', J, rv, q⟩ := hs
    exact fin J rv q
  | next =>
    obtain ⟨σ', H', J, q⟩ := hs
    exact fin (v := V.non) (u := Value.none) J rfl q
  | brk =>
    obtain ⟨_, _, _, q⟩ := hs
    exact False.elim q
  | cont =>
    obtain ⟨_, _, _, q⟩ := hs
    exact False.elim q
section
variable {P : Program} {w : World} {K : PySem.W.Frag} {mg : Str → Option Value} {base : Heap}
theorem Fun.okG {x qual : Str} {st : Stmt} {f : Addr} {fd : FuncData} {N ps : List Str} {k : Nat} {sp : Sp} (F : Fun K x qual st f fd) (S : FnScope N ps (defScope st)) (len : ∀ vs H Q E, sp vs H Q E → vs.length = ps.length)
    (hbody : ∀ (cdv : Value) (A : Around) (outer : List Env) (s : Shared) (H : Hp) (vs : List V) (Q : VK) (E : XK), A.guards = some [] → Room k (A.deeper (envOfC qual (defScope st) s.heap.objs.size f cdv)) → sp vs H Q E →
      ∃ t, PSs (cxOf CX0 P w K mg base N qual (defScope st) f cdv A outer s H E).nox (defBody st) t ∧ t { nx := fun _ H' => Q .non H', rt := Q } (start N vs) H) : FnOkG P w K mg base CX0 (k + 1) f fd ps sp := by
  obtain ⟨oc, od, kV, doc, pm, an, cdv, ct, osl, rfl, lk, hcd⟩ := F.ex
  refine fn_ofG lk hcd S len fun A outer s H vs Q E hg0 hr hsp => ?_
  obtain ⟨t, h, q⟩ := hbody cdv A outer s H vs Q E hg0 hr hsp
  exact ⟨t, h.nox, q⟩
end
theorem law_callG {P : Program} {w : World} {K : PySem.W.Frag} {mg mb : Str → Option Value} {CX : CXT} {k : Nat} {fa a : Addr} {fd : FuncData} {x : Str} {sp : Sp} {s₁ : Shared} {vs : List Value} {ns : List Int}
    (KX : K.In s₁.heap) (hns : s₁.heap.Ns mainGlobals mg) (hb : s₁.heap.Ns builtinsNs mb) (hbb : ∀ x : Str, x ≠ "__name__" → mb x = bootBuiltins x) (hlim : s₁.heap.NoLimit) (hg : s₁.gens = #[])
    (ha : s₁.heap.get? a = some { cls := .type "list", data := .seq vs.toArray }) (hi : IntsAre vs ns) (hl : ns.length ≤ sizeLine) (hr : Room k callerA)
    (F : ∀ base : Heap, K.In base → base.Ns mainGlobals mg → FnOkG P w K mg base CX k fa fd [x] sp) (hbind : ∀ (s : Shared) (u : Value), BindsTo s fd ⟨[u], []⟩ [(x, u)])
    (hsp : ∀ H : Hp, Only H → SqL K H a (ns.map V.int) → sp [.ref a] H (fun v _ => v = .bl true) fun _ _ _ => False)
    (hCX : ∀ H e s', CX [] H s₁ (fun _ _ _ => False) e s' → False) :
    codeAny (model P w) callerA (.call (.ref fa) ⟨[.ref a], []⟩) (fun r s' => r = .ok (.ret (.bool true)) ∧ OldK s₁.heap s'.heap ∧ s'.os = s₁.os ∧ AllBare s'.gens) s₁ := by
  have rv := vals_ints hi
  have lenV := hi.length
  have core : ∀ H : Hp, Only H → SqL K H a (ns.map V.int) → HOk P w H s₁.heap → (∀ b, H b ≠ none → b = a) → (H a ≠ none → K.lookup a = none) →
      codeAny (model P w) callerA (.call (.ref fa) ⟨[.ref a], []⟩) (fun r s' => r = .ok (.ret (.bool true)) ∧ OldK s₁.heap s'.heap ∧ s'.os = s₁.os ∧ AllBare s'.gens) s₁ := by
    intro H hO hS hok hA hK
    have base_of : ∀ {b : Addr} {o : Obj}, s₁.heap.get? b = some o → H b = none → (hidT s₁.heap H).get? b = some o := fun e n => hidT_get e n
    have noA : ∀ {b : Addr} {o : Obj} {es : Array DictEntry} {ep : Nat}, s₁.heap.get? b = some o → o.data = .dict es ep → H b = none := fun {b o es ep} e d => by
      cases q : H b with
      | none => rfl
      | some u =>
        have e' : b = a := hA b (by rw [q]; simp)
        subst e'
        rw [ha] at e; cases e
        have d' : Data.seq vs.toArray _ = Data.dict es ep := d
        cases d'
    have nsK : ∀ {b : Addr} {m : Str → Option Value}, s₁.heap.Ns b m → (hidT s₁.heap H).Ns b m := fun {b m} ⟨o, es, ep, e, d, r⟩ => ⟨o, es, ep, base_of e (noA e d), d, r⟩
    have hKb : K.In (hidT s₁.heap H) := fun b o e => base_of (KX b o e) (by
      cases q : H b with
      | none => rfl
      | some u =>
        have e' : b = a := hA b (by rw [q]; simp)
        subst e'
        rw [hK (by rw [q]; simp)] at e; cases e)
    have hM : Mod K mg (hidT s₁.heap H) := ⟨hKb, nsK hns, ⟨mb, nsK hb, hbb⟩, let ⟨mc, h1, h2⟩ := hlim; ⟨mc, nsK h1, h2⟩⟩
    have e0 : Env0 P w K mg (hidT s₁.heap H) callerA [] s₁ H := ⟨rfl, hM, fun b o e => of_hidT e, Nat.le_of_eq (hidT_size _ _), trivial, fun b hb => absurd (show b ∈ ([] : List Addr) from hb) (by simp), hok, .of_eq hg⟩
    refine codeAny_mono ((F _ hKb (nsK hns)).run callerA [] s₁ H ⟨[.ref a], []⟩ [.ref a] [.ref a] _ _ rfl hr e0 (hbind s₁ (.ref a)) (.cons rfl .nil) (hsp H hO hS)) fun r s' h => ?_
    cases r with
    | error e => exact (hCX H e s' h).elim
    | ok fl =>
      cases fl with
      | next => exact False.elim h
      | brk => exact False.elim h
      | cont => exact False.elim h
      | ret u =>
        obtain ⟨v, H', os, bare, un, hok', r', q⟩ := h
        have q' : v = .bl true := q
        subst q'
        obtain rfl : u = Value.bool true := r'
        refine ⟨rfl, OldK.of_keep fun b o e => ?_, os, bare⟩
        cases q : H b with
        | none => exact un.keep b o e q (by intro z; exact absurd (show b ∈ ([] : List Addr) from z) (by simp)) (by simp)
        | some u =>
          rcases hO b with z | ⟨ob, xs, z⟩
          · rw [q] at z; cases z
          · have z2 := un.frzs b ob _ z
            obtain ⟨e1, _⟩ := hok b _ z
            obtain ⟨e2, _⟩ := hok' b _ z2
            rw [e] at e1; cases e1
            exact e2
  cases hk : K.lookup a with
  | some o =>
    have e := KX a o hk
    rw [ha] at e
    cases e
    refine core (fun _ => none) (fun _ => .inl rfl) (.inr ⟨_, vs.toArray, _, hk, rfl, rfl, rfl, by rw [List.size_toArray, lenV]; exact hl, by simpa using rv⟩) (fun b u z => by have z' : (none : Option HO) = some u := z; cases z') (fun b z => absurd rfl z) fun z => absurd rfl z
  | none =>
    refine core (fun b => if b = a then some (.frz { cls := .type "list", data := .seq vs.toArray } (.lst (ns.map V.int))) else none) (fun b => ?_) (.inl (.inr ⟨{ cls := .type "list", data := .seq vs.toArray }, if_pos rfl⟩)) (fun b u z => ?_) (fun b z => ?_) fun _ => hk
    · by_cases hb : b = a
      · exact .inr ⟨_, _, if_pos hb⟩
      · exact .inl (if_neg hb)
    · by_cases hb : b = a
      · have z' := (if_pos hb).symm.trans z
        cases z'
        subst hb
        exact ⟨ha, by rw [List.length_map]; exact hl, vs, _, rv, ha⟩
      · have z' := (if_neg hb).symm.trans z
        cases z'
    · by_cases hb : b = a
      · exact hb
      · exact absurd (if_neg hb) z
theorem walk_ofG {l : PySem.W.OpenLaw} {n k : Nat} {q : Program} {loose : List Str} {XP : (Str → Option Value) → Heap → Prop} {YP : World → Heap → Prop} {d : DefRec} {K : Params → PySem.W.Frag} {CX : World → CXT} {sp : World → Sp} {x : Str}
    (hn : l.most = some n) (hn2 : n ≤ sizeLine) (hdf : d.params.defaults = []) (hr : Room k callerA)
    (hY : ∀ (w : World) (h : Heap), YP w h → (K w.params).In h)
    (F : ∀ (w : World) (mg : Str → Option Value) (fa : Addr) (h : Heap), (K w.params).In h → h.Ns mainGlobals mg → mg d.name = some (.ref fa) →
      ∃ fd : FuncData, (∀ (s : Shared) (u : Value), BindsTo s fd ⟨[u], []⟩ [(x, u)]) ∧
        ∀ base : Heap, (K w.params).In base → base.Ns mainGlobals mg → FnOkG l.prog w (K w.params) mg base (CX w) k fa fd [x] (sp w))
    (hsp : ∀ (w : World) (H : Hp) (a : Addr) (ns : List Int), ns.length ≤ n → Only H → SqL (K w.params) H a (ns.map V.int) → sp w [.ref a] H (fun v _ => v = .bl true) fun _ _ _ => False)
    (hCX : ∀ (w : World) (H : Hp) (s : Shared) (e : Value) (s' : Shared), CX w [] H s (fun _ _ _ => False) e s' → False) :
    PySem.W.WalkO q loose XP YP l.row.toRowW d [] (fun f vs => PySem.call f vs) := by
  refine Att.attach_call hn hdf fun w s₀ s₁ mg mb fa o pm cd doc a vs ns G Y ho hd hcd hmg hobj hints hlen hg => ?_
  have KX := hY w _ Y
  obtain ⟨fd, hb, hF⟩ := F w mg fa _ KX G.T.g hmg
  exact law_callG KX G.T.g G.T.b G.T.builtins G.T.nolimit hg hobj hints (Nat.le_trans hlen hn2) hr hF hb (fun H hO hS => hsp w H a ns hlen hO hS) fun H e s' => hCX w H s₁ e s'
section
variable {X : Cx}
def tRev (K : PySem.W.Frag) (te tk : TE) : TE := fun σ H Q => te σ H fun x H1 => tk σ H1 fun y H2 => y = .int (-1) ∧ ∃ a xs, x = .ref a ∧ SqL K H2 a xs ∧ ∀ p, H2 p = none → Q (.ref p) (upd H2 p (.lst xs.reverse))
theorem Vals.rev : ∀ {xs : List V} {us : List Value}, Vals xs us → Vals xs.reverse us.reverse
  | _, _, .nil => .nil
  | _, _, .cons a b => by
    rw [List.reverse_cons, List.reverse_cons]
    exact (Vals.rev b).append (.cons a .nil)
end
end L2
set_option Elab.async false
set_option linter.all false
set_option maxHeartbeats 4000000
set_option maxRecDepth 100000
namespace L2
open PySem PySem.Spec PyProof.Rows
theorem en_noGet : typeLookup (.type "enumerate") "__getattr__" = pure none := by rw [typeLookup_type, builtinLookup_eq_fast]; kernel_rfl
theorem en_noKeys : typeLookup (.type "enumerate") "keys" = pure none := by rw [typeLookup_type, builtinLookup_eq_fast]; kernel_rfl
theorem en_ent : entryFor table "enumerate.__getattribute__" = some Builtin.«object.__getattribute__» := entryFor_alias (id' := "object.__getattribute__") (by kernel_rfl) (by decide +kernel) (by decide +kernel) (by kernel_rfl)
theorem en_miss (a : Addr) (fs : Array Value) (u : Tok) :
    Meets (Builtin.«object.__getattribute__» ⟨[.ref a, .str "keys" u], []⟩) (fun A R s => s.heap.get? a = some { cls := .type "enumerate", dict := none, data := .fields fs, slots := #[] } ∧ raisesAttr (.ref a) "keys" A R s) :=
  Meets.of_wp fun prog w A R s hs => by
    obtain ⟨hp, g, d, tk, os⟩ := s
    obtain ⟨hx, hs⟩ := hs
    have hT : (⟨hp, g, d, tk, os⟩ : Shared).TypeIs (.ref a) "enumerate" := ⟨_, hx, rfl⟩
    have hmiss := en_noKeys
    unfold Builtin.«object.__getattribute__»
    repeat (any_goals (first | done | assumption | wp_step))
    exact wpAny_raiseAttrError hs.1 hs.2 (attrMsg_fits (by decide +kernel) (by decide +kernel))
theorem en_getAttr {P : Program} {w : World} {A : Around} {E : Value → Shared → Prop} {s : Shared} {a : Addr} {fs : Array Value} {Q : Option Value → Shared → Prop}
    (hx : s.heap.get? a = some { cls := .type "enumerate", dict := none, data := .fields fs, slots := #[] }) (hA : A.handled = none)
    (h : ∀ h' tk, (∀ b o, s.heap.get? b = some o → h'.get? b = some o) → Q none { s with heap := h', toks := tk }) : wpAny (model P w) A (getAttr? (.ref a) "keys") Q E s := by
  obtain ⟨hp, g, d, tk, os⟩ := s
  have hT : ∀ tk', (⟨hp, g, d, tk', os⟩ : Shared).TypeIs (.ref a) "enumerate" := fun _ => ⟨_, hx, rfl⟩
  have f1 := sub_AttributeError
  have f3 := F.slot_enumerate_getattribute.lookup
  have f4 := F.slot_enumerate_getattribute.bind (.ref a)
  have f5 := en_noGet
  unfold getAttr? getAttrBy? getAttrBy
  repeat (any_goals (first | assumption | exact hT _ | ((with_reducible show wpAny _ _ (call (Value.builtin "enumerate.__getattribute__") _ _) _ _ _); refine call_meets F.slot_enumerate_getattribute (hT _) en_ent (F.args_enumerate_getattribute_2 _ _) (en_miss a fs _) ⟨hx, hA, fun h' tk' e hx' => ?_⟩) | wp_step))
  obtain ⟨t', u', he⟩ := hx'.there
  show wpAny _ _ (getattributeRaised _ _ _ _ _ _ _) _ _ _
  unfold getattributeRaised
  repeat (any_goals (first | done | assumption | wp_step))
  exact h _ _ hx'.of.keeps
end L2
set_option Elab.async false
set_option linter.all false
set_option maxHeartbeats 4000000
set_option maxRecDepth 100000
namespace L2
open PySem PySem.Spec PyProof.Rows
def EnOut (h : Heap) (e it : Addr) (i : Int) : Prop := ∃ (T : Addr) (b : Bool) (x : Value) (oT : Obj), h.get? e = some { cls := .type "enumerate", dict := none, data := .fields #[rawInt T, .bool b, .ref it, rawInt i, .none, x], slots := #[] } ∧ h.get? T = some oT ∧ T ≠ e ∧ T ≠ it
section
variable {prog : Program} {w : World} {A : Around} {E : Value → Shared → Prop} {s : Shared}
theorem en_alive {a : Addr} {o : Obj} {Q : Option Obj → Shared → Prop} (h : s.heap.get? a = some o) (q : Q (some o) s) : wpAny (model prog w) A (loadIfAlive a) Q E s := by
  intro Γ p _
  unfold loadIfAlive
  rw [Sem.wp_loadIfAlive, h]
  exact q
theorem en_next_out {e it l : Addr} {i : Nat} {items : Array Value} {x : Value} {Q : Option Value → Shared → Prop}
    (he : EnOut s.heap e it i) (hit : s.heap.IsListIter it l i) (hl : s.heap.IsList l items) (hx : items[i]? = some x) (hne : e ≠ it)
    (hQ : ∀ h', EnOut h' e it ((i : Int) + 1) → h'.IsListIter it l (i + 1) →
      h'.get? s.heap.objs.size = some { cls := .type "tuple", data := .seq #[.int i s.toks, x] } →
      (∀ b o, b ≠ e → b ≠ it → s.heap.get? b = some o → h'.get? b = some o) → Q (some (.ref s.heap.objs.size)) { s with heap := h', toks := s.toks + 1 }) :
    wpAny (model prog w) A (pyNext (.ref e)) Q E s := by
  obtain ⟨T, b, y, oT, he, hT0, hTe, hTi⟩ := he
  have hT : s.TypeIs (.ref e) "enumerate" := ⟨_, he, rfl⟩
  unfold pyNext
  refine wpAny_bind (wpAny_attempt (wpAny_callSpecial?_slot (name := Str.ofString "__next__") hT F.slot_enumerate_next (wpAny_call_entry F.slot_enumerate_next hT F.entry_enumerate_next ?_ (F.args_enumerate_next_1 _))))
  obtain ⟨hp, g, d, tk, os⟩ := s
  show wpAny _ _ (field (.ref e) 2 >>= _) _ _ _
  refine wpAny_bind (wpAny_field he rfl (x := .ref it) rfl (wpAny_bind (wpAny_nextOf_list_item hit hl hx fun h₁ hit₁ hs₁ => ?_)))
  have q1 : h₁.get? e = some { cls := .type "enumerate", dict := none, data := .fields #[rawInt T, .bool b, .ref it, rawInt i, .none, y], slots := #[] } := (hs₁.2 e hne).trans he
  show wpAny _ _ (field (.ref e) 3 >>= _) _ _ ⟨h₁, g, d, tk, os⟩
  refine wpAny_bind (wpAny_field q1 rfl (x := rawInt i) rfl ?_)
  show wpAny _ _ (field (.ref e) 4 >>= _) _ _ ⟨h₁, g, d, tk, os⟩
  refine wpAny_bind (wpAny_field q1 rfl (x := .none) rfl ?_)
  show wpAny _ _ (mkInt i >>= _) _ _ ⟨h₁, g, d, tk, os⟩
  refine wpAny_bind (wpAny_mkInt ?_)
  show wpAny _ _ (setField (.ref e) 3 (rawInt ((i : Int) + 1)) >>= _) _ _ ⟨h₁, g, d, tk + 1, os⟩
  refine wpAny_bind (wpAny_setField_rec q1 (by simp) fun h₂ he₂ hs₂ => ?_)
  have q2 : h₂.get? e = some { cls := .type "enumerate", dict := none, data := .fields #[rawInt T, .bool b, .ref it, rawInt ((i : Int) + 1), .none, y], slots := #[] } := he₂
  show wpAny _ _ (setField (.ref e) 4 .none >>= _) _ _ ⟨h₂, g, d, tk + 1, os⟩
  refine wpAny_bind (wpAny_setField_rec q2 (by simp) fun h₃ he₃ hs₃ => ?_)
  have q3 : h₃.get? e = some { cls := .type "enumerate", dict := none, data := .fields #[rawInt T, .bool b, .ref it, rawInt ((i : Int) + 1), .none, y], slots := #[] } := he₃
  show wpAny _ _ (newTuple [.int i tk, x] >>= _) _ _ ⟨h₃, g, d, tk + 1, os⟩
  refine wpAny_bind (wpAny_newTuple ?_)
  have sz : h₃.objs.size = hp.objs.size := by rw [hs₃.1, hs₂.1, hs₁.1]
  have q4 : (h₃.push { cls := .type "tuple", data := .seq #[.int i tk, x] }).get? e = some { cls := .type "enumerate", dict := none, data := .fields #[rawInt T, .bool b, .ref it, rawInt ((i : Int) + 1), .none, y], slots := #[] } := Heap.get?_push_of_some _ q3
  have kk : ∀ c o, c ≠ e → c ≠ it → hp.get? c = some o → (h₃.push { cls := .type "tuple", data := .seq #[.int i tk, x] }).get? c = some o := fun c o c1 c2 z =>
    Heap.get?_push_of_some _ (hs₃.extBut c o c1 (hs₂.extBut c o c1 (hs₁.extBut c o c2 z)))
  have ki : (h₃.push { cls := .type "tuple", data := .seq #[.int i tk, x] }).IsListIter it l (i + 1) := by
    obtain ⟨o, ho, r⟩ := (hit₁.extBut hs₂.extBut (Ne.symm hne)).extBut hs₃.extBut (Ne.symm hne)
    exact ⟨o, Heap.get?_push_of_some _ ho, r⟩
  have kt : (h₃.push { cls := .type "tuple", data := .seq #[.int i tk, x] }).get? hp.objs.size = some { cls := .type "tuple", data := .seq #[.int i tk, x] } := by rw [← sz]; exact Heap.get?_push_size _ rfl
  have kT := kk T oT hTe hTi hT0
  have elt : e < hp.objs.size := Heap.lt_size he
  generalize h₃.push { cls := .type "tuple", data := .seq #[.int i tk, x] } = h₄ at *
  show wpAny _ _ (Builtin.SmallTypes.ownedTupleIsFree (.ref e) >>= _) _ _ ⟨h₄, g, d, tk + 1, os⟩
  rw [sz]
  refine wpAny_bind ?_
  unfold Builtin.SmallTypes.ownedTupleIsFree
  refine wpAny_bind (wpAny_field q4 rfl (x := rawInt T) rfl ?_)
  show wpAny _ _ (loadIfAlive T >>= _) _ _ ⟨h₄, g, d, tk + 1, os⟩
  refine wpAny_bind (en_alive kT ?_)
  show wpAny _ _ (field (.ref e) 1 >>= _) _ _ ⟨h₄, g, d, tk + 1, os⟩
  refine wpAny_bind (wpAny_field q4 rfl (x := .bool b) rfl ?_)
  have fin : ∀ h₅ : Heap, (∃ b', h₅.get? e = some { cls := .type "enumerate", dict := none, data := .fields #[rawInt T, .bool b', .ref it, rawInt ((i : Int) + 1), .none, y], slots := #[] }) → Heap.SameBut e h₄ h₅ → Q (some (.ref hp.objs.size)) ⟨h₅, g, d, tk + 1, os⟩ := fun h₅ ⟨b', q5⟩ hs => by
    refine hQ h₅ ⟨T, b', y, oT, q5, hs.extBut _ _ hTe kT, hTe, hTi⟩ (ki.extBut hs.extBut (Ne.symm hne)) (hs.extBut _ _ (Nat.ne_of_gt elt) kt) fun c o c1 c2 z => hs.extBut c o c1 (kk c o c1 c2 z)
  cases b
  · show wpAny _ _ (setField (.ref e) 1 (.bool true) >>= _) _ _ ⟨h₄, g, d, tk + 1, os⟩
    refine wpAny_bind (wpAny_setField_rec q4 (by simp) fun h₅ he₅ hs₅ => ?_)
    exact wpAny_pure (wpAny_pure ⟨_, rfl, wpAny_pure (fin h₅ ⟨true, he₅⟩ hs₅)⟩)
  · exact wpAny_pure (wpAny_pure ⟨_, rfl, wpAny_pure (fin h₄ ⟨true, q4⟩ ⟨rfl, fun _ _ => rfl⟩)⟩)
theorem en_end_out {e it l : Addr} {i : Nat} {items : Array Value} {Q : Option Value → Shared → Prop} (hh : A.handled = none)
    (he : EnOut s.heap e it i) (hit : s.heap.IsListIter it l i) (hl : s.heap.IsList l items) (hx : items[i]? = none)
    (hQ : ∀ h', Heap.ExtBut it s.heap h' → Q none { s with heap := h' }) : wpAny (model prog w) A (pyNext (.ref e)) Q E s := by
  obtain ⟨T, b, y, oT, he, _⟩ := he
  have hT : s.TypeIs (.ref e) "enumerate" := ⟨_, he, rfl⟩
  unfold pyNext
  refine wpAny_bind (wpAny_attempt (wpAny_callSpecial?_slot (name := Str.ofString "__next__") hT F.slot_enumerate_next (wpAny_call_entry F.slot_enumerate_next hT F.entry_enumerate_next ?_ (F.args_enumerate_next_1 _))))
  show wpAny _ _ (field (.ref e) 2 >>= _) _ _ _
  refine wpAny_bind (wpAny_field he rfl (x := .ref it) rfl (wpAny_bind (wpAny_nextOf_list_end hh hit hl hx fun h' x he' hx' => ?_)))
  obtain ⟨o, ho, hc⟩ := hx'
  exact wpAny_bind (wpAny_isInstance (T := "StopIteration") (b := true) ⟨o, ho, hc⟩ isSubtype_stop (wpAny_pure (hQ _ he')))
def pr : Nat → List Value → List (Key × Value)
  | _, [] => []
  | k, v :: r => (.inl (k : Int), v) :: pr (k + 1) r
theorem pr_snoc : ∀ (l : List Value) (k : Nat) (v : Value), pr k (l ++ [v]) = pr k l ++ [(.inl ((k + l.length : Nat) : Int), v)]
  | [], k, v => rfl
  | x :: l, k, v => by
    have e : k + 1 + l.length = k + (x :: l).length := by rw [List.length_cons]; (first | lia | omega)
    show (Sum.inl (k : Int), x) :: pr (k + 1) (l ++ [v]) = _
    rw [pr_snoc l (k + 1) v, e]
    rfl
theorem pr_low : ∀ (l : List Value) (k : Nat) (p : Key × Value), p ∈ pr k l → ∃ j : Nat, p.1 = .inl (j : Int) ∧ k ≤ j ∧ j < k + l.length
  | [], _, _, h => nomatch h
  | x :: l, k, p, h => by
    rw [List.length_cons]
    rcases List.mem_cons.mp h with z | z
    · exact ⟨k, by rw [z], Nat.le_refl _, by (first | lia | omega)⟩
    · obtain ⟨j, e, a, b⟩ := pr_low l (k + 1) p z
      exact ⟨j, e, by (first | lia | omega), by (first | lia | omega)⟩
theorem pr_len : ∀ (l : List Value) (k : Nat), (pr k l).length = l.length
  | [], _ => rfl
  | x :: l, k => by show (pr (k + 1) l).length + 1 = _; rw [pr_len l (k + 1)]; rfl
theorem stored_end (l : List Value) (v : Value) : stored (pr 0 l) (Sum.inl ((l.length : Nat) : Int)) v = pr 0 (l ++ [v]) := by
  have h : (pr 0 l).any (fun kv => decide (kv.1 = Sum.inl ((l.length : Nat) : Int))) = false := by
    rw [List.any_eq_false]
    intro p hp
    obtain ⟨j, e, _, b⟩ := pr_low l 0 p hp
    rw [e]
    simp only [decide_eq_true_eq]
    intro z
    have z2 := Sum.inl.inj z
    (first | lia | omega)
  unfold stored
  rw [if_neg (by rw [h]; exact Bool.false_ne_true), pr_snoc, Nat.zero_add]
def EnAny (h : Heap) (e it : Addr) (i : Int) : Prop := (∃ old, IsEnum h e it i old) ∨ EnOut h e it i
theorem en_next {e it l : Addr} {i : Nat} {items : Array Value} {x : Value} {Q : Option Value → Shared → Prop}
    (he : EnAny s.heap e it i) (hit : s.heap.IsListIter it l i) (hl : s.heap.IsList l items) (hx : items[i]? = some x) (hne : e ≠ it)
    (hQ : ∀ h', EnOut h' e it ((i : Int) + 1) → h'.IsListIter it l (i + 1) →
      h'.get? s.heap.objs.size = some { cls := .type "tuple", data := .seq #[.int i s.toks, x] } →
      (∀ b o, b ≠ e → b ≠ it → s.heap.get? b = some o → h'.get? b = some o) → Q (some (.ref s.heap.objs.size)) { s with heap := h', toks := s.toks + 1 }) :
    wpAny (model prog w) A (pyNext (.ref e)) Q E s := by
  rcases he with ⟨old, he⟩ | he
  · have l1 : e < s.heap.objs.size := Heap.lt_size he
    have l2 : it < s.heap.objs.size := by obtain ⟨_, z, _⟩ := hit; exact Heap.lt_size z
    exact wpAny_pyNext_enum_item he hit hl hx hne fun h' a b c _ k => hQ h' ⟨s.heap.objs.size, false, x, _, a, c, Nat.ne_of_gt l1, Nat.ne_of_gt l2⟩ b c k
  · exact en_next_out he hit hl hx hne hQ
theorem en_end {e it l : Addr} {i : Nat} {items : Array Value} {Q : Option Value → Shared → Prop} (hh : A.handled = none)
    (he : EnAny s.heap e it i) (hit : s.heap.IsListIter it l i) (hl : s.heap.IsList l items) (hx : items[i]? = none)
    (hQ : ∀ h', Heap.ExtBut it s.heap h' → Q none { s with heap := h' }) : wpAny (model prog w) A (pyNext (.ref e)) Q E s := by
  rcases he with ⟨old, he⟩ | he
  · exact wpAny_pyNext_enum_end hh he hit hl hx hQ
  · exact en_end_out hh he hit hl hx hQ
end
theorem plain_dul : plainId "dict.update.loop" = true := by decide +kernel
theorem entry_dul : entryFor table "dict.update.loop" = some Builtin.«dict.update.loop» := entryFor_of_tree (by kernel_rfl)
section
variable {prog : Program} {w : World} {A : Around} {R : Result → Shared → Prop}
theorem dict_loop {D e it l : Addr} {items : Array Value} (hh : A.handled = none) (hne : e ≠ it) (hDe : D ≠ e) (hDi : D ≠ it) (hle : l ≠ e) (hli : l ≠ it) (hlD : l ≠ D) (hz : items.size ≤ sizeLine) :
    ∀ (k i : Nat) (s : Shared) (tk : Tok), items.size - i = k → i ≤ items.size → EnAny s.heap e it i → s.heap.IsListIter it l i → s.heap.IsList l items → s.heap.DictOf (mixKind prog w) D (pr 0 (items.toList.take i)) →
      (∀ h' tk, h'.DictOf (mixKind prog w) D (pr 0 items.toList) → (∀ b o, b ≠ D → b ≠ e → b ≠ it → s.heap.get? b = some o → h'.get? b = some o) → R (.ok (.ret .none)) { s with heap := h', toks := tk }) →
      codeAny (model prog w) A (.builtin "dict.update.loop" ⟨[.ref D, .ref e, .int i tk, .none], []⟩) R s := by
  intro k
  induction k with
  | zero =>
    intro i s tk hk hi he hit hl hd hR
    refine codeAny_builtin entry_dul ?_
    rw [Around.under_plainId plain_dul _]
    show wpAny _ A.in1 (pyNext (.ref e) >>= _) _ _ s
    refine wpAny_bind (en_end (by simp [hh]) he hit hl (Array.getElem?_eq_none (by (first | lia | omega))) fun h' x => ?_)
    show wpAny _ A.in1 (Builtin.Dict.addKeywords D [] >>= _) _ _ _
    refine wpAny_bind (wpAny_pure (wpAny_pure (hR h' s.toks ?_ fun b o _ _ b3 z => x b o b3 z)))
    rw [List.take_of_length_le (by rw [Array.length_toList]; (first | lia | omega))] at hd
    obtain ⟨o, es, ep, ho, r⟩ := hd
    exact ⟨o, es, ep, x _ _ hDi ho, r⟩
  | succ k ih =>
    intro i s tk hk hi he hit hl hd hR
    have hlt : i < items.size := by (first | lia | omega)
    refine codeAny_builtin entry_dul ?_
    rw [Around.under_plainId plain_dul _]
    show wpAny _ A.in1 (pyNext (.ref e) >>= _) _ _ s
    refine wpAny_bind (en_next he hit hl (Array.getElem?_eq_getElem hlt) hne fun h1 a1 b1 c1 k1 => ?_)
    have Dlt : D < s.heap.objs.size := by obtain ⟨_, _, _, z, _⟩ := hd; exact Heap.lt_size z
    have hd1 : h1.DictOf (mixKind prog w) D (pr 0 (items.toList.take i)) := by
      obtain ⟨o, es, ep, ho, r⟩ := hd
      exact ⟨o, es, ep, k1 _ _ hDe hDi ho, r⟩
    have hl1 : h1.IsList l items := by
      obtain ⟨o, ho, r⟩ := hl
      exact ⟨o, k1 _ _ hle hli ho, r⟩
    have tl : (items.toList.take i).length = i := by rw [List.length_take, Array.length_toList]; (first | lia | omega)
    refine wpAny_bind (wpAny_holding (wpAny_bind (wpAny_tryCatch ?_)))
    unfold Builtin.Dict.pairItems
    refine wpAny_bind (wpAny_typeOf (T := "tuple") ⟨_, c1, rfl⟩ ?_)
    rw [if_pos (by decide)]
    refine wpAny_bind (wpAny_seqItems c1 rfl (wpAny_pure ?_))
    show wpAny _ _ (holding [.int i s.toks, items[i]] (dictSet D (.int i s.toks) items[i])) _ _ _
    refine wpAny_holding (wpAny_dictSet_pairs (k := Sum.inl (i : Int)) (mixKind_int prog w _ _) hd1 (fun h2 d2 s2 => ?_) (by rw [pr_len, tl]; (first | lia | omega)))
    have e2 : pr 0 (items.toList.take (i + 1)) = stored (pr 0 (items.toList.take i)) (Sum.inl (i : Int)) items[i] := by
      have z := stored_end (items.toList.take i) items[i]
      rw [tl] at z
      rw [z, List.take_succ_eq_append_getElem (by rw [Array.length_toList]; exact hlt), Array.getElem_toList]
    have kk : ∀ b o, b ≠ D → h1.get? b = some o → h2.get? b = some o := fun b o nb z => (s2.2 b nb).trans z
    have a2 : EnAny h2 e it ((i + 1 : Nat) : Int) := by
      obtain ⟨T, b, y, oT, q, r, z1, z2⟩ := a1
      by_cases hTD : T = D
      · obtain ⟨o, es, ep, ho, _⟩ := d2
        exact .inr ⟨T, b, y, o, kk _ _ (Ne.symm hDe) q, by rw [hTD]; exact ho, z1, z2⟩
      · exact .inr ⟨T, b, y, oT, kk _ _ (Ne.symm hDe) q, kk _ _ hTD r, z1, z2⟩
    refine wpAny_pure ⟨plainId_quiet plain_dul _, ih (i + 1) _ _ (by (first | lia | omega)) hlt a2 ?_ ?_ (by rw [e2]; exact d2) fun h' tk' d' k' => ?_⟩
    · obtain ⟨o, ho, r⟩ := b1
      exact ⟨o, kk _ _ (Ne.symm hDi) ho, r⟩
    · obtain ⟨o, ho, r⟩ := hl1
      exact ⟨o, kk _ _ hlD ho, r⟩
    · exact hR h' tk' d' fun b o n1 n2 n3 z => k' b o n1 n2 n3 (kk b o n1 (k1 b o n2 n3 z))
end
section
variable {prog : Program} {w : World} {A : Around} {E : Value → Shared → Prop} {s : Shared}
theorem call_dict_enum {e it l : Addr} {items : Array Value} {Q : Value → Shared → Prop} (hh : A.handled = none) (he : IsEnum s.heap e it 0 .none) (hit : s.heap.IsListIter it l 0) (hl : s.heap.IsList l items) (hne : e ≠ it) (hz : items.size ≤ sizeLine)
    (h : ∀ h' tk, h'.DictOf (mixKind prog w) s.heap.objs.size (pr 0 items.toList) → (∀ b o, b ≠ e → b ≠ it → s.heap.get? b = some o → h'.get? b = some o) → Q (.ref s.heap.objs.size) { s with heap := h', toks := tk }) :
    wpAny (model prog w) A (call (.type "dict") [.ref e]) Q E s := by
  refine callType_codes (Q₁ := fun obj s₁ => obj = .ref s.heap.objs.size ∧ s₁ = { s with heap := s.heap.push { cls := .type "dict", data := .dict #[] } }) F.kt_called_dict (F.kt_typeCall_dict_1 _) F.entry_dict_init (kt_code_dict_new _ ⟨rfl, rfl⟩) ?_
  rintro obj s₁ ⟨rfl, rfl⟩
  have dn : (s.heap.push { cls := .type "dict", data := .dict #[] }).DictOf (mixKind prog w) s.heap.objs.size [] := Heap.DictOf.new s.heap
  have l1 : e < s.heap.objs.size := Heap.lt_size he
  have l2 : it < s.heap.objs.size := by obtain ⟨_, z, _⟩ := hit; exact Heap.lt_size z
  have l3 : l < s.heap.objs.size := by obtain ⟨_, z, _⟩ := hl; exact Heap.lt_size z
  have he' : (s.heap.push { cls := .type "dict", data := .dict #[] }).get? e = _ := Heap.get?_push_of_some _ he
  refine ⟨dn.typeIs, F.args_dict_init_2 _ _, ?_⟩
  unfold Builtin.«dict.__init__»
  refine wpAny_bind ?_
  unfold Builtin.Dict.selfAndRest
  refine wpAny_bind (wpAny_notOrdered_dict dn.typeIs ?_)
  show wpAny _ _ (pure (s.heap.objs.size, [Value.ref e])) _ _ _
  refine wpAny_pure ?_
  show wpAny _ _ (Builtin.Dict.updateFrom "dict.__init__" s.heap.objs.size (.ref e) [] .none) _ _ _
  unfold Builtin.Dict.updateFrom
  refine wpAny_bind (wpAny_typeOf (T := "enumerate") ⟨_, he', rfl⟩ ?_)
  rw [if_pos (by decide)]
  refine wpAny_bind (en_getAttr he' (by simp [hh]) fun h1 tk k1 => ?_)
  have kp : ∀ b o, s.heap.get? b = some o → h1.get? b = some o := fun b o z => k1 b o (Heap.get?_push_of_some _ z)
  have he1 : IsEnum h1 e it 0 .none := kp _ _ he
  have hne2 : l ≠ e := fun z => by
    obtain ⟨o, ho, hc, _⟩ := hl
    rw [z] at ho
    have q := ho.symm.trans he
    injection q with q
    rw [q] at hc
    have hc2 : Value.type "enumerate" = Value.type "list" := hc
    exact absurd hc2 (by decide)
  have hne3 : l ≠ it := fun z => by
    obtain ⟨o, ho, hc, _⟩ := hl
    obtain ⟨o2, ho2, hc2, _⟩ := hit
    rw [z] at ho
    have q := ho.symm.trans ho2
    injection q with q
    rw [q, hc2] at hc
    exact absurd hc (by decide)
  refine wpAny_bind (wpAny_rule ?_)
  refine wpAny_bind (wpAny_pyIter_enum he1 ?_)
  refine wpAny_bind (wpAny_pure ?_)
  refine wpAny_pure ⟨plainId_quiet plain_dul _, dict_loop (by simp [hh]) hne (Nat.ne_of_gt l1) (Nat.ne_of_gt l2) hne2 hne3 (Nat.ne_of_lt l3) hz (items.size - 0) 0 _ _ rfl (Nat.zero_le _) (.inl ⟨_, he1⟩) ?_ ?_ ?_ fun h' tk' d' k' => ?_⟩
  · obtain ⟨o, ho, r⟩ := hit
    exact ⟨o, kp _ _ ho, r⟩
  · obtain ⟨o, ho, r⟩ := hl
    exact ⟨o, kp _ _ ho, r⟩
  · obtain ⟨o, es, ep, ho, r⟩ := dn
    exact ⟨o, es, ep, k1 _ _ ho, r⟩
  · refine ⟨rfl, h h' tk' d' fun b o n2 n3 z => k' b o ?_ n2 n3 (kp b o z)⟩
    exact Nat.ne_of_lt (Heap.lt_size z)
end
def enumK : Nat → List Str → List (Key × Str)
  | _, [] => []
  | k, x :: r => (.inl (k : Int), x) :: enumK (k + 1) r
theorem enumK_kv : ∀ {ss : List Str} {us : List Value} (k : Nat), Vals (ss.map V.str) us → KV ((enumK k ss).map fun p => (p.1, V.str p.2)) (pr k us)
  | [], _, _, r => by cases r; exact .nil
  | x :: ss, _, k, r => by
    cases r with
    | cons a b => exact .cons ⟨rfl, a⟩ (enumK_kv (k + 1) b)
theorem enumK_len : ∀ (ss : List Str) (k : Nat), (enumK k ss).length = ss.length
  | [], _ => rfl
  | x :: l, k => by show (enumK (k + 1) l).length + 1 = _; rw [enumK_len l (k + 1)]; rfl
def tDictEnum (K : PySem.W.Frag) (ta : TA) : TE := fun σ H Q => ta σ H fun vs H1 => ∃ (a : Addr) (ss : List Str), vs = [.ref a] ∧ SqL K H1 a (ss.map V.str) ∧ ∀ d, H1 d = none → Q (.ref d) (upd H1 d (.dK ((enumK 0 ss).map fun p => (p.1, V.str p.2))))
section
variable {X : Cx}
theorem boot_dictT : bootBuiltins "dict" = some (.type "dict") := by decide +kernel
theorem pe_dictEnum {a : Expr} {ta : TA} {p p2 pos pos2 : Pos} (hg : Gl X "dict") (hm : X.mg "dict" = none) (hg2 : Gl X "enumerate") (hm2 : X.mg "enumerate" = none) (hc : X.calm = true) (ha : PA X [a] ta) (hs2 : starEach [a] X.env = [(false, eval a X.env)] := by rfl)
    (hs : starEach [.Call (.Name "enumerate" p2) [a] [] pos2] X.env = [(false, eval (.Call (.Name "enumerate" p2) [a] [] pos2) X.env)] := by rfl) : PE X (.Call (.Name "dict" p) [.Call (.Name "enumerate" p2) [a] [] pos2] [] pos) (tDictEnum X.K ta) := by
  intro pins s σ H Q I h
  refine Call_ (ld_blt I hg hm boot_dictT (PyProof.Rows.callWith_type1 ?_ hs rfl))
  rw [hs]
  show wpAny _ _ (spliced [(false, eval _ X.env)]) _ _ s
  refine Calls.spliced_cons ?_
  refine Call_ (ld_blt I hg2 hm2 boot_enumerate (PyProof.Rows.callWith_type1 (thn (ha pos2 pins s σ H _ I h) fun us s1 ⟨vs, H1, I1, r1, q1⟩ => ?_) hs2 rfl))
  obtain ⟨a, ss, e, hq, q⟩ := q1
  subst e
  obtain ⟨u, rfl, ru⟩ := vals1 r1
  cases ru
  obtain ⟨its, rv, pl, hz⟩ := I1.list hq
  refine call_enumerate_list pl.isList fun h' he hi hsz k => ?_
  have I2 : Inv X pins σ H1 { s1 with heap := h' } := I1.kept (t' := s1.toks) k
  refine Calls.spliced_nil ?_
  have hl2 : h'.IsList a its.toArray := by
    obtain ⟨o, ho, r⟩ := pl.isList
    exact ⟨o, k _ _ ho, r⟩
  have hlen := rv.length
  refine call_dict_enum (s := { s1 with heap := h' }) (I1.ok.hd hc) he hi hl2 (Nat.succ_ne_self _) (by rw [List.size_toArray]; (first | lia | omega)) fun h2 tk d2 k2 => ?_
  have fp : ∀ b ∈ [s1.heap.objs.size + 1, s1.heap.objs.size], FpOk X pins H1 b := fun b hb => by
    rcases List.mem_cons.mp hb with z | hb
    · rw [z]; exact I1.fpOk (Nat.le_succ _) (I1.hok.fresh (Nat.le_succ _))
    · rw [List.mem_singleton.mp hb]; exact I1.fpOk (Nat.le_refl _) I1.fresh
  refine ⟨.ref h'.objs.size, _, I2.turnedNew (t' := tk) (fp := [s1.heap.objs.size + 1, s1.heap.objs.size]) (o := .dK ((enumK 0 ss).map fun p => (p.1, V.str p.2))) (fun b o hb z => k2 b o (fun y => hb (by simp [y])) (fun y => hb (by simp [y])) z) fp (Nat.le_refl _) ?_, rfl, q _ (I2.hok.fresh (Nat.le_refl _))⟩
  refine dk_new ?_ ?_ (enumK_kv 0 rv) d2
  · rw [List.length_map, enumK_len]
    rw [List.length_map] at hlen hz
    exact hz
  · exact beq_eq_false_iff_ne.mpr (Nat.ne_of_gt I2.big)
end
end L2
set_option Elab.async false
set_option linter.all false
set_option maxHeartbeats 4000000
set_option maxRecDepth 100000
namespace L2
open PySem PySem.Spec PyProof.Rows
section
variable {X : Cx}
theorem pe_l0 {pos : Pos} : PE X (.List [] pos) (tLst tNil) := pe_lst pa_nil
theorem pe_t0 {k : Nat} {pos : Pos} : PE X (.Tuple [] k pos) (tTup tNil) := pe_tup pa_nil
def noStar : Expr → Bool
  | .Starred .. => false
  | _ => true
theorem starEach_no (e : Expr) (es : List Expr) (env : Env) (h : noStar e = true) : starEach (e :: es) env = (false, eval e env) :: starEach es env := by
  cases e <;> first | rfl | exact absurd h Bool.false_ne_true
theorem pa_c2 {e : Expr} {es : List Expr} {te : TE} {t : TA} (ha : PE X e te) (hr : PA X es t) (h : noStar e = true) : PA X (e :: es) (tCons te t) := pa_cons ha hr (starEach_no e es _ h)
theorem pe_ll {k : Nat} {p1 p2 p3 : Pos} : PE X (.Tuple [.List [] p1, .List [] p2] k p3) (tTup (tCons (tLst tNil) (tCons (tLst tNil) tNil))) := pe_tup (pa_cons pe_l0 (pa_cons pe_l0 pa_nil))
theorem pe_sa {z : Str} {k : Nat} {p1 p2 : Pos} : PE X (.List [.Constant (.str z) k p1] p2) (tLst (tCons (tC (.str z)) tNil)) := pe_lst (pa_cons pe_str pa_nil)
theorem pe_kab {y z : Str} {k k1 k2 : Nat} {p1 p2 p3 p4 p5 : Pos} : PE X (.Tuple [.List [.Constant (.str y) k1 p1] p2, .List [.Constant (.str z) k2 p3] p4] k p5) (tTup (tCons (tLst (tCons (tC (.str y)) tNil)) (tCons (tLst (tCons (tC (.str z)) tNil)) tNil))) := pe_tup (pa_cons pe_sa (pa_cons pe_sa pa_nil))
theorem pe_rev2 {e k : Expr} {te tk : TE} {p2 pos : Pos} (he : PE X e te) (hk : PE X k tk) (hsb : ∀ v i : Value, subscripted (.Slice none none (some k) p2) false v i = operate [v, i] (getItem v i) := by intro _ _; with_unfolding_all rfl) : PE X (.Subscript e (.Slice none none (some k) p2) pos) (tRev X.K te tk) := by
  intro pins s σ H Q I h
  refine Subscript_ (thn (he pins s σ H _ I h) fun v s1 ⟨x, H1, I1, r1, q1⟩ => ?_)
  refine wpAny_Slice ?_
  rw [evalPart_none]
  refine wpAny_pure ?_
  refine wpAny_pure ?_
  refine thn (hk pins s1 σ H1 _ I1 q1) fun vk s3 ⟨y, H3, I3, r3, q3⟩ => ?_
  obtain ⟨rfl, a, xs, rfl, hx, q⟩ := q3
  obtain ⟨tk, rfl⟩ := r3
  cases r1
  have I4 : Inv X pins σ H3 { s3 with heap := s3.heap.push { cls := .type "slice", data := .fields #[.none, .none, .int (-1) tk] } } := I3.kept (t' := s3.toks) fun b ob q => Heap.get?_push_of_some _ q
  obtain ⟨its, r, ht, hz⟩ := I4.list hx
  have hlen := r.length
  refine tail_any (ops := [.ref a, .ref s3.heap.objs.size]) ht.isList.typeIs slot_list_getitem.lookup ?_ (hsb _ _)
  refine wpAny_getItem_list_slice ht.isList (Heap.IsSliceOf.new ..) .none .none (.int (-1) tk) (by simp) ?_ (by rw [List.size_toArray] <;> (first | lia | omega))
  rw [PySem.W.krv_pick]
  refine ⟨.ref _, _, I4.laid (t' := s3.toks) (o := .lst xs.reverse) (fun b ob q => Heap.get?_push_of_some _ q) (Nat.le_refl _) ?_, rfl, q _ (I4.hok.fresh (Nat.le_refl _))⟩
  exact ⟨by rw [List.length_reverse]; exact hz, _, 0, by simpa using r.rev, Heap.get?_push_size _ rfl⟩
end
end L2
set_option Elab.async false
set_option linter.all false
set_option maxRecDepth 100000
set_option maxHeartbeats 4000000
namespace K7
open PySem L2 PyProof.Rows
def top (i : Nat) : Stmt := PySem.Challenge.pw_keyrooms_k01_what_is_a_house.main.body.getD i (.Pass ⟨0, 0, 0, 0⟩)
abbrev sKind : Stmt := top 7
abbrev sKinds : Stmt := top 8
abbrev sLocks : Stmt := top 9
abbrev sRoom : Stmt := top 10
abbrev sHouse : Stmt := top 11
abbrev sPool : Stmt := top 15
abbrev sTake : Stmt := top 16
abbrev sMade : Stmt := top 17
abbrev sSome : Stmt := top 18
abbrev sDrawn : Stmt := top 19
abbrev sLaw : Stmt := top 27
abbrev st_require_house : Stmt := top 12
abbrev st_is_plain : Stmt := top 13
abbrev st__law_is_kind : Stmt := top 20
abbrev st__law_are_keys : Stmt := top 21
abbrev st__law_is_house : Stmt := top 22
abbrev st__law_sign : Stmt := top 23
abbrev st__law_bad_kinds : Stmt := top 24
abbrev st__law_bad_room : Stmt := top 25
abbrev st__law_spoilt : Stmt := top 26
def IsPool (o : HO) (c : Int) : Prop := ∃ a f : Int, o = .lst [.int a, .int f, .int c]
def spTake : Sp := fun vs H Q _ => ∃ (p : Addr) (n c : Int) (o : HO), vs = [.ref p, .int n] ∧ H p = some o ∧ IsPool o c ∧ 0 < n ∧ n ≤ 1000000 ∧ 0 ≤ c ∧ c < 1000000 ∧
  ∀ (r c' : Int) (o' : HO), 0 ≤ r → r < n → c ≤ c' → c' ≤ c + 1 → IsPool o' c' → Q (.int r) (upd H p o')
section
variable {P : Program} {w : World} {K : PySem.W.Frag} {mg : Str → Option Value} {base : Heap}
theorem scTake : FnScope ["pool", "many", "found", "step", "mark"] ["pool", "many"] (defScope sTake) := ⟨rfl, rfl, rfl, by decide +kernel, rfl, by decide +kernel, by decide +kernel⟩
theorem ok_take {f : Addr} {fd : FuncData} (F : Fun K "_law_take" "_law_take" sTake f fd) : FnOk P w K mg base CX0 1 f fd ["pool", "many"] spTake := by
  refine F.ok scTake (fun vs H Q E h => ?_) (fun cdv A outer s H vs Q E hr h => ?_)
  · obtain ⟨p, n, c, o, rfl, _⟩ := h
    rfl
  · obtain ⟨p, n, c, o, rfl, hp, ⟨a, f', rfl⟩, hn, hn2, hc, hc2, k⟩ := h
    refine ⟨_, pss_cons (ps_if (pt_cmpR op_eq (pe_ix ix_list (pv 0) pe_int (fun _ _ => rfl)) pe_int (nomark _))
        (pss_cons (ps_set (i := 2) scTake.nd rfl (Or.inl rfl) (pe_op op_mod (pe_ix ix_list (pv 0) pe_int (fun _ _ => rfl)) (pv 1)))
        (pss_cons (ps_asg (pe_op op_fdiv (pe_ix ix_list (pv 0) pe_int (fun _ _ => rfl)) (pv 1)) (pg_sub (pv 0) pe_int set_list))
        (pss_one (ps_ret (pv 2))))) pss_nil)
      (pss_cons (ps_asg (pe_op op_add (pe_ix ix_list (pv 0) pe_int (fun _ _ => rfl)) pe_int) (pg_sub (pv 0) pe_int set_list))
      (pss_cons (ps_set (i := 3) scTake.nd rfl (Or.inl rfl) (pe_ix ix_list (pv 0) pe_int (fun _ _ => rfl)))
      (pss_cons (ps_set (i := 4) scTake.nd rfl (Or.inl rfl) (pe_op op_mul (pe_op op_add (pe_op op_mod (pe_ix ix_list (pv 0) pe_int (fun _ _ => rfl)) pe_int) pe_int) (pe_op op_add (pe_op op_mul pe_int (pv 3)) pe_int)))
      (pss_cons (ps_set (i := 4) scTake.nd rfl (Or.inl rfl) (pe_op op_add (pv 4) (pe_op op_mul (pe_op op_mul pe_int (pv 3)) (pv 3))))
      (pss_cons (ps_set (i := 4) scTake.nd rfl (Or.inl rfl) (pe_op op_mod (pe_op op_mul (pv 4) (pv 4)) pe_int))
      (pss_one (ps_ret (pe_op op_mod (pe_op op_fdiv (pe_op op_mod (pe_op op_mul (pv 4) (pe_op op_add (pv 4) pe_int)) pe_int) pe_int) (pv 1))))))))), ?_⟩
    refine ⟨_, rfl, p, _, 1, .int f', rfl, rfl, SqL.of hp, rfl, rfl, _, rfl, ?_⟩
    refine ite2 (fun _ => ?_) (fun _ => ?_)
    · refine ⟨_, rfl, p, _, 0, .int a, rfl, rfl, SqL.of hp, rfl, _, rfl, a, n, rfl, rfl, hn, ?_⟩
      refine ⟨_, rfl, p, _, 0, .int a, rfl, rfl, SqL.of hp, rfl, _, rfl, a, n, rfl, rfl, ⟨hn, by (first | lia | omega)⟩, ?_⟩
      refine ⟨_, rfl, p, _, 0, 0, rfl, rfl, hp, rfl, ?_⟩
      refine ⟨_, rfl, ?_⟩
      exact k (a % n) c _ (Int.emod_nonneg _ (by (first | lia | omega))) (Int.emod_lt_of_pos _ hn) (Int.le_refl _) (by (first | lia | omega)) ⟨a / n, f', rfl⟩
    · refine ⟨_, rfl, p, _, 2, .int c, rfl, rfl, SqL.of hp, rfl, c, 1, rfl, rfl, ?_⟩
      refine ⟨_, rfl, p, _, 2, 2, rfl, rfl, hp, rfl, ?_⟩
      have hp1 : (upd H p (.lst [V.int a, V.int f', V.int (c + 1)])) p = some (.lst [V.int a, V.int f', V.int (c + 1)]) := upd_same
      refine ⟨_, rfl, p, _, 2, .int (c + 1), rfl, rfl, SqL.of hp1, rfl, ?_⟩
      have b0 : 0 ≤ a % 9999999551 := Int.emod_nonneg _ (by decide)
      have b1 : a % 9999999551 < 9999999551 := Int.emod_lt_of_pos _ (by decide)
      refine ⟨_, rfl, p, _, 0, .int a, rfl, rfl, SqL.of hp1, rfl, a, 9999999551, rfl, rfl, (by show (0 : Int) < 9999999551; decide), _, _, rfl, rfl, ?_⟩
      refine ⟨_, rfl, 43, c + 1, rfl, rfl, .inl ⟨by decide, by decide⟩, _, 73, rfl, rfl, _, _, rfl, rfl, .inl ⟨by (first | lia | omega), by (first | lia | omega)⟩, ?_⟩
      refine ⟨_, rfl, _, rfl, 3581, c + 1, rfl, rfl, .inl ⟨by decide, by decide⟩, _, rfl, _, c + 1, rfl, rfl, .inl ⟨by (first | lia | omega), by (first | lia | omega)⟩, _, _, rfl, rfl, ?_⟩
      generalize hx : a % 9999999551 + 1019 = x at *
      generalize hy : 43 * (c + 1) + 73 = y at *
      have x0 : 0 ≤ x := by (first | lia | omega)
      have x1 : x ≤ 9999999551 + 1019 := by (first | lia | omega)
      have y0 : 0 ≤ y := by (first | lia | omega)
      have y1 : y ≤ 43000100 := by (first | lia | omega)
      have m0 : 0 ≤ x * y := Int.mul_nonneg x0 y0
      have m1 : x * y ≤ (9999999551 + 1019) * 43000100 := Int.mul_le_mul x1 y1 y0 (by decide)
      have z0 : 0 ≤ 3581 * (c + 1) * (c + 1) := Int.mul_nonneg (by (first | lia | omega)) (by (first | lia | omega))
      have z1 : 3581 * (c + 1) * (c + 1) ≤ 3581000000 * 1000000 := Int.mul_le_mul (by (first | lia | omega)) (by (first | lia | omega)) (by (first | lia | omega)) (by decide)
      generalize hm : x * y + 3581 * (c + 1) * (c + 1) = m at *
      refine ⟨_, rfl, _, rfl, m, m, congrArg V.int hm, congrArg V.int hm, .inl ⟨by (first | lia | omega), by (first | lia | omega)⟩, _, _, rfl, rfl, (by show (0 : Int) < 99999999581; decide), ?_⟩
      have c0 : 0 ≤ m * m % 99999999581 := Int.emod_nonneg _ (by decide)
      have c1 : m * m % 99999999581 < 99999999581 := Int.emod_lt_of_pos _ (by decide)
      generalize hq : m * m % 99999999581 = q at *
      refine ⟨_, rfl, _, rfl, q, 59, congrArg V.int hq, rfl, q, _, congrArg V.int hq, rfl, .inl ⟨by (first | lia | omega), by (first | lia | omega)⟩, _, _, rfl, rfl, (by show (0 : Int) < 99999999877; decide), _, _, rfl, rfl, ⟨by decide, by decide⟩, _, rfl, _, n, rfl, rfl, hn, ?_⟩
      exact k _ (c + 1) _ (Int.emod_nonneg _ (by (first | lia | omega))) (Int.emod_lt_of_pos _ hn) (by (first | lia | omega)) (Int.le_refl _) ⟨a, f', rfl⟩
end
end K7
set_option Elab.async false
set_option linter.all false
set_option maxRecDepth 100000
set_option maxHeartbeats 4000000
namespace K7
open PySem L2 PyProof.Rows
structure Cal (K : PySem.W.Frag) (mg : Str → Option Value) (x : Str) (ps : List Str) (f : Addr) (fd : FuncData) : Prop where
  mg : mg x = some (.ref f)
  kp : PySem.W.keepIn K (.ref f) = true
  b : Binds K fd ps []
def But (p : Addr) (H H' : Hp) : Prop := ∀ b u, b ≠ p → H b = some u → H' b = some u
theorem But.refl (p : Addr) (H : Hp) : But p H H := fun _ _ _ e => e
theorem But.trans {p : Addr} {H H1 H2 : Hp} (a : But p H H1) (b : But p H1 H2) : But p H H2 := fun c u n e => b c u n (a c u n e)
theorem But.upd {p : Addr} {H : Hp} {o : HO} : But p H (upd H p o) := fun b u n e => by rw [upd_ne n]; exact e
theorem But.new {p q : Addr} {H H1 : Hp} {o : HO} (a : But p H H1) (n : H q = none) : But p H (L2.upd H1 q o) := fun b u hb e => by rw [upd_ne (ne_of_none e n)]; exact a b u hb e
theorem But.free {p q : Addr} {H H' : Hp} (a : But p H H') (n : q ≠ p) (e : H' q = none) : H q = none := by
  cases h : H q with
  | none => rfl
  | some u => rw [a q u n h] at e; cases e
def PoolAt (H : Hp) (p : Addr) (c : Int) : Prop := ∃ o, H p = some o ∧ IsPool o c
def spSome : Sp := fun vs H Q _ => ∃ (p q : Addr) (n : Nat) (c : Int) (ks : List Str), vs = [.ref p, .ref q, .int n] ∧ PoolAt H p c ∧ H q = some (.lst (ks.map V.str)) ∧ ks ≠ [] ∧ ks.length ≤ 1000 ∧ n ≤ 1000 ∧ 0 ≤ c ∧ c + n < 1000000 ∧
  ∀ (l : Addr) (ss : List Str) (c' : Int) (H' : Hp), H l = none → ss.length = n → (∀ x ∈ ss, x ∈ ks) → H' l = some (.lst (ss.map V.str)) → PoolAt H' p c' → c ≤ c' → c' ≤ c + n → But p H H' → Q (.ref l) H'
section
variable {P : Program} {w : World} {K : PySem.W.Frag} {mg : Str → Option Value} {base : Heap}
theorem scSome : FnScope ["pool", "kinds", "many"] ["pool", "kinds", "many"] (defScope sSome) := ⟨rfl, rfl, rfl, by decide +kernel, rfl, by decide +kernel, by decide +kernel⟩
def compScope (e : Expr) : Scope := match e with
  | .ListComp _ _ s _ => s
  | .DictComp _ _ _ s _ => s
  | _ => { kind := .function, names := [], isGenerator := false, isCoroutine := false }
def retExpr (s : Stmt) : Expr := match s with
  | .Return (some e) _ => e
  | _ => .Name "" ⟨0, 0, 0, 0⟩
abbrev someComp : Expr := retExpr ((defBody sSome).getD 0 (.Pass ⟨0, 0, 0, 0⟩))
theorem ckSome : compOk (defScope sSome) (compScope someComp) ["pool", "kinds", "many"] ["k", "kinds", "pool"] 1 [1, 0] = true := by decide +kernel
theorem nd1 : ((["k", "kinds", "pool"] : List Str)).Nodup := by decide +kernel
theorem ok_some {f fT : Addr} {fd fdT : FuncData} (F : Fun K "_law_some" "_law_some" sSome f fd) (FT : Fun K "_law_take" "_law_take" sTake fT fdT) (cT : Cal K mg "_law_take" ["pool", "many"] fT fdT) (mR : mg "range" = none) (mL : mg "len" = none) :
    FnOk P w K mg base CX0 2 f fd ["pool", "kinds", "many"] spSome := by
  have GT : FnOk P w K mg base CX0 1 fT fdT ["pool", "many"] spTake := ok_take FT
  refine F.ok scSome (fun vs H Q E h => ?_) (fun cdv A outer s H vs Q E hr h => ?_)
  · obtain ⟨p, q, n, c, ks, rfl, _⟩ := h
    rfl
  · obtain ⟨p, q, n, c, ks, rfl, ⟨o, hp, hpo⟩, hq, hk, hkl, hn, hc, hcn, k⟩ := h
    obtain ⟨S, Cp⟩ := comp_of (X := (cxOf CX0 P w K mg base ["pool", "kinds", "many"] "_law_some" (defScope sSome) f cdv A outer s H E).nox) (outer := defScope sSome) (N := ["pool", "kinds", "many"]) rfl rfl ckSome
    refine ⟨_, pss_one (ps_ret (pe_lcomp (tg := .Name "k" _) rfl S Cp (pi_range1 rfl mR (pa_cons (pv 2) pa_nil))
      (fun C fp s₀ H₀ => pg_name (i := 0) nd1 rfl (Or.inl rfl) (.inr rfl)) (fun C fp s₀ H₀ => pif_nil)
      (fun C fp s₀ H₀ => pe_ix (ix_listK (K := K) rfl) (pv 1) (pe_call GT hr rfl cT.mg cT.kp cT.b .nil pass0 (pa_cons (pv 2) (pa_cons (pe_callB (call_lenK (K := K) rfl) rfl mL PySem.boot_len (pa_cons (pv 1) pa_nil)) pa_nil))) (fun _ _ => rfl)))), ?_⟩
    refine lcomp_eq _ _ _ _ _ _ _ _ _ ?_
    refine ⟨_, rfl, (n : Int), rfl, by (first | lia | omega), by (first | lia | omega), ?_⟩
    intro D hD
    have npD : p ≠ D := ne_of_none hp hD
    have nqD : q ≠ D := ne_of_none hq hD
    have npq : p ≠ q := by
      obtain ⟨a, f', rfl⟩ := hpo
      refine ne_of hp hq fun e => ?_
      injection e with e
      cases ks with
      | nil => exact hk rfl
      | cons z r => rw [List.map_cons] at e; injection e with e1; cases e1
    rw [Int.toNat_natCast]
    refine comp_range (fun i ys H2 => ∃ (ss : List Str) (c' : Int), ys = ss.map V.str ∧ ss.length = i ∧ (∀ x ∈ ss, x ∈ ks) ∧ H2 D = some (.lst ys) ∧ PoolAt H2 p c' ∧ c ≤ c' ∧ c' ≤ c + i ∧ But p H H2) ?_ (fun i ys H2 ⟨_, _, _, _, _, z, _⟩ => z) ?_ ?_
    · refine ⟨[], c, rfl, rfl, (fun x hx => nomatch hx), upd_same, ⟨o, by rw [upd_ne npD]; exact hp, hpo⟩, Int.le_refl _, by (first | lia | omega), (But.refl p H).new hD⟩
    · rintro i ys H2 hi ⟨ss, c', rfl, hl, hm, hD2, ⟨o2, hp2, hpo2⟩, h1, h2, hb⟩
      have hq2 := hb q _ (Ne.symm npq) hq
      refine turn_name rfl ?_
      refine ⟨_, rfl, _, rfl, _, rfl, q, _, rfl, .inl (SqL.of hq2), p, _, c', o2, rfl, hp2, hpo2, ?_, ?_, by (first | lia | omega), by (first | lia | omega), fun r c2 o3 r0 r1 h3 h4 hpo3 => ?_⟩
      · rw [List.length_map]
        cases ks with
        | nil => exact absurd rfl hk
        | cons z r => rw [List.length_cons]; (first | lia | omega)
      · rw [List.length_map]; (first | lia | omega)
      · rw [List.length_map] at r1
        obtain ⟨j, rfl⟩ : ∃ j : Nat, r = (j : Int) := ⟨r.toNat, by (first | lia | omega)⟩
        have hj : j < ks.length := by (first | lia | omega)
        refine ⟨q, _, _, .str ks[j], rfl, rfl, SqL.of (by rw [upd_ne (Ne.symm npq)]; exact hq2), atI_nat (by rw [List.getElem?_map, List.getElem?_eq_getElem hj]; rfl), ?_⟩
        refine ⟨by rw [upd_ne (Ne.symm npD)]; exact hD2, by rw [List.length_map]; exact small1000 (by (first | lia | omega)), nx hi ?_⟩
        refine ⟨ss ++ [ks[j]], c2, by simp, by simp [hl], fun x hx => ?_, upd_same, ⟨o3, by rw [upd_ne npD, upd_same], hpo3⟩, by (first | lia | omega), by (first | lia | omega), ?_⟩
        · rcases List.mem_append.mp hx with hx | hx
          · exact hm x hx
          · rw [List.mem_singleton.mp hx]; exact List.getElem_mem hj
        · exact (hb.trans But.upd).new hD
    · rintro ys H2 ⟨ss, c', rfl, hl, hm, hD2, hp2, h1, h2, hb⟩
      exact k D ss c' H2 hD hl hm hD2 hp2 h1 h2 hb
end
end K7
set_option Elab.async false
set_option linter.all false
set_option maxRecDepth 100000
set_option maxHeartbeats 4000000
namespace K7
open PySem L2 PyProof.Rows
def spPool (K : PySem.W.Frag) : Sp := fun vs H Q _ => ∃ (a : Addr) (k : Nat) (ns : List Int), vs = [.ref a, .int k] ∧ SqL K H a (ns.map V.int) ∧ k ≤ 100 ∧ ns.length ≤ 63 ∧
  ∀ (l : Addr) (c : Int) (o : HO), H l = none → IsPool o c → 0 ≤ c → c ≤ 5300 → Q (.ref l) (upd H l o)
section
variable {P : Program} {w : World} {K : PySem.W.Frag} {mg : Str → Option Value} {base : Heap}
theorem scPool : FnScope ["script", "k", "cell"] ["script", "k"] (defScope sPool) := ⟨rfl, rfl, rfl, by decide +kernel, rfl, by decide +kernel, by decide +kernel⟩
theorem ok_pool {f : Addr} {fd : FuncData} (F : Fun K "_law_pool" "_law_pool" sPool f fd) (mL : mg "len" = none) : FnOk P w K mg base CX0 1 f fd ["script", "k"] (spPool K) := by
  refine F.ok scPool (fun vs H Q E h => ?_) (fun cdv A outer s H vs Q E hr h => ?_)
  · obtain ⟨a, k, ns, rfl, _⟩ := h
    rfl
  · obtain ⟨a, k, ns, rfl, hS, hk, hn, q⟩ := h
    refine ⟨_, pss_cons (ps_set (i := 2) scPool.nd rfl (Or.inl rfl) pe_int)
      (pss_cons (ps_if (pt_cmpR op_lt (pv 1) (pe_callB call_len_seq rfl mL PySem.boot_len (pa_cons (pv 0) pa_nil)) (nomark _))
        (pss_one (ps_set (i := 2) scPool.nd rfl (Or.inl rfl) (pe_ix ix_list (pv 0) (pv 1) (fun _ _ => rfl)))) pss_nil)
      (pss_cons (ps_if (pt_cmpR op_ge (pv 2) (pe_op op_pow pe_int pe_int) (nomark _))
        (pss_one (ps_ret (pe_lst (pa_cons (pe_op op_sub (pv 2) (pe_op op_pow pe_int pe_int)) (pa_cons pe_int (pa_cons pe_int pa_nil)))))) pss_nil)
      (pss_one (ps_ret (pe_lst (pa_cons (pv 2) (pa_cons pe_int (pa_cons (pe_op op_mul pe_int (pv 1)) pa_nil)))))))), ?_⟩
    refine ⟨_, rfl, _, rfl, a, _, rfl, .inl hS, _, _, rfl, rfl, _, rfl, ?_⟩
    refine ite2 (fun hlt => ?_) (fun _ => ?_)
    · have hlt' : k < ns.length := by
        have z := of_decide_eq_true hlt
        rw [List.length_map] at z
        (first | lia | omega)
      refine ⟨_, rfl, _, rfl, a, _, _, .int ns[k], rfl, rfl, hS, atI_nat (by rw [List.getElem?_map, List.getElem?_eq_getElem hlt']; rfl), ?_⟩
      refine ⟨_, rfl, 10, 18, rfl, rfl, ⟨by decide, by decide, by decide⟩, _, _, rfl, rfl, _, rfl, ite2 (fun _ => ?_) (fun _ => ?_)⟩
      · refine ⟨_, rfl, 10, 18, rfl, rfl, ⟨by decide, by decide, by decide⟩, _, _, rfl, rfl, (by show 3 ≤ sizeLine; decide), fun l hl => ?_⟩
        exact q l 0 _ hl ⟨_, 1, rfl⟩ (by decide) (by decide)
      · refine ⟨_, rfl, _, rfl, 53, k, rfl, rfl, .inl ⟨by decide, by decide⟩, (by show 3 ≤ sizeLine; decide), fun l hl => ?_⟩
        exact q l (53 * k) _ hl ⟨_, 0, rfl⟩ (by (first | lia | omega)) (by (first | lia | omega))
    · refine ⟨_, rfl, 10, 18, rfl, rfl, ⟨by decide, by decide, by decide⟩, _, _, rfl, rfl, _, rfl, ite2 (fun _ => ?_) (fun _ => ?_)⟩
      · refine ⟨_, rfl, 10, 18, rfl, rfl, ⟨by decide, by decide, by decide⟩, _, _, rfl, rfl, (by show 3 ≤ sizeLine; decide), fun l hl => ?_⟩
        exact q l 0 _ hl ⟨_, 1, rfl⟩ (by decide) (by decide)
      · refine ⟨_, rfl, _, rfl, 53, k, rfl, rfl, .inl ⟨by decide, by decide⟩, (by show 3 ≤ sizeLine; decide), fun l hl => ?_⟩
        exact q l (53 * k) _ hl ⟨_, 0, rfl⟩ (by (first | lia | omega)) (by (first | lia | omega))
end
end K7
set_option Elab.async false
set_option linter.all false
set_option maxRecDepth 100000
set_option maxHeartbeats 4000000
namespace K7
open PySem L2 PyProof.Rows
def KindOk (z : Str) : Prop := 1 ≤ z.length ∧ z.length ≤ 4 ∧ ∀ c ∈ z.cps.toList, 97 ≤ c ∧ c ≤ 122
abbrev lettersS : Str := "abcdefghijklmnopqrstuvwxyz"
section
variable {P : Program} {w : World} {K : PySem.W.Frag} {mg : Str → Option Value} {base : Heap}
structure Glb (mg : Str → Option Value) : Prop where
  isi : mg "isinstance" = none
  str : mg "str" = none
  len : mg "len" = none
  all : mg "all" = none
  letters : ∃ t, mg "LETTERS" = some (.str lettersS t)
  most : ∃ t, mg "MOST_LETTERS" = some (.int 4 t)
theorem scKind : FnScope ["thing"] ["thing"] (defScope sKind) := ⟨rfl, rfl, rfl, by decide +kernel, rfl, by decide +kernel, by decide +kernel⟩
def firstArg (e : Expr) : Expr := match e with
  | .Call _ (a :: _) _ _ => a
  | e => e
abbrev kindComp : Expr := firstArg (retExpr ((defBody sKind).getD 1 (.Pass ⟨0, 0, 0, 0⟩)))
theorem ckKind : compOk (defScope sKind) (compScope kindComp) ["thing"] ["sign"] 1 [] = true := by decide +kernel
theorem nd2 : (["sign"] : List Str).Nodup := by decide +kernel
end
end K7
set_option Elab.async false
set_option linter.all false
set_option maxRecDepth 100000
set_option maxHeartbeats 4000000
namespace K7
open PySem L2 PyProof.Rows
def lastPart (e : Expr) : Expr := match e with
  | .BoolOp _ es _ => es.getLastD e
  | e => e
section
variable {P : Program} {w : World} {K : PySem.W.Frag} {mg : Str → Option Value} {base : Heap}
theorem scKinds : FnScope ["thing"] ["thing"] (defScope sKinds) := ⟨rfl, rfl, rfl, by decide +kernel, rfl, by decide +kernel, by decide +kernel⟩
abbrev kindsComp : Expr := firstArg (lastPart (retExpr ((defBody sKinds).getD 0 (.Pass ⟨0, 0, 0, 0⟩))))
theorem ckKinds : compOk (defScope sKinds) (compScope kindsComp) ["thing"] ["kind"] 1 [] = true := by decide +kernel
theorem nd3 : (["kind"] : List Str).Nodup := by decide +kernel
end
end K7
set_option Elab.async false
set_option linter.all false
set_option maxRecDepth 100000
set_option maxHeartbeats 4000000
namespace K7
open PySem L2 PyProof.Rows
theorem strs_lay {ks : List Str} (h : ∀ k ∈ ks, KindOk k) : PyData.canLayAll0 (ks.map PyData.str) = true := by
  induction ks with
  | nil => rfl
  | cons z r ih =>
    have hz := h z List.mem_cons_self
    have hs : PyData.strOk z = true := by
      unfold PyData.strOk
      rw [← Array.all_toList, List.all_eq_true]
      intro c hc
      exact decide_eq_true (by have := hz.2.2 c hc; (first | lia | omega))
    rw [List.map_cons]
    simp only [PyData.canLayAll0, PyData.canLay0, hs, Bool.true_and]
    exact ih fun k hk => h k (List.mem_cons_of_mem _ hk)
theorem strs_eqv : ∀ ks : List Str, PyData.eqvAll (ks.map PyData.str) (ks.map PyData.str) = true
  | [] => rfl
  | z :: r => by
    rw [List.map_cons]
    simp only [PyData.eqvAll, PyData.eqv, beq_self_eq_true, Bool.true_and]
    exact strs_eqv r
theorem strs_depth : ∀ ks : List Str, PyData.depthAll (ks.map PyData.str) = 0
  | [] => rfl
  | z :: r => by
    rw [List.map_cons]
    simp only [PyData.depthAll, PyData.depth, strs_depth r]
    rfl
section
variable {P : Program} {w : World} {K : PySem.W.Frag} {mg : Str → Option Value} {base : Heap}
theorem scLocks : FnScope ["thing"] ["thing"] (defScope sLocks) := ⟨rfl, rfl, rfl, by decide +kernel, rfl, by decide +kernel, by decide +kernel⟩
end
end K7
set_option Elab.async false
set_option linter.all false
set_option maxRecDepth 100000
set_option maxHeartbeats 4000000
namespace K7
open PySem L2 PyProof.Rows
abbrev Rm := List Str × List Str
structure RoomOk (r : Rm) : Prop where
  lk : ∀ k ∈ r.1, KindOk k
  l1 : 1 ≤ r.1.length
  l4 : r.1.length ≤ 4
  so : r.1.Pairwise leS
  kk : ∀ k ∈ r.2, KindOk k
  kl : r.2.length ≤ 1000
def RoomAt (H : Hp) (v : V) (r : Rm) : Prop := ∃ t a b : Addr, v = .ref t ∧ H t = some (.tup [.ref a, .ref b]) ∧ H a = some (.lst (r.1.map V.str)) ∧ H b = some (.lst (r.2.map V.str))
theorem RoomAt.same {H H' : Hp} {v : V} {r : Rm} (s : Same H H') (h : RoomAt H v r) : RoomAt H' v r := by
  obtain ⟨t, a, b, e, h1, h2, h3⟩ := h
  exact ⟨t, a, b, e, s _ _ h1, s _ _ h2, s _ _ h3⟩
section
variable {P : Program} {w : World} {K : PySem.W.Frag} {mg : Str → Option Value} {base : Heap}
theorem scRoom : FnScope ["thing"] ["thing"] (defScope sRoom) := ⟨rfl, rfl, rfl, by decide +kernel, rfl, by decide +kernel, by decide +kernel⟩
end
end K7
set_option Elab.async false
set_option linter.all false
set_option maxRecDepth 100000
set_option maxHeartbeats 4000000
namespace K7
open PySem L2 PyProof.Rows
abbrev Hs := List Str × List Rm
def RoomsAt (H : Hp) (vs : List V) (rs : List Rm) : Prop := vs.length = rs.length ∧ ∀ (i : Nat) (v : V) (r : Rm), vs[i]? = some v → rs[i]? = some r → RoomAt H v r
theorem RoomsAt.same {H H' : Hp} {vs : List V} {rs : List Rm} (s : Same H H') (h : RoomsAt H vs rs) : RoomsAt H' vs rs := ⟨h.1, fun i v r a b => (h.2 i v r a b).same s⟩
def HouseAt (H : Hp) (v : V) (h : Hs) : Prop := ∃ (t a r : Addr) (vs : List V), v = .ref t ∧ H t = some (.tup [.ref a, .ref r]) ∧ H a = some (.lst (h.1.map V.str)) ∧ H r = some (.lst vs) ∧ RoomsAt H vs h.2
theorem HouseAt.same {H H' : Hp} {v : V} {h : Hs} (s : Same H H') (x : HouseAt H v h) : HouseAt H' v h := by
  obtain ⟨t, a, r, vs, e, h1, h2, h3, h4⟩ := x
  exact ⟨t, a, r, vs, e, s _ _ h1, s _ _ h2, s _ _ h3, h4.same s⟩
structure HouseOk (h : Hs) : Prop where
  kk : ∀ k ∈ h.1, KindOk k
  kl : h.1.length ≤ 1000
  rs : ∀ r ∈ h.2, RoomOk r
  rl : h.2.length ≤ 1000
section
variable {P : Program} {w : World} {K : PySem.W.Frag} {mg : Str → Option Value} {base : Heap}
theorem scHouse : FnScope ["thing", "keys", "rooms"] ["thing"] (defScope sHouse) := ⟨rfl, rfl, rfl, by decide +kernel, rfl, by decide +kernel, by decide +kernel⟩
abbrev houseComp : Expr := firstArg (lastPart (retExpr ((defBody sHouse).getD 2 (.Pass ⟨0, 0, 0, 0⟩))))
theorem ckHouse : compOk (defScope sHouse) (compScope houseComp) ["thing", "keys", "rooms"] ["room"] 1 [] = true := by decide +kernel
theorem nd4 : (["room"] : List Str).Nodup := by decide +kernel
end
end K7
set_option Elab.async false
set_option linter.all false
set_option maxRecDepth 100000
set_option maxHeartbeats 4000000
namespace K7
open PySem L2 PyProof.Rows
end K7
set_option Elab.async false
set_option linter.all false
set_option maxRecDepth 100000
set_option maxHeartbeats 4000000
namespace L2
open PySem PySem.Spec PyProof.Rows
section
variable {X : Cx} {o e : Expr} {es : List Expr} {to : TE} {t : TA} {name : Str} {apos cpos : Pos} {T id : String} {r : V → List V → Hp → VK → Prop} {K : PySem.W.Frag}
end
end L2
namespace K7
open PySem L2 PyProof.Rows
def allKeys (h : Hs) : List Str := h.1 ++ h.2.flatMap (·.2)
def allLocks (h : Hs) : List Str := h.2.flatMap (·.1)
structure HouseFew (h : Hs) : Prop where
  few : ∃ U : List Str, U.length < 64 ∧ ∀ x, (x ∈ allKeys h ∨ x ∈ allLocks h) → x ∈ U
  nk : (allKeys h).length ≤ 1000
  nl : (allLocks h).length ≤ 1000
end K7
set_option Elab.async false
set_option linter.all false
set_option maxRecDepth 100000
set_option maxHeartbeats 4000000
namespace L2
open PySem PySem.Spec PyProof.Rows
end L2
namespace K7
open PySem L2 PyProof.Rows
def forBody (s : Stmt) : List Stmt := match s with
  | .For _ _ b _ _ => b
  | _ => []
end K7
set_option Elab.async false
set_option linter.all false
set_option maxRecDepth 100000
set_option maxHeartbeats 4000000
namespace K7
open PySem L2 PyProof.Rows
theorem letters_codes : lettersS.cps.toList = List.range' 97 26 := by decide +kernel
theorem letters_at (r : Nat) (h : r < 26) : atI lettersS.cps.toList (r : Int) = some (97 + r) := atI_nat (by rw [letters_codes, List.getElem?_range' h]; simp)
theorem letters_len : lettersS.length ≤ sizeLine := by decide
def CodesOk (l : List Nat) : Prop := 1 ≤ l.length ∧ l.length ≤ 4 ∧ ∀ c ∈ l, 97 ≤ c ∧ c ≤ 122
theorem kind_of {z : Str} (h : CodesOk z.cps.toList) : KindOk z := by
  obtain ⟨h1, h2, h3⟩ := h
  have e : z.cps.toList.length = z.length := Array.length_toList
  exact ⟨by (first | lia | (first | lia | omega)), by (first | lia | (first | lia | omega)), h3⟩
theorem of_kind {z : Str} (h : KindOk z) : CodesOk z.cps.toList := by
  obtain ⟨h1, h2, h3⟩ := h
  have e : z.cps.toList.length = z.length := Array.length_toList
  exact ⟨by (first | lia | (first | lia | omega)), by (first | lia | (first | lia | omega)), h3⟩
def wordOf (t : Nat) : Str := ⟨#[97 + t / 26, 97 + t % 26, 122, 122]⟩
theorem word_inj {s t : Nat} (h : wordOf s = wordOf t) : s = t := by
  unfold wordOf at h
  injection h with h
  have h' := congrArg Array.toList h
  simp only [List.cons.injEq] at h'
  (first | lia | (first | lia | omega))
theorem word_ok {t : Nat} (h : t < 676) : KindOk (wordOf t) := by
  refine ⟨by show 1 ≤ 4; decide, by show 4 ≤ 4; decide, fun c hc => ?_⟩
  have hc' : c ∈ [97 + t / 26, 97 + t % 26, 122, 122] := hc
  simp only [List.mem_cons, List.not_mem_nil, or_false] at hc'
  (first | lia | (first | lia | omega))
def spMade : Sp := fun vs H Q _ => ∃ (p : Addr) (n : Nat) (c : Int), vs = [.ref p, .int n] ∧ PoolAt H p c ∧ n ≤ 60 ∧ 0 ≤ c ∧ c + 540 < 1000000 ∧
  ∀ (l : Addr) (ks : List Str) (c' : Int) (H' : Hp), H l = none → ks.length = n → (∀ k ∈ ks, KindOk k) → ks.Nodup → H' l = some (.lst (ks.map V.str)) → PoolAt H' p c' → c ≤ c' → c' ≤ c + 540 → But p H H' → Q (.ref l) H'
theorem ones_codes : ∀ {ss : List Str}, (∀ x ∈ ss, ∃ c, x = ⟨#[c]⟩ ∧ 97 ≤ c ∧ c ≤ 122) → ((ss.map (·.cps.toList)).flatten).length = ss.length ∧ ∀ c ∈ (ss.map (·.cps.toList)).flatten, 97 ≤ c ∧ c ≤ 122
  | [], _ => ⟨rfl, (fun c h => by simp at h)⟩
  | a :: r, h => by
    obtain ⟨c, rfl, h1, h2⟩ := h a List.mem_cons_self
    obtain ⟨i1, i2⟩ := ones_codes (ss := r) fun x hx => h x (List.mem_cons_of_mem _ hx)
    rw [List.map_cons, List.flatten_cons]
    refine ⟨?_, fun d hd => ?_⟩
    · rw [List.length_append, i1, List.length_cons]
      show 1 + r.length = r.length + 1
      (first | lia | (first | lia | omega))
    · rcases List.mem_append.mp hd with hd | hd
      · have : d = c := by simpa using hd
        (first | lia | (first | lia | omega))
      · exact i2 d hd
theorem ones_sum : ∀ {ss : List Str}, (∀ x ∈ ss, ∃ c, x = ⟨#[c]⟩ ∧ 97 ≤ c ∧ c ≤ 122) → (ss.map (·.length)).sum = ss.length
  | [], _ => rfl
  | a :: r, h => by
    obtain ⟨c, rfl, h1, h2⟩ := h a List.mem_cons_self
    rw [List.map_cons, List.sum_cons, ones_sum fun x hx => h x (List.mem_cons_of_mem _ hx), List.length_cons]
    show 1 + r.length = r.length + 1
    (first | lia | (first | lia | omega))
theorem in_strs (z : Str) (ks : List Str) : inV (.str z) (ks.map V.str) = decide (z ∈ ks) := by
  unfold inV
  induction ks with
  | nil => rfl
  | cons a r ih =>
    rw [List.map_cons, List.any_cons, ih]
    show (a == z || decide (z ∈ r)) = _
    by_cases e : a = z
    · subst e; simp
    · have e' : (a == z) = false := by simpa using e
      rw [e', Bool.false_or]
      by_cases hz : z ∈ r
      · simp [hz]
      · simp [hz, Ne.symm e]
theorem flat_strs (ks : List Str) : (ks.map V.str).all flatV = true := by
  rw [List.all_map, List.all_eq_true]
  intro _ _
  rfl
theorem kind_size {z : Str} (h : KindOk z) : z.length ≤ sizeLine := Nat.le_of_lt (small1000 (by have := h.2.1; (first | lia | (first | lia | omega))))
theorem last_of {ks : List Str} (h : ks ≠ []) : ∃ y, y ∈ ks ∧ atI (ks.map V.str) (-1) = some (.str y) := by
  rcases List.eq_nil_or_concat ks with e | ⟨r, y, e⟩
  · exact absurd e h
  · rw [List.concat_eq_append] at e
    subst e
    exact ⟨y, by simp, by rw [List.map_append]; exact atI_last _ _⟩
theorem eqv_nil (ks : List Str) : PyData.eqv (.list (ks.map PyData.str)) (.list []) = ks.isEmpty := by
  cases ks with
  | nil => rfl
  | cons a r => rfl
def asgVal (s : Stmt) : Expr := match s with
  | .Assign _ e _ => e
  | _ => .Name "" ⟨0, 0, 0, 0⟩
section
variable {P : Program} {w : World} {K : PySem.W.Frag} {mg : Str → Option Value} {base : Heap}
theorem scMade : FnScope ["pool", "many", "letters", "found", "k", "kind", "way", "at", "turn"] ["pool", "many"] (defScope sMade) := ⟨rfl, rfl, rfl, by decide +kernel, rfl, by decide +kernel, by decide +kernel⟩
abbrev madeComp : Expr := firstArg (asgVal ((forBody ((defBody sMade).getD 2 (.Pass ⟨0, 0, 0, 0⟩))).getD 0 (.Pass ⟨0, 0, 0, 0⟩)))
theorem ckMade : compOk (defScope sMade) (compScope madeComp) ["pool", "many", "letters", "found", "k", "kind", "way", "at", "turn"] ["j", "letters", "pool"] 1 [2, 0] = true := by decide +kernel
theorem nd8 : (["j", "letters", "pool"] : List Str).Nodup := by decide +kernel
inductive MdI1 (p : Addr) (n : Nat) (l : Addr) (i : Nat) (c1 : Int) (H2 : Hp) (σ' : L2.St) (H' : Hp) : Prop
  | mk (x6 x7 x8 : Option V) (z : Str) (c' : Int) : (σ' = [some (.ref p), some (.int n), some (.str lettersS), some (.ref l), some (.int (0 + i)), some (.str z), x6, x7, x8]) → (KindOk z) → (PoolAt H' p c') → (c1 ≤ c') → (c' ≤ c1 + 5) → (But p H2 H') → MdI1 p n l i c1 H2 σ' H'
inductive MdI2 (p : Addr) (n : Nat) (l : Addr) (i : Nat) (wy : Int) (c1 : Int) (H2 : Hp) (σ' : L2.St) (H' : Hp) : Prop
  | mk (x7 x8 : Option V) (z : Str) (c' : Int) : (σ' = [some (.ref p), some (.int n), some (.str lettersS), some (.ref l), some (.int (0 + i)), some (.str z), some (.int wy), x7, x8]) → (KindOk z) → (PoolAt H' p c') → (c1 ≤ c') → (c' ≤ c1 + 7) → (But p H2 H') → MdI2 p n l i wy c1 H2 σ' H'
inductive MdI3 (p : Addr) (n : Nat) (l : Addr) (i : Nat) (wy : Int) (c1 : Int) (H2 : Hp) (σ' : L2.St) (H' : Hp) : Prop
  | mk (x7 x8 : Option V) (z : Str) (c' : Int) : (σ' = [some (.ref p), some (.int n), some (.str lettersS), some (.ref l), some (.int (0 + i)), some (.str z), some (.int wy), x7, x8]) → (KindOk z) → (PoolAt H' p c') → (c1 ≤ c') → (c' ≤ c1 + 9) → (But p H2 H') → MdI3 p n l i wy c1 H2 σ' H'
inductive MdL (p l : Addr) (n : Nat) (c : Int) (H : Hp) (i : Nat) (σ : L2.St) (H2 : Hp) : Prop
  | mk (x4 x5 x6 x7 x8 : Option V) (ks : List Str) (c' : Int) : σ = [some (.ref p), some (.int n), some (.str lettersS), some (.ref l), x4, x5, x6, x7, x8] → ks.length = i → (∀ k ∈ ks, KindOk k) → ks.Nodup → H2 l = some (.lst (ks.map V.str)) → PoolAt H2 p c' → c ≤ c' → c' ≤ c + 9 * i → But p H H2 → MdL p l n c H i σ H2
theorem ok_made {f fT : Addr} {fd fdT : FuncData} (F : Fun K "_law_kinds" "_law_kinds" sMade f fd) (GT : FnOk P w K mg base CX0 1 fT fdT ["pool", "many"] spTake) (cT : Cal K mg "_law_take" ["pool", "many"] fT fdT) (mR : mg "range" = none) (mL : mg "len" = none) :
    FnOk P w K mg base CX0 2 f fd ["pool", "many"] spMade := by
  refine F.ok scMade (fun vs H Q E h => ?_) (fun cdv A outer s H vs Q E hr h => ?_)
  · obtain ⟨p, n, c, rfl, _⟩ := h
    rfl
  · obtain ⟨p, n, c, rfl, ⟨o, hp, hpo⟩, hn, hc, hcn, k⟩ := h
    have hu := hu_of hr
    obtain ⟨S, Cp⟩ := comp_of (X := (cxOf CX0 P w K mg base ["pool", "many", "letters", "found", "k", "kind", "way", "at", "turn"] "_law_kinds" (defScope sMade) f cdv A outer s H E).nox) (outer := defScope sMade) (N := ["pool", "many", "letters", "found", "k", "kind", "way", "at", "turn"]) rfl rfl ckMade
    have tk : ∀ {b : Expr} {t : TE}, PE (cxOf CX0 P w K mg base ["pool", "many", "letters", "found", "k", "kind", "way", "at", "turn"] "_law_kinds" (defScope sMade) f cdv A outer s H E).nox b t → True := fun _ => trivial
    refine ⟨_, pss_cons (ps_set (i := 2) scMade.nd rfl (Or.inr rfl) pe_str)
      (pss_cons (ps_set (i := 3) scMade.nd rfl (Or.inl rfl) (pe_lst pa_nil))
      (pss_cons (ps_for PassesOwn.never rfl (pi_range1 rfl mR (pa_cons (pv 1) pa_nil)) (pg_name (i := 4) scMade.nd rfl (Or.inl rfl))
        (pss_cons (ps_cut (ps_set (i := 5) scMade.nd rfl (Or.inl rfl) (pe_bm PySem.F.plainAttrs_str PySem.F.slot_str_join PySem.F.type_str_join mt_join pe_str (pa_cons (pe_lcomp (tg := .Name "j" _) rfl S Cp
            (pi_range1 rfl mR (pa_cons (pe_op op_add pe_int (pe_call GT hr rfl cT.mg cT.kp cT.b .nil pass0 (pa_cons (pv 0) (pa_cons pe_int pa_nil)))) pa_nil))
            (fun C fp s₀ H₀ => pg_name (i := 0) nd8 rfl (Or.inl rfl) (.inr rfl)) (fun C fp s₀ H₀ => pif_nil)
            (fun C fp s₀ H₀ => pe_ix ix_str (pv 1) (pe_call GT hr rfl cT.mg cT.kp cT.b .nil pass0 (pa_cons (pv 2) (pa_cons pe_int pa_nil))) (fun _ _ => rfl))) pa_nil))))
        (pss_cons (ps_set (i := 6) scMade.nd rfl (Or.inl rfl) (pe_call GT hr rfl cT.mg cT.kp cT.b .nil pass0 (pa_cons (pv 0) (pa_cons pe_int pa_nil))))
        (pss_cons (ps_cut (ps_if (PW.pt (pw_and (pt_cmpR op_eq (pv 6) pe_int (nomark _)) (pw_and1 (pt_cmpR op_neD (pv 3) (pe_lst pa_nil) (nomark _)))))
          (pss_one (ps_set (i := 5) scMade.nd rfl (Or.inl rfl) (pe_slice sl_str (pe_op op_add_str (pe_ix ix_list (pv 3) (pe_un un_neg pe_int) (fun _ _ => rfl)) (pe_ix ix_str (pv 2) (pe_call GT hr rfl cT.mg cT.kp cT.b .nil pass0 (pa_cons (pv 0) (pa_cons pe_int pa_nil))) (fun _ _ => rfl))) po_none (po_some pe_int)))) pss_nil))
        (pss_cons (ps_cut (ps_if (PW.pt (pw_and (pt_cmpR op_eq (pv 6) pe_int (nomark _)) (pw_and1 (pt_cmpR op_neD (pv 3) (pe_lst pa_nil) (nomark _)))))
          (pss_cons (ps_set (i := 7) scMade.nd rfl (Or.inl rfl) (pe_call GT hr rfl cT.mg cT.kp cT.b .nil pass0 (pa_cons (pv 0) (pa_cons (pe_callB call_len_str rfl mL PySem.boot_len (pa_cons (pe_ix ix_list (pv 3) (pe_un un_neg pe_int) (fun _ _ => rfl)) pa_nil)) pa_nil))))
          (pss_one (ps_set (i := 5) scMade.nd rfl (Or.inl rfl) (pe_op op_add_str (pe_op op_add_str (pe_slice sl_str (pe_ix ix_list (pv 3) (pe_un un_neg pe_int) (fun _ _ => rfl)) po_none (po_some (pv 7)))
              (pe_ix ix_str (pv 2) (pe_call GT hr rfl cT.mg cT.kp cT.b .nil pass0 (pa_cons (pv 0) (pa_cons pe_int pa_nil))) (fun _ _ => rfl)))
            (pe_slice sl_str (pe_ix ix_list (pv 3) (pe_un un_neg pe_int) (fun _ _ => rfl)) (po_some (pe_op op_add (pv 7) pe_int)) po_none))))) pss_nil))
        (pss_cons (ps_set (i := 8) scMade.nd rfl (Or.inl rfl) pe_int)
        (pss_cons (ps_while PassesOwn.never (pt_cmpR op_in_seq (pv 5) (pv 3) rfl)
          (pss_cons (ps_set (i := 5) scMade.nd rfl (Or.inl rfl) (pe_op op_add_str (pe_op op_add_str (pe_ix ix_str (pv 2) (pe_op op_fdiv (pv 8) pe_int) (fun _ _ => rfl)) (pe_ix ix_str (pv 2) (pe_op op_mod (pv 8) pe_int) (fun _ _ => rfl))) pe_str))
          (pss_one (ps_set (i := 8) scMade.nd rfl (Or.inl rfl) (pe_op op_add (pv 8) pe_int)))))
        (pss_one (ps_expr (pe_bm PySem.F.plainAttrs_list PySem.F.slot_list_append PySem.F.type_list_append mt_append (pv 3) (pa_cons (pv 5) pa_nil)))))))))))
      (pss_one (ps_ret (pv 3))))), ?_⟩
    refine ⟨Nat.zero_le _, fun l hl => ?_⟩
    have npl : p ≠ l := ne_of_none hp hl
    first | refine tvE rfl ?_ | refine ⟨_, rfl, ?_⟩
    refine ⟨(n : Int), rfl, by (first | lia | (first | lia | omega)), by (first | lia | (first | lia | omega)), ?_⟩
    refine for_range (n := n) (MdL p l n c H) ?_ ?_ ?_
    · exact ⟨none, none, none, none, none, [], c, rfl, rfl, (fun k h => nomatch h), List.nodup_nil, upd_same, ⟨o, by rw [upd_ne npl]; exact hp, hpo⟩, Int.le_refl _, by (first | lia | (first | lia | omega)), (But.refl p H).new hl⟩
    · rintro i σ H2 hi ⟨x4, x5, x6, x7, x8, ks, c1, rfl, hkl, hko, hkn, hl2, ⟨o2, hp2, hpo2⟩, hc1, hc1', hb⟩
      have sk : ks.length ≤ 60 := by (first | lia | (first | lia | omega))
      have keepL : ∀ {H3 : Hp}, But p H2 H3 → H3 l = some (.lst (ks.map V.str)) := fun b => b l _ (Ne.symm npl) hl2
      refine ⟨MdI1 p n l i c1 H2, ?_, ?_⟩
      · rintro σ H3 ⟨x6, x7, x8, z, c2, rfl, hz, ⟨o3, hp3, hpo3⟩, g1, g2, b3⟩
        first | refine tvE rfl ?_ | refine ⟨_, rfl, ?_⟩
        refine ⟨p, 4, c2, o3, rfl, hp3, hpo3, by decide, by decide, by (first | lia | (first | lia | omega)), by (first | lia | (first | lia | omega)), fun wy c3 o4 w0 w1 g3 g4 hpo4 => ?_⟩
        have b4 : But p H2 (upd H3 p o4) := b3.trans But.upd
        generalize hH4 : upd H3 p o4 = H4 at b4
        have hp4 : H4 p = some o4 := by rw [← hH4]; exact upd_same
        have hl4 := keepL b4
        have seesL : ∀ {H' : Hp}, H' l = some (.lst (ks.map V.str)) → Sees H' (.ref l) (.list (ks.map PyData.str)) := fun e => .lst e (SeesAll.strs ks)
        have unit : (A.deeper (envOfC "_law_kinds" (defScope sMade) s.heap.objs.size f cdv)).units + min (PyData.depth (.list (ks.map PyData.str))) (PyData.depth (.list [])) < cLine := by
          show _ + min (PyData.depthAll (ks.map PyData.str) + 1) 1 < cLine
          rw [strs_depth]
          exact hu
        refine ⟨MdI2 p n l i wy c1 H2, ?_, ?_⟩
        · rintro σ H5 ⟨x7, x8, z, c4, rfl, hz, ⟨o5, hp5, hpo5⟩, g5, g6, b5⟩
          have hl5 := keepL b5
          refine ⟨MdI3 p n l i wy c1 H2, ?_, ?_⟩
          · rintro σ H6 ⟨x7, x8, z, c5, rfl, hz, hp6, g7, g8, b6⟩
            have hl6 := keepL b6
            refine ⟨fun m σ' H' => H' = H6 ∧ ∃ (z : Str) (t : Nat), σ' = [some (.ref p), some (.int n), some (.str lettersS), some (.ref l), some (.int (0 + i)), some (.str z), some (.int wy), x7, some (.int t)] ∧ m = 100 - t ∧ t ≤ 61 ∧ KindOk z ∧ (∀ t', t = t' + 1 → z = wordOf t') ∧ ∀ j, j + 1 < t → wordOf j ∈ ks, ⟨100, rfl, z, 0, rfl, rfl, by decide, hz, (fun t' e => by (first | lia | (first | lia | omega))), (fun j h => by (first | lia | (first | lia | omega)))⟩, ?_⟩
            rintro m σ' H' ⟨rfl, z, t, rfl, rfl, ht, hz, hzt, hw⟩
            by_cases hin : z ∈ ks
            · first | refine tvE rfl ?_ | refine ⟨_, rfl, ?_⟩
              first | refine tvE rfl ?_ | refine ⟨_, rfl, ?_⟩
              refine ⟨l, _, rfl, .inl (SqL.of hl6), rfl, flat_strs ks, true, congrArg V.bl (by rw [if_neg Bool.false_ne_true, in_strs, decide_eq_true hin]), iteT ?_⟩
              have all : ∀ j, j < t → wordOf j ∈ ks := fun j hj => by
                by_cases e : j + 1 = t
                · have := hzt j e.symm
                  rw [← this]; exact hin
                · exact hw j (by (first | lia | (first | lia | omega)))
              have tl : t ≤ ks.length := pigeon t wordOf ks (fun a b _ _ e => word_inj e) all
              refine ⟨fun σ' H'' => H'' = H' ∧ σ' = [some (.ref p), some (.int n), some (.str lettersS), some (.ref l), some (.int (0 + i)), some (.str (wordOf t)), some (.int wy), x7, some (.int ((t + 1 : Nat) : Int))], ?_, ?_⟩
              · rintro σ' H'' ⟨rfl, rfl⟩
                refine ⟨100 - (t + 1), by (first | lia | (first | lia | omega)), rfl, wordOf t, t + 1, rfl, rfl, by (first | lia | (first | lia | omega)), word_ok (by (first | lia | (first | lia | omega))), fun t' e => ?_, fun j hj => all j (by (first | lia | (first | lia | omega)))⟩
                have : t = t' := by (first | lia | (first | lia | omega))
                rw [this]
              · first | refine tvE rfl ?_ | refine ⟨_, rfl, ?_⟩
                first | refine tvE rfl ?_ | refine ⟨_, rfl, ?_⟩
                refine ⟨_, 26, rfl, rfl, ⟨by decide, by decide⟩, lettersS, _, 97 + t / 26, rfl, rfl, letters_len, ?_, ?_⟩
                · rw [show ((t : Int) / 26) = ((t / 26 : Nat) : Int) from by (first | lia | (first | lia | omega))]
                  exact letters_at _ (by (first | lia | (first | lia | omega)))
                first | refine tvE rfl ?_ | refine ⟨_, rfl, ?_⟩
                first | refine tvE rfl ?_ | refine ⟨_, rfl, ?_⟩
                refine ⟨_, 26, rfl, rfl, (by show (0 : Int) < 26; decide), lettersS, _, 97 + t % 26, rfl, rfl, letters_len, ?_, ?_⟩
                · rw [show ((t : Int) % 26) = ((t % 26 : Nat) : Int) from by (first | lia | (first | lia | omega))]
                  exact letters_at _ (by (first | lia | (first | lia | omega)))
                refine ⟨_, _, rfl, rfl, by show 1 + 1 ≤ sizeLine; decide, _, _, rfl, rfl, by show 2 + 2 ≤ sizeLine; decide, ?_⟩
                first | refine tvE rfl ?_ | refine ⟨_, rfl, ?_⟩
                refine ⟨_, 1, rfl, rfl, rfl, ?_⟩
                rfl
            · first | refine tvE rfl ?_ | refine ⟨_, rfl, ?_⟩
              first | refine tvE rfl ?_ | refine ⟨_, rfl, ?_⟩
              refine ⟨l, _, rfl, .inl (SqL.of hl6), rfl, flat_strs ks, false, congrArg V.bl (by rw [if_neg Bool.false_ne_true, in_strs, decide_eq_false hin]), iteF ?_⟩
              first | refine tvE rfl ?_ | refine ⟨_, rfl, ?_⟩
              refine ⟨.inl ⟨rfl, _, SqL.of hl6⟩, _, rfl, l, _, _, rfl, rfl, hl6, by rw [List.length_map]; exact small1000 (by (first | lia | (first | lia | omega))), ?_⟩
              refine ⟨_, _, _, _, _, ks ++ [z], c5, rfl, by rw [List.length_append, hkl]; rfl, fun k hk => ?_, ?_, by rw [upd_same, List.map_append]; rfl, ?_, by (first | lia | (first | lia | omega)), by (first | lia | (first | lia | omega)), fun b u hb' e => ?_⟩
              · rcases List.mem_append.mp hk with hk | hk
                · exact hko k hk
                · rw [List.mem_singleton.mp hk]; exact hz
              · exact nodup_perm_snoc hkn hin (.refl _)
              · obtain ⟨o6, q1, q2⟩ := hp6
                exact ⟨o6, by rw [upd_ne npl]; exact q1, q2⟩
              · rw [upd_ne (ne_of_none e hl)]
                exact b6 b u hb' (hb b u hb' e)
          · first | refine tvE rfl ?_ | refine ⟨_, rfl, ?_⟩
            refine ⟨rfl, _, rfl, ?_⟩
            refine ite2 (fun _ => ?_) (fun _ => ?_)
            · first | refine tvE rfl ?_ | refine ⟨_, rfl, ?_⟩
              refine ⟨Nat.zero_le _, fun e ne => ?_⟩
              have b6 : But p H2 (upd H5 e (.lst [])) := fun b u hb' q => by rw [upd_ne (ne_of_none (b5 b u hb' q) ne)]; exact b5 b u hb' q
              have npe : p ≠ e := ne_of_none hp5 ne
              have hp6 : (upd H5 e (.lst [])) p = some o5 := by rw [upd_ne npe]; exact hp5
              generalize hH6 : upd H5 e (.lst []) = H6 at b6 hp6
              have hl6 := keepL b6
              refine ⟨_, _, seesL hl6, .lst (by rw [← hH6]; exact upd_same) .nil, strs_lay hko, rfl, unit, ?_⟩
              rw [eqv_nil]
              cases hks : ks with
              | nil =>
                refine ⟨false, rfl, ?_⟩
                refine iteF ?_
                exact ⟨_, _, z, c4, rfl, hz, ⟨o5, hp6, hpo5⟩, by (first | lia | (first | lia | omega)), by (first | lia | (first | lia | omega)), b6⟩
              | cons k0 kr =>
                refine ⟨true, rfl, ?_⟩
                refine iteT ?_
                obtain ⟨y, hy, ha⟩ := last_of (show ks ≠ [] by rw [hks]; exact List.cons_ne_nil _ _)
                have yo := of_kind (hko y hy)
                have yk := hko y hy
                have yl : y.cps.toList.length = y.length := Array.length_toList
                first | refine tvE rfl ?_ | refine ⟨_, rfl, ?_⟩
                first | refine tvE rfl ?_ | refine ⟨_, rfl, ?_⟩
                refine ⟨1, rfl, l, _, _, _, rfl, rfl, SqL.of hl6, ha, y, rfl, kind_size yk, ?_⟩
                refine ⟨p, (y.length : Nat), c4, o5, rfl, hp6, hpo5, by have := yk.1; (first | lia | (first | lia | omega)), by have := yk.2.1; (first | lia | (first | lia | omega)), by (first | lia | (first | lia | omega)), by (first | lia | (first | lia | omega)), fun a c5 o6 a0 a1 g7 g8 hpo6 => ?_⟩
                obtain ⟨an, rfl⟩ : ∃ an : Nat, a = (an : Int) := ⟨a.toNat, by (first | lia | (first | lia | omega))⟩
                have b7 : But p H2 (upd H6 p o6) := b6.trans But.upd
                have hl7 := keepL b7
                first | refine tvE rfl ?_ | refine ⟨_, rfl, ?_⟩
                refine ⟨1, rfl, l, _, _, _, rfl, rfl, SqL.of hl7, ha, _, rfl, an, rfl, y, rfl, kind_size yk, ?_⟩
                first | refine tvE rfl ?_ | refine ⟨_, rfl, ?_⟩
                first | refine tvE rfl ?_ | refine ⟨_, rfl, ?_⟩
                refine ⟨p, 26, c5, o6, rfl, upd_same, hpo6, by decide, by decide, by (first | lia | (first | lia | omega)), by (first | lia | (first | lia | omega)), fun q c6 o7 q0 q1 g9 g10 hpo7 => ?_⟩
                obtain ⟨qn, rfl⟩ : ∃ qn : Nat, q = (qn : Int) := ⟨q.toNat, by (first | lia | (first | lia | omega))⟩
                refine ⟨lettersS, _, 97 + qn, rfl, rfl, letters_len, letters_at qn (by (first | lia | (first | lia | omega))), ?_⟩
                have b8 : But p H2 (upd (upd H6 p o6) p o7) := b7.trans But.upd
                have hl8 := keepL b8
                have s1 := slice_to y an
                have s2 := slice_from y (an + 1)
                generalize Txt.slice y none (some (an : Int)) = u1 at s1 ⊢
                have l1 : u1.length = min an y.length := by
                  have : u1.cps.toList.length = u1.length := Array.length_toList
                  rw [← this, s1, List.length_take, yl]
                have y4 := yk.2.1
                have le : (((⟨#[97 + qn]⟩ : Str)).cps.toList).length = 1 := rfl
                refine ⟨u1, ⟨#[97 + qn]⟩, rfl, rfl, Nat.le_of_lt (small1000 (by show u1.length + 1 ≤ 1000; (first | lia | (first | lia | omega)))), ?_⟩
                first | refine tvE rfl ?_ | refine ⟨_, rfl, ?_⟩
                refine ⟨1, rfl, l, _, _, _, rfl, rfl, SqL.of hl8, ha, _, rfl, _, 1, rfl, rfl, _, rfl, y, rfl, kind_size yk, ?_⟩
                rw [show ((an : Int) + 1) = ((an + 1 : Nat) : Int) from by (first | lia | (first | lia | omega))]
                generalize Txt.slice y (some ((an + 1 : Nat) : Int)) none = u2 at s2 ⊢
                have l2 : u2.length = y.length - (an + 1) := by
                  have : u2.cps.toList.length = u2.length := Array.length_toList
                  rw [← this, s2, List.length_drop, yl]
                have l3 : (u1 ++ (⟨#[97 + qn]⟩ : Str)).length = u1.length + 1 := by
                  have e1 : (u1 ++ (⟨#[97 + qn]⟩ : Str)).cps.toList.length = (u1 ++ (⟨#[97 + qn]⟩ : Str)).length := Array.length_toList
                  have e2 : u1.cps.toList.length = u1.length := Array.length_toList
                  rw [← e1, app_codes, List.length_append, e2]
                  rfl
                refine ⟨_, u2, rfl, rfl, Nat.le_of_lt (small1000 (by rw [l3]; (first | lia | (first | lia | omega)))), ?_⟩
                refine ⟨_, _, _, c6, rfl, kind_of ?_, ⟨o7, upd_same, hpo7⟩, by (first | lia | (first | lia | omega)), by (first | lia | (first | lia | omega)), b8⟩
                rw [app_codes, app_codes, s1, s2]
                refine ⟨?_, ?_, fun c hc => ?_⟩
                · rw [List.length_append, List.length_append, le]; (first | lia | (first | lia | omega))
                · rw [List.length_append, List.length_append, le, List.length_take, List.length_drop, yl]; (first | lia | (first | lia | omega))
                · rcases List.mem_append.mp hc with hc | hc
                  · rcases List.mem_append.mp hc with hc | hc
                    · exact yo.2.2 c (List.mem_of_mem_take hc)
                    · have : c = 97 + qn := by simpa using hc
                      (first | lia | (first | lia | omega))
                  · exact yo.2.2 c (List.mem_of_mem_drop hc)
            · refine iteF ?_
              exact ⟨_, _, z, c4, rfl, hz, ⟨o5, hp5, hpo5⟩, by (first | lia | (first | lia | omega)), by (first | lia | (first | lia | omega)), b5⟩
        · first | refine tvE rfl ?_ | refine ⟨_, rfl, ?_⟩
          refine ⟨rfl, _, rfl, ?_⟩
          refine ite2 (fun _ => ?_) (fun _ => ?_)
          · first | refine tvE rfl ?_ | refine ⟨_, rfl, ?_⟩
            refine ⟨Nat.zero_le _, fun e ne => ?_⟩
            have b5 : But p H2 (upd H4 e (.lst [])) := fun b u hb' q => by rw [upd_ne (ne_of_none (b4 b u hb' q) ne)]; exact b4 b u hb' q
            have npe : p ≠ e := ne_of_none hp4 ne
            have hp5 : (upd H4 e (.lst [])) p = some o4 := by rw [upd_ne npe]; exact hp4
            generalize hH5 : upd H4 e (.lst []) = H5 at b5 hp5
            have hl5 := keepL b5
            refine ⟨_, _, seesL hl5, .lst (by rw [← hH5]; exact upd_same) .nil, strs_lay hko, rfl, unit, ?_⟩
            rw [eqv_nil]
            cases hks : ks with
            | nil =>
              refine ⟨false, rfl, ?_⟩
              refine iteF ?_
              exact ⟨_, _, z, c3, rfl, hz, ⟨o4, hp5, hpo4⟩, by (first | lia | (first | lia | omega)), by (first | lia | (first | lia | omega)), b5⟩
            | cons k0 kr =>
              refine ⟨true, rfl, ?_⟩
              refine iteT ?_
              obtain ⟨y, hy, ha⟩ := last_of (show ks ≠ [] by rw [hks]; exact List.cons_ne_nil _ _)
              have yo := of_kind (hko y hy)
              first | refine tvE rfl ?_ | refine ⟨_, rfl, ?_⟩
              refine ⟨1, rfl, l, _, _, _, rfl, rfl, SqL.of hl5, ha, ?_⟩
              first | refine tvE rfl ?_ | refine ⟨_, rfl, ?_⟩
              first | refine tvE rfl ?_ | refine ⟨_, rfl, ?_⟩
              refine ⟨p, 26, c3, o4, rfl, hp5, hpo4, by decide, by decide, by (first | lia | (first | lia | omega)), by (first | lia | (first | lia | omega)), fun q c4 o5 q0 q1 g5 g6 hpo5 => ?_⟩
              obtain ⟨qn, rfl⟩ : ∃ qn : Nat, q = (qn : Int) := ⟨q.toNat, by (first | lia | (first | lia | omega))⟩
              refine ⟨lettersS, _, 97 + qn, rfl, rfl, letters_len, letters_at qn (by (first | lia | (first | lia | omega))), ?_⟩
              have sz : (y ++ (⟨#[97 + qn]⟩ : Str)).length ≤ 5 := by
                have e1 : (y ++ (⟨#[97 + qn]⟩ : Str)).cps.toList.length = (y ++ (⟨#[97 + qn]⟩ : Str)).length := Array.length_toList
                have e2 := congrArg List.length (app_codes y ⟨#[97 + qn]⟩)
                rw [List.length_append] at e2
                have e3 : ((⟨#[97 + qn]⟩ : Str).cps.toList).length = 1 := rfl
                have := yo.2.1
                (first | lia | (first | lia | omega))
              refine ⟨y, ⟨#[97 + qn]⟩, rfl, rfl, ?_, ?_⟩
              · have := (hko y hy).2.1
                exact Nat.le_of_lt (small1000 (by show y.length + 1 ≤ 1000; (first | lia | (first | lia | omega))))
              refine ⟨4, rfl, _, rfl, Nat.le_of_lt (small1000 (by (first | lia | (first | lia | omega)))), ?_⟩
              refine ⟨_, _, _, c4, rfl, kind_of ?_, ⟨o5, upd_same, hpo5⟩, by (first | lia | (first | lia | omega)), by (first | lia | (first | lia | omega)), b5.trans But.upd⟩
              have e4 := slice_to (y ++ (⟨#[97 + qn]⟩ : Str)) 4
              rw [app_codes] at e4
              rw [show ((4 : Nat) : Int) = 4 from rfl] at e4
              rw [e4]
              refine ⟨?_, ?_, fun c hc => ?_⟩
              · rw [List.length_take, List.length_append]
                have := yo.1
                (first | lia | (first | lia | omega))
              · rw [List.length_take]; (first | lia | (first | lia | omega))
              · rcases List.mem_append.mp (List.mem_of_mem_take hc) with hc | hc
                · exact yo.2.2 c hc
                · have : c = 97 + qn := by simpa using hc
                  (first | lia | (first | lia | omega))
          · refine iteF ?_
            exact ⟨_, _, z, c3, rfl, hz, ⟨o4, hp4, hpo4⟩, by (first | lia | (first | lia | omega)), by (first | lia | (first | lia | omega)), b4⟩
      · refine ⟨rfl, ?_⟩
        dsimp only [tCons, tNil]
        refine lcomp_eq _ _ _ _ _ _ _ _ _ ?_
        first | refine tvE rfl ?_ | refine ⟨_, rfl, ?_⟩
        refine ⟨p, 4, c1, o2, rfl, hp2, hpo2, by decide, by decide, by (first | lia | (first | lia | omega)), by (first | lia | (first | lia | omega)), fun r c2 o3 r0 r1 h1 h2 hpo3 => ?_⟩
        refine ⟨1, r, rfl, rfl, 1 + r, rfl, by (first | lia | (first | lia | omega)), by (first | lia | (first | lia | omega)), ?_⟩
        intro D hD
        have npD : p ≠ D := ne_of_none (show (upd H2 p o3) p = some o3 from upd_same) hD
        have nlD : l ≠ D := ne_of_none (show (upd H2 p o3) l = some _ from (But.upd : But p H2 (upd H2 p o3)) l _ (Ne.symm npl) hl2) hD
        obtain ⟨m, hm⟩ : ∃ m : Nat, (1 + r).toNat = m ∧ m ≤ 4 ∧ 1 ≤ m := ⟨_, rfl, by (first | lia | (first | lia | omega)), by (first | lia | (first | lia | omega))⟩
        rw [hm.1]
        refine comp_range (fun j ys H3 => ∃ (ss : List Str) (c3 : Int), ys = ss.map V.str ∧ ss.length = j ∧ (∀ x ∈ ss, ∃ c, x = ⟨#[c]⟩ ∧ 97 ≤ c ∧ c ≤ 122) ∧ H3 D = some (.lst ys) ∧ PoolAt H3 p c3 ∧ c2 ≤ c3 ∧ c3 ≤ c2 + j ∧ But p H2 H3) ?_ (fun j ys H3 ⟨_, _, _, _, _, z, _⟩ => z) ?_ ?_
        · exact ⟨[], c2, rfl, rfl, (fun x h => nomatch h), upd_same, ⟨o3, by rw [upd_ne npD]; exact upd_same, hpo3⟩, Int.le_refl _, by (first | lia | (first | lia | omega)), fun b u hb' e => by rw [upd_ne (ne_of_none ((But.upd : But p H2 (upd H2 p o3)) b u hb' e) hD)]; exact (But.upd : But p H2 (upd H2 p o3)) b u hb' e⟩
        · rintro j ys H3 hj ⟨ss, c3, rfl, hsl, hss, hD3, ⟨o4, hp4, hpo4⟩, g1, g2, hb3⟩
          refine turn_name rfl ?_
          first | refine tvE rfl ?_ | refine ⟨_, rfl, ?_⟩
          first | refine tvE rfl ?_ | refine ⟨_, rfl, ?_⟩
          refine ⟨p, 26, c3, o4, rfl, hp4, hpo4, by decide, by decide, by (first | lia | (first | lia | omega)), by (first | lia | (first | lia | omega)), fun q c4 o5 q0 q1 g3 g4 hpo5 => ?_⟩
          obtain ⟨qn, rfl⟩ : ∃ qn : Nat, q = (qn : Int) := ⟨q.toNat, by (first | lia | (first | lia | omega))⟩
          refine ⟨lettersS, _, 97 + qn, rfl, rfl, letters_len, letters_at qn (by (first | lia | (first | lia | omega))), ?_⟩
          refine ⟨by rw [upd_ne (Ne.symm npD)]; exact hD3, by rw [List.length_map]; exact small1000 (by (first | lia | (first | lia | omega))), nx hj ?_⟩
          refine ⟨ss ++ [⟨#[97 + qn]⟩], c4, by simp, by simp [hsl], fun x hx => ?_, upd_same, ⟨o5, by rw [upd_ne npD, upd_same], hpo5⟩, by (first | lia | (first | lia | omega)), by (first | lia | (first | lia | omega)), fun b u hb' e => ?_⟩
          · rcases List.mem_append.mp hx with hx | hx
            · exact hss x hx
            · exact ⟨97 + qn, List.mem_singleton.mp hx, by (first | lia | (first | lia | omega)), by (first | lia | (first | lia | omega))⟩
          · have e3 := hb3 b u hb' e
            have nbD : b ≠ D := ne_of_none ((But.upd : But p H2 (upd H2 p o3)) b u hb' e) hD
            rw [upd_ne nbD, upd_ne hb']
            exact e3
        · rintro ys H3 ⟨ss, c3, rfl, hsl, hss, hD3, hp4, g1, g2, hb3⟩
          obtain ⟨q1, q2⟩ := ones_codes hss
          refine ⟨Str.ofString "", D, ss, rfl, rfl, SqL.of hD3, ?_, ?_⟩
          · rw [ones_sum hss]
            have : (Str.ofString "").length = 0 := by decide
            rw [this]
            (first | lia | (first | lia | omega))
          · exact ⟨_, _, _, _, c3, rfl, kind_of ⟨by rw [join_codes, q1]; (first | lia | (first | lia | omega)), by rw [join_codes, q1]; (first | lia | (first | lia | omega)), by rw [join_codes]; exact q2⟩, hp4, by (first | lia | (first | lia | omega)), by (first | lia | (first | lia | omega)), hb3⟩
    · rintro σ H2 ⟨x4, x5, x6, x7, x8, ks, c', rfl, hkl, hko, hkn, hl2, hp2, h1, h2, hb⟩
      first | refine tvE rfl ?_ | refine ⟨_, rfl, ?_⟩
      exact k l ks c' H2 hl hkl hko hkn hl2 hp2 h1 (by (first | lia | (first | lia | omega))) hb
end
end K7
set_option Elab.async false
set_option linter.all false
set_option maxRecDepth 100000
set_option maxHeartbeats 4000000
namespace K7
open PySem L2 PyProof.Rows
def At (p : Addr) (H : Hp) (b : Addr) (o : HO) : Prop := H b = some o ∧ b ≠ p
theorem At.on {p b : Addr} {H H' : Hp} {o : HO} (x : At p H b o) (h : But p H H') : At p H' b o := ⟨h b o x.2 x.1, x.2⟩
structure RoomsW (p : Addr) (H : Hp) (rA : Addr) (vs : List V) (rs : List Rm) (ws : List Addr) : Prop where
  ls : At p H rA (.lst vs)
  l1 : vs.length = rs.length
  l2 : ws.length = rs.length
  nd : ws.Nodup
  off : rA ∉ ws
  item : ∀ (i : Nat) (r : Rm) (w : Addr), rs[i]? = some r → ws[i]? = some w → ∃ t d : Addr, vs[i]? = some (.ref t) ∧ At p H t (.tup [.ref d, .ref w]) ∧ At p H d (.lst (r.1.map V.str)) ∧ At p H w (.lst (r.2.map V.str)) ∧ d ∉ ws ∧ d ≠ rA
theorem RoomsW.on {p rA : Addr} {H H' : Hp} {vs : List V} {rs : List Rm} {ws : List Addr} (x : RoomsW p H rA vs rs ws) (h : But p H H') : RoomsW p H' rA vs rs ws :=
  ⟨x.ls.on h, x.l1, x.l2, x.nd, x.off, fun i r w e1 e2 => let ⟨t, d, a, b, c, d', e⟩ := x.item i r w e1 e2; ⟨t, d, a, b.on h, c.on h, d'.on h, e⟩⟩
theorem RoomsW.more {p rA t d w : Addr} {H0 H : Hp} {vs : List V} {rs : List Rm} {ws : List Addr} {r : Rm} (x0 : RoomsW p H0 rA vs rs ws) (hb : But p H0 H) (ht : At p H t (.tup [.ref d, .ref w])) (hd : At p H d (.lst (r.1.map V.str))) (hw : At p H w (.lst (r.2.map V.str)))
    (d0 : H0 d = none) (w0 : H0 w = none) (n3 : d ≠ w) :
    RoomsW p (upd H rA (.lst (vs ++ [.ref t]))) rA (vs ++ [.ref t]) (rs ++ [r]) (ws ++ [w]) := by
  have x := x0.on hb
  have tn : t ≠ rA := ne_of ht.1 x.ls.1 (fun z => nomatch z)
  have up : ∀ {b o}, b ≠ rA → At p H b o → At p (upd H rA (.lst (vs ++ [.ref t]))) b o := fun n h => ⟨by rw [upd_ne n]; exact h.1, h.2⟩
  have n4 : d ≠ rA := fun z => by have := x0.ls.1; rw [← z, d0] at this; cases this
  have n5 : w ≠ rA := fun z => by have := x0.ls.1; rw [← z, w0] at this; cases this
  have mem : ∀ a ∈ ws, ∃ o, H0 a = some o := fun a ha => by
    obtain ⟨i, hi, e⟩ := List.mem_iff_getElem.mp ha
    have hi' : i < rs.length := by rw [← x0.l2]; exact hi
    obtain ⟨_, _, _, _, _, h, _⟩ := x0.item i rs[i] a (List.getElem?_eq_getElem hi') (by rw [List.getElem?_eq_getElem hi, e])
    exact ⟨_, h.1⟩
  have n1 : w ∉ ws := fun z => by obtain ⟨o, e⟩ := mem w z; rw [w0] at e; cases e
  have n2 : d ∉ ws := fun z => by obtain ⟨o, e⟩ := mem d z; rw [d0] at e; cases e
  refine ⟨⟨upd_same, x.ls.2⟩, by simp [x.l1], by simp [x.l2], nodup_perm_snoc x.nd n1 (.refl _), fun z => ?_, fun i r' w' e1 e2 => ?_⟩
  · rcases List.mem_append.mp z with z | z
    · exact x.off z
    · exact n5 (List.mem_singleton.mp z).symm
  · by_cases hi : i < rs.length
    · rw [List.getElem?_append_left hi] at e1
      rw [List.getElem?_append_left (by rw [x.l2]; exact hi)] at e2
      obtain ⟨t', d', a1, a2, a3, a4, a5, a6⟩ := x0.item i r' w' e1 e2
      have hw' : w' ≠ rA := fun z => x.off (z ▸ List.mem_of_getElem? e2)
      refine ⟨t', d', by rw [List.getElem?_append_left (by rw [x.l1]; exact hi)]; exact a1, up (ne_of (a2.on hb).1 x.ls.1 (fun z => nomatch z)) (a2.on hb), up a6 (a3.on hb), up hw' (a4.on hb), fun z => ?_, a6⟩
      rcases List.mem_append.mp z with z | z
      · exact a5 z
      · exact ne_of_none a3.1 w0 (List.mem_singleton.mp z)
    · have hl : i < (rs ++ [r]).length := (List.getElem?_eq_some_iff.mp e1).1
      rw [List.length_append, List.length_singleton] at hl
      have ei : i = rs.length := by (first | lia | omega)
      subst ei
      rw [List.getElem?_append_right (Nat.le_refl _), Nat.sub_self] at e1
      rw [List.getElem?_append_right (by rw [x.l2]; exact Nat.le_refl _), x.l2, Nat.sub_self] at e2
      cases e1
      cases e2
      refine ⟨t, d, by rw [List.getElem?_append_right (by rw [x.l1]; exact Nat.le_refl _), x.l1, Nat.sub_self]; rfl, up tn ht, up n4 hd, up n5 hw, fun z => ?_, n4⟩
      rcases List.mem_append.mp z with z | z
      · exact n2 z
      · exact n3 (List.mem_singleton.mp z)
theorem RoomsW.ext {p rA w : Addr} {H : Hp} {vs : List V} {rs : List Rm} {ws : List Addr} {r : Rm} {i : Nat} {ss : List Str} (x : RoomsW p H rA vs rs ws) (e1 : rs[i]? = some r) (e2 : ws[i]? = some w) :
    RoomsW p (upd H w (.lst (r.2.map V.str ++ ss.map V.str))) rA vs (rs.set i (r.1, r.2 ++ ss)) ws := by
  obtain ⟨t, d, a1, a2, a3, a4, a5, a6⟩ := x.item i r w e1 e2
  have hwr : rA ≠ w := fun z => x.off (by rw [z]; exact List.mem_of_getElem? e2)
  have up : ∀ {b o}, b ≠ w → At p H b o → At p (upd H w (.lst (r.2.map V.str ++ ss.map V.str))) b o := fun n h => ⟨by rw [upd_ne n]; exact h.1, h.2⟩
  refine ⟨up hwr x.ls, by simp [x.l1], by simp [x.l2], x.nd, x.off, fun j r' w' f1 f2 => ?_⟩
  have hi : i < rs.length := (List.getElem?_eq_some_iff.mp e1).1
  by_cases hj : j = i
  · subst hj
    rw [e2] at f2
    cases f2
    rw [List.getElem?_set_self hi] at f1
    cases f1
    refine ⟨t, d, a1, up (ne_of a2.1 a4.1 (fun z => nomatch z)) a2, up (fun z => a5 (z ▸ List.mem_of_getElem? e2)) a3, ⟨by rw [upd_same, List.map_append], a4.2⟩, a5, a6⟩
  · rw [List.getElem?_set_ne (Ne.symm hj)] at f1
    obtain ⟨t', d', b1, b2, b3, b4, b5, b6⟩ := x.item j r' w' f1 f2
    have nw : w' ≠ w := fun z => by
      subst z
      have h1 := (List.getElem?_eq_some_iff.mp e2)
      have h2 := (List.getElem?_eq_some_iff.mp f2)
      rcases Nat.lt_or_gt_of_ne hj with l | l
      · exact (List.pairwise_iff_getElem.mp x.nd j i h2.1 h1.1 l) (h2.2.trans h1.2.symm)
      · exact (List.pairwise_iff_getElem.mp x.nd i j h1.1 h2.1 l) (h1.2.trans h2.2.symm)
    exact ⟨t', d', b1, up (ne_of b2.1 a4.1 (fun z => nomatch z)) b2, up (fun z => b5 (z ▸ List.mem_of_getElem? e2)) b3, up nw b4, b5, b6⟩
theorem RoomsW.rooms {p rA : Addr} {H : Hp} {vs : List V} {rs : List Rm} {ws : List Addr} (x : RoomsW p H rA vs rs ws) : RoomsAt H vs rs := ⟨x.l1, fun i v r e1 e2 => by
  have hi : i < rs.length := (List.getElem?_eq_some_iff.mp e2).1
  have hi2 : i < ws.length := by rw [x.l2]; exact hi
  obtain ⟨t, d, a1, a2, a3, a4, _⟩ := x.item i r ws[i] e2 (List.getElem?_eq_getElem hi2)
  rw [e1] at a1
  cases a1
  exact ⟨t, d, _, rfl, a2.1, a3.1, a4.1⟩⟩
theorem menu {xs : List Int} {r : Int} (h0 : 0 ≤ r) (h1 : r < xs.length) : ∃ m ∈ xs, atI (xs.map V.int) r = some (.int m) := by
  obtain ⟨j, rfl⟩ : ∃ j : Nat, r = (j : Int) := ⟨r.toNat, by (first | lia | omega)⟩
  have hj : j < xs.length := by (first | lia | omega)
  exact ⟨xs[j], List.getElem_mem hj, atI_nat (by rw [List.getElem?_map, List.getElem?_eq_getElem hj]; rfl)⟩
def roomData (r : Rm) : PyData := .tuple [.list (r.1.map PyData.str), .list (r.2.map PyData.str)]
theorem sees_rooms {H : Hp} : ∀ {vs : List V} {rs : List Rm}, RoomsAt H vs rs → SeesAll H vs (rs.map roomData)
  | [], [], _ => .nil
  | [], _ :: _, h => absurd h.1 (by simp)
  | _ :: _, [], h => absurd h.1 (by simp)
  | v :: vs, r :: rs, h => by
    obtain ⟨t, a, b, rfl, h1, h2, h3⟩ := h.2 0 v r rfl rfl
    refine .cons (.tup h1 (.cons (.lst h2 (SeesAll.strs _)) (.cons (.lst h3 (SeesAll.strs _)) .nil))) (sees_rooms ⟨by simpa using h.1, fun i v' r' e1 e2 => h.2 (i + 1) v' r' (by simpa using e1) (by simpa using e2)⟩)
theorem rooms_lay : ∀ {rs : List Rm}, (∀ r ∈ rs, (∀ k ∈ r.1, KindOk k) ∧ ∀ k ∈ r.2, KindOk k) → PyData.canLayAll0 (rs.map roomData) = true
  | [], _ => rfl
  | r :: rs, h => by
    obtain ⟨h1, h2⟩ := h r List.mem_cons_self
    have e1 := strs_lay h1
    have e2 := strs_lay h2
    have e3 := rooms_lay fun q hq => h q (List.mem_cons_of_mem _ hq)
    rw [List.map_cons]
    simp only [PyData.canLayAll0, PyData.canLay0, roomData, e1, e2, e3, Bool.and_self]
end K7
set_option Elab.async false
set_option linter.all false
set_option maxRecDepth 100000
set_option maxHeartbeats 4000000
namespace K7
open PySem L2 PyProof.Rows
abbrev st__law_house : Stmt := sDrawn
def spDrawn : Sp := fun vs H Q _ => ∃ (p : Addr) (most : Nat) (c : Int), vs = [.ref p, .int most] ∧ PoolAt H p c ∧ most ≤ 60 ∧ 0 ≤ c ∧ c + 4000 < 1000000 ∧
  ∀ (v : V) (h : Hs) (c' : Int) (H' : Hp), HouseAt H' v h → HouseOk h → HouseFew h → h.2.length ≤ most → (allKeys h).length ≤ 276 → PoolAt H' p c' → c ≤ c' → c' ≤ c + 4000 → But p H H' → Q v H'
section
variable {P : Program} {w : World} {K : PySem.W.Frag} {mg : Str → Option Value} {base : Heap}
theorem sc__law_house : FnScope ["pool", "most", "kinds", "many", "locks", "keys", "rooms", "spare", "room", "doors", "few", "left", "more"] ["pool", "most"] (defScope st__law_house) := ⟨rfl, rfl, rfl, by decide +kernel, rfl, by decide +kernel, by decide +kernel⟩
theorem nd__law_house_0 : (["doors", "within"] : List Str).Nodup := by decide +kernel
inductive DrI1 (p : Addr) (most : Nat) (c : Int) (H : Hp) (σ' : L2.St) (H' : Hp) : Prop
  | mk (kA : Addr) (ks : List Str) (c' : Int) : (σ' = [some (.ref p), some (.int most), some (.ref kA), none, none, none, none, none, none, none, none, none, none]) → (At p H' kA (.lst (ks.map V.str))) → (ks ≠ []) → (ks.length ≤ 60) → ((∀ k ∈ ks, KindOk k)) → (PoolAt H' p c') → (c ≤ c') → (c' ≤ c + 542) → (But p H H') → DrI1 p most c H σ' H'
inductive DrI2 (p : Addr) (most : Nat) (kA : Addr) (c1 : Int) (H1 : Hp) (σ' : L2.St) (H' : Hp) : Prop
  | mk (mn : Nat) (c' : Int) : (σ' = [some (.ref p), some (.int most), some (.ref kA), some (.int mn), none, none, none, none, none, none, none, none, none]) → (mn ≤ most) → (PoolAt H' p c') → (c1 ≤ c') → (c' ≤ c1 + 3) → (But p H1 H') → DrI2 p most kA c1 H1 σ' H'
inductive DrI3 (p : Addr) (most : Nat) (kA : Addr) (mn : Nat) (c1 : Int) (H1 : Hp) (σ' : L2.St) (H' : Hp) : Prop
  | mk (lk c' : Int) : (σ' = [some (.ref p), some (.int most), some (.ref kA), some (.int mn), some (.int lk), none, none, none, none, none, none, none, none]) → (1 ≤ lk) → (lk ≤ 4) → (PoolAt H' p c') → (c1 ≤ c') → (c' ≤ c1 + 4) → (But p H1 H') → DrI3 p most kA mn c1 H1 σ' H'
inductive DrI4 (p : Addr) (most : Nat) (kA : Addr) (mn : Nat) (lk : Int) (c1 : Int) (H1 : Hp) (σ' : L2.St) (H' : Hp) : Prop
  | mk (ky c' : Int) : (σ' = [some (.ref p), some (.int most), some (.ref kA), some (.int mn), some (.int lk), some (.int ky), none, none, none, none, none, none, none]) → (2 ≤ ky) → (ky ≤ 4) → (PoolAt H' p c') → (c1 ≤ c') → (c' ≤ c1 + 5) → (But p H1 H') → DrI4 p most kA mn lk c1 H1 σ' H'
inductive DrI5 (p : Addr) (most : Nat) (kA : Addr) (mn : Nat) (lk : Int) (ky : Int) (rA : Addr) (H4 : Hp) (ks : List Str) (c4 : Int) (σ' : L2.St) (H' : Hp) : Prop
  | mk (x8 x9 x10 : Option V) (sp c' : Int) (vs : List V) (rs : List Rm) (ws : List Addr) : (σ' = [some (.ref p), some (.int most), some (.ref kA), some (.int mn), some (.int lk), some (.int ky), some (.ref rA), some (.int sp), x8, x9, x10, none, none]) → (RoomsW p H' rA vs rs ws) → ((∀ w ∈ ws, H4 w = none)) → (rs.length = mn) → ((∀ r ∈ rs, (∀ k ∈ r.1, k ∈ ks) ∧ 1 ≤ r.1.length ∧ r.1.length ≤ 4 ∧ r.1.Pairwise leS ∧ (∀ k ∈ r.2, k ∈ ks) ∧ r.2.length ≤ 12)) → ((rs.map (·.2.length)).sum ≤ 266) → (PoolAt H' p c') → (c4 ≤ c') → (c' ≤ c4 + 20 * mn) → (But p H4 H') → DrI5 p most kA mn lk ky rA H4 ks c4 σ' H'
inductive DrI6 (p : Addr) (most : Nat) (kA : Addr) (mn : Nat) (lk : Int) (ky : Int) (rA : Addr) (sp : Int) (x8 : Option V) (x9 : Option V) (x10 : Option V) (vs : List V) (ws : List Addr) (ks : List Str) (c5 : Int) (H4 : Hp) (σ' : L2.St) (H' : Hp) : Prop
  | mk (x12 : Option V) (rs' : List Rm) (lf c' : Int) : (σ' = [some (.ref p), some (.int most), some (.ref kA), some (.int mn), some (.int lk), some (.int ky), some (.ref rA), some (.int sp), x8, x9, x10, some (.int lf), x12]) → (RoomsW p H' rA vs rs' ws) → (rs'.length = mn) → ((∀ r ∈ rs', (∀ k ∈ r.1, k ∈ ks) ∧ 1 ≤ r.1.length ∧ r.1.length ≤ 4 ∧ r.1.Pairwise leS ∧ (∀ k ∈ r.2, k ∈ ks) ∧ r.2.length ≤ 300)) → (0 ≤ lf) → ((((rs'.map (·.2.length)).sum : Nat) : Int) + lf = 276) → (PoolAt H' p c') → (c5 ≤ c') → (c' ≤ c5 + 300) → (But p H4 H') → DrI6 p most kA mn lk ky rA sp x8 x9 x10 vs ws ks c5 H4 σ' H'
inductive DrI7 (p : Addr) (most : Nat) (kA : Addr) (mn : Nat) (lk : Int) (ky : Int) (rA : Addr) (H4 : Hp) (ks : List Str) (c4 : Int) (i : Nat) (σ' : L2.St) (H' : Hp) : Prop
  | mk (x8 x9 x10 : Option V) (sp c' : Int) (vs : List V) (rs : List Rm) (ws : List Addr) (q : Nat) : (σ' = [some (.ref p), some (.int most), some (.ref kA), some (.int mn), some (.int lk), some (.int ky), some (.ref rA), some (.int sp), x8, x9, x10, none, none]) → (RoomsW p H' rA vs rs ws) → ((∀ w ∈ ws, H4 w = none)) → (rs.length = i) → ((∀ r ∈ rs, (∀ k ∈ r.1, k ∈ ks) ∧ 1 ≤ r.1.length ∧ r.1.length ≤ 4 ∧ r.1.Pairwise leS ∧ (∀ k ∈ r.2, k ∈ ks) ∧ r.2.length ≤ 12)) → (0 ≤ sp) → (sp ≤ 40) → (40 - sp ≤ 12 * q) → ((((rs.map (·.2.length)).sum : Nat) : Int) + 4 * q ≤ 4 * i + (40 - sp)) → (PoolAt H' p c') → (c4 ≤ c') → (c' ≤ c4 + 20 * i) → (But p H4 H') → DrI7 p most kA mn lk ky rA H4 ks c4 i σ' H'
inductive DrI8 (p : Addr) (most : Nat) (kA : Addr) (mn : Nat) (lk : Int) (ky : Int) (rA : Addr) (sp : Int) (i : Nat) (x10 : Option V) (H5 : Hp) (ks : List Str) (c5 : Int) (σ' : L2.St) (H' : Hp) : Prop
  | mk (dA : Addr) (ds : List Str) (c' : Int) : (σ' = [some (.ref p), some (.int most), some (.ref kA), some (.int mn), some (.int lk), some (.int ky), some (.ref rA), some (.int sp), some (.int (0 + i)), some (.ref dA), x10, none, none]) → (At p H' dA (.lst (ds.map V.str))) → (H5 dA = none) → ((∀ k ∈ ds, k ∈ ks)) → (1 ≤ ds.length) → (ds.length ≤ 4) → (ds.Pairwise leS) → (PoolAt H' p c') → (c5 ≤ c') → (c' ≤ c5 + 5) → (But p H5 H') → DrI8 p most kA mn lk ky rA sp i x10 H5 ks c5 σ' H'
inductive DrI9 (p : Addr) (most : Nat) (kA : Addr) (mn : Nat) (lk : Int) (ky : Int) (rA : Addr) (i : Nat) (dA : Addr) (sp : Int) (c5 : Int) (H7 : Hp) (σ' : L2.St) (H' : Hp) : Prop
  | mk (fw' : Nat) (sp' c' : Int) : (σ' = [some (.ref p), some (.int most), some (.ref kA), some (.int mn), some (.int lk), some (.int ky), some (.ref rA), some (.int sp'), some (.int (0 + i)), some (.ref dA), some (.int fw'), none, none]) → (((sp' = sp ∧ fw' ≤ 4) ∨ (sp' = sp - fw' ∧ (fw' : Int) ≤ sp ∧ fw' ≤ 12))) → (PoolAt H' p c') → (c5 ≤ c') → (c' ≤ c5 + 8) → (But p H7 H') → DrI9 p most kA mn lk ky rA i dA sp c5 H7 σ' H'
theorem ok_drawn {f fT fM fS : Addr} {fd fdT fdM fdS : FuncData} (F : Fun K "_law_house" "_law_house" sDrawn f fd) (G__law_take : FnOk P w K mg base CX0 1 fT fdT ["pool", "many"] spTake) (c__law_take : Cal K mg "_law_take" ["pool", "many"] fT fdT)
    (G__law_kinds : FnOk P w K mg base CX0 2 fM fdM ["pool", "many"] spMade) (c__law_kinds : Cal K mg "_law_kinds" ["pool", "many"] fM fdM) (G__law_some : FnOk P w K mg base CX0 2 fS fdS ["pool", "kinds", "many"] spSome) (c__law_some : Cal K mg "_law_some" ["pool", "kinds", "many"] fS fdS)
    (m_range : mg "range" = none) (m_len : mg "len" = none) (m_min : mg "min" = none) (m_sorted : mg "sorted" = none) (m_sum : mg "sum" = none) :
    FnOk P w K mg base CX0 3 f fd ["pool", "most"] spDrawn := by
  refine F.ok sc__law_house (fun vs H Q E h => ?_) (fun cdv A outer s H vs Q E hr h => ?_)
  · obtain ⟨p, n, c, rfl, _⟩ := h
    rfl
  · obtain ⟨p, most, c, rfl, ⟨o, hp, hpo⟩, hmost, hc, hcn, k⟩ := h
    have hu := hu_of hr
    refine ⟨_, (pss_cons (ps_cut (ps_set (i := 2) sc__law_house.nd rfl (Or.inl rfl) (pe_call G__law_kinds hr rfl c__law_kinds.mg c__law_kinds.kp c__law_kinds.b .nil pass0 (pa_cons (pv 0) (pa_cons (pe_op op_add pe_int (pe_call G__law_take (hr.mono (show 1 ≤ 2 by decide)) rfl c__law_take.mg c__law_take.kp c__law_take.b .nil pass0 (pa_cons (pv 0) (pa_cons (pe_ix ix_list (pe_lst (pa_cons pe_int (pa_cons pe_int (pa_cons pe_int (pa_cons pe_int pa_nil))))) (pe_call G__law_take (hr.mono (show 1 ≤ 2 by decide)) rfl c__law_take.mg c__law_take.kp c__law_take.b .nil pass0 (pa_cons (pv 0) (pa_cons pe_int pa_nil))) (fun _ _ => rfl)) pa_nil)))) pa_nil)))))
      (pss_cons (ps_cut (ps_set (i := 3) sc__law_house.nd rfl (Or.inl rfl) (pe_ix ix_list (pe_lst (pa_cons (pe_call G__law_take (hr.mono (show 1 ≤ 2 by decide)) rfl c__law_take.mg c__law_take.kp c__law_take.b .nil pass0 (pa_cons (pv 0) (pa_cons (pe_op op_add (pe_callB (call_min2 rfl) rfl m_min (by decide +kernel) (pa_cons (pv 1) (pa_cons pe_int pa_nil))) pe_int) pa_nil))) (pa_cons (pe_call G__law_take (hr.mono (show 1 ≤ 2 by decide)) rfl c__law_take.mg c__law_take.kp c__law_take.b .nil pass0 (pa_cons (pv 0) (pa_cons (pe_op op_add (pv 1) pe_int) pa_nil))) pa_nil))) (pe_call G__law_take (hr.mono (show 1 ≤ 2 by decide)) rfl c__law_take.mg c__law_take.kp c__law_take.b .nil pass0 (pa_cons (pv 0) (pa_cons pe_int pa_nil))) (fun _ _ => rfl))))
      (pss_cons (ps_cut (ps_set (i := 4) sc__law_house.nd rfl (Or.inl rfl) (pe_ix ix_list (pe_lst (pa_cons pe_int (pa_cons pe_int (pa_cons pe_int (pa_cons pe_int pa_nil))))) (pe_call G__law_take (hr.mono (show 1 ≤ 2 by decide)) rfl c__law_take.mg c__law_take.kp c__law_take.b .nil pass0 (pa_cons (pv 0) (pa_cons pe_int pa_nil))) (fun _ _ => rfl))))
      (pss_cons (ps_cut (ps_set (i := 5) sc__law_house.nd rfl (Or.inl rfl) (pe_ix ix_list (pe_lst (pa_cons pe_int (pa_cons pe_int (pa_cons pe_int pa_nil)))) (pe_call G__law_take (hr.mono (show 1 ≤ 2 by decide)) rfl c__law_take.mg c__law_take.kp c__law_take.b .nil pass0 (pa_cons (pv 0) (pa_cons pe_int pa_nil))) (fun _ _ => rfl))))
      (pss_cons (ps_set (i := 6) sc__law_house.nd rfl (Or.inl rfl) (pe_lst pa_nil))
      (pss_cons (ps_set (i := 7) sc__law_house.nd rfl (Or.inl rfl) pe_int)
      (pss_cons (ps_cut (ps_for PassesOwn.never rfl (pi_range1 rfl m_range (pa_cons (pv 3) pa_nil)) (pg_name (i := 8) sc__law_house.nd rfl (Or.inl rfl))
        (pss_cons (ps_cut (ps_set (i := 9) sc__law_house.nd rfl (Or.inl rfl) (pe_callB call_sorted rfl m_sorted boot_sorted (pa_cons (pe_call G__law_some hr rfl c__law_some.mg c__law_some.kp c__law_some.b .nil pass0 (pa_cons (pv 0) (pa_cons (pv 2) (pa_cons (pe_op op_add pe_int (pe_call G__law_take (hr.mono (show 1 ≤ 2 by decide)) rfl c__law_take.mg c__law_take.kp c__law_take.b .nil pass0 (pa_cons (pv 0) (pa_cons (pv 4) pa_nil)))) pa_nil)))) pa_nil))))
        (pss_cons (ps_set (i := 10) sc__law_house.nd rfl (Or.inl rfl) (pe_call G__law_take (hr.mono (show 1 ≤ 2 by decide)) rfl c__law_take.mg c__law_take.kp c__law_take.b .nil pass0 (pa_cons (pv 0) (pa_cons (pe_op op_add (pv 5) pe_int) pa_nil))))
        (pss_cons (ps_cut (ps_if (pt_cmpR op_eq (pe_call G__law_take (hr.mono (show 1 ≤ 2 by decide)) rfl c__law_take.mg c__law_take.kp c__law_take.b .nil pass0 (pa_cons (pv 0) (pa_cons pe_int pa_nil))) pe_int (nomark _))
          (pss_cons (ps_set (i := 10) sc__law_house.nd rfl (Or.inl rfl) (pe_callB (call_min2 rfl) rfl m_min (by decide +kernel) (pa_cons (pv 7) (pa_cons (pe_op op_add pe_int (pe_call G__law_take (hr.mono (show 1 ≤ 2 by decide)) rfl c__law_take.mg c__law_take.kp c__law_take.b .nil pass0 (pa_cons (pv 0) (pa_cons pe_int pa_nil)))) pa_nil))))
          (pss_one (ps_set (i := 7) sc__law_house.nd rfl (Or.inl rfl) (pe_op op_sub (pv 7) (pv 10))))) pss_nil))
        (pss_one (ps_expr (pe_bm PySem.F.plainAttrs_list PySem.F.slot_list_append PySem.F.type_list_append mt_append (pv 6) (pa_cons (pe_tup (pa_cons (pv 9) (pa_cons (pe_call G__law_some hr rfl c__law_some.mg c__law_some.kp c__law_some.b .nil pass0 (pa_cons (pv 0) (pa_cons (pv 2) (pa_cons (pv 10) pa_nil)))) pa_nil))) pa_nil)))))))))
      (pss_cons (ps_cut (ps_set (i := 11) sc__law_house.nd rfl (Or.inl rfl) (pe_op op_sub pe_int (pe_callB (call_sum rfl) rfl m_sum (by decide +kernel) (pa_cons (pe_lc (outer := defScope (st__law_house)) (N := ["pool", "most", "kinds", "many", "locks", "keys", "rooms", "spare", "room", "doors", "few", "left", "more"]) (N' := ["doors", "within"]) (nl := 2) (ix := []) rfl rfl rfl (pi_list (pv 6))
        (fun C fp s₀ H₀ => (pg_tupK (K := K) (n := 2) rfl rfl (pgs_cons (pg_name (i := 0) nd__law_house_0 rfl (Or.inl rfl) (.inr rfl)) (pgs_cons (pg_name (i := 1) nd__law_house_0 rfl (Or.inl rfl) (.inr rfl)) pgs_nil)))) (fun C fp s₀ H₀ => pif_nil)
        (fun C fp s₀ H₀ => (pe_callB (call_lenK (K := K) rfl) rfl m_len PySem.boot_len (pa_cons (pv 1) pa_nil)))) pa_nil)))))
      (pss_cons (ps_cut (ps_if (PW.pt (pw_and (pt_cmpR op_neD (pv 6) (pe_lst pa_nil) (nomark _)) (pw_and1 (pt_cmpR op_eq (pe_call G__law_take (hr.mono (show 1 ≤ 2 by decide)) rfl c__law_take.mg c__law_take.kp c__law_take.b .nil pass0 (pa_cons (pv 0) (pa_cons pe_int pa_nil))) pe_int (nomark _)))))
        (pss_cons (ps_set (i := 12) sc__law_house.nd rfl (Or.inl rfl) (pe_call G__law_take (hr.mono (show 1 ≤ 2 by decide)) rfl c__law_take.mg c__law_take.kp c__law_take.b .nil pass0 (pa_cons (pv 0) (pa_cons (pe_op op_add (pv 11) pe_int) pa_nil))))
        (pss_cons (ps_expr (pe_bm PySem.F.plainAttrs_list PySem.F.slot_list_extend PySem.F.type_list_extend mt_extend (pe_ix ix_tup (pe_ix ix_list (pv 6) (pe_call G__law_take (hr.mono (show 1 ≤ 2 by decide)) rfl c__law_take.mg c__law_take.kp c__law_take.b .nil pass0 (pa_cons (pv 0) (pa_cons (pe_callB call_len_seq rfl m_len PySem.boot_len (pa_cons (pv 6) pa_nil)) pa_nil))) (fun _ _ => rfl)) pe_int (fun _ _ => rfl)) (pa_cons (pe_call G__law_some hr rfl c__law_some.mg c__law_some.kp c__law_some.b .nil pass0 (pa_cons (pv 0) (pa_cons (pv 2) (pa_cons (pv 12) pa_nil)))) pa_nil)))
        (pss_one (ps_set (i := 11) sc__law_house.nd rfl (Or.inl rfl) (pe_op op_sub (pv 11) (pv 12)))))) pss_nil))
      (pss_one (ps_ret (pe_tup (pa_cons (pe_call G__law_some hr rfl c__law_some.mg c__law_some.kp c__law_some.b .nil pass0 (pa_cons (pv 0) (pa_cons (pv 2) (pa_cons (pe_callB (call_min2 rfl) rfl m_min (by decide +kernel) (pa_cons (pv 11) (pa_cons (pe_call G__law_take (hr.mono (show 1 ≤ 2 by decide)) rfl c__law_take.mg c__law_take.kp c__law_take.b .nil pass0 (pa_cons (pv 0) (pa_cons (pe_ix ix_list (pe_lst (pa_cons pe_int (pa_cons pe_int (pa_cons pe_int (pa_cons pe_int pa_nil))))) (pe_call G__law_take (hr.mono (show 1 ≤ 2 by decide)) rfl c__law_take.mg c__law_take.kp c__law_take.b .nil pass0 (pa_cons (pv 0) (pa_cons pe_int pa_nil))) (fun _ _ => rfl)) pa_nil))) pa_nil))) pa_nil)))) (pa_cons (pv 6) pa_nil)))))))))))))), ?_⟩
    refine ⟨DrI1 p most c H, ?_, ?_⟩
    · rintro σ H1 ⟨kA, ks, c1, rfl, hk1, hkn, hkl, hko, ⟨o1, hp1, hpo1⟩, g1, g2, b1⟩
      refine ⟨DrI2 p most kA c1 H1, ?_, ?_⟩
      · rintro σ H2 ⟨mn, c2, rfl, hmn, ⟨o2, hp2, hpo2⟩, g3, g4, b2⟩
        refine ⟨DrI3 p most kA mn c1 H1, ?_, ?_⟩
        · rintro σ H3 ⟨lk, c3, rfl, hlk1, hlk2, ⟨o3, hp3, hpo3⟩, g5, g6, b3⟩
          refine ⟨DrI4 p most kA mn lk c1 H1, ?_, ?_⟩
          · rintro σ H4 ⟨ky, c4, rfl, hky1, hky2, ⟨o4, hp4, hpo4⟩, g7, g8, b4⟩
            have hk4 := hk1.on b4
            refine ⟨Nat.zero_le _, fun rA nR => ?_⟩
            have npR : p ≠ rA := ne_of_none hp4 nR
            have bR : But p H4 (upd H4 rA (.lst [])) := fun b u hb e => by rw [upd_ne (ne_of_none e nR)]; exact e
            refine ⟨DrI5 p most kA mn lk ky rA H4 ks c4, ?_, ?_⟩
            · rintro σ H5 ⟨x8, x9, x10, sp, c5, vs, rs, ws, rfl, hW, hwf, hrl, hro, hsum, ⟨o5, hp5, hpo5⟩, g9, g10, b5⟩
              have hk5 := hk4.on b5
              have mn60 : mn ≤ 60 := by (first | lia | (first | lia | omega))
              refine ⟨fun σ' H' => σ' = [some (.ref p), some (.int most), some (.ref kA), some (.int mn), some (.int lk), some (.int ky), some (.ref rA), some (.int sp), x8, x9, x10, some (.int (276 - (((rs.map (·.2.length)).sum : Nat) : Int))), none] ∧ Same H5 H', ?_, ?_⟩
              · rintro σ H6 ⟨rfl, sm6⟩
                have b6 : But p H5 H6 := fun b u _ e => sm6 b u e
                have hW6 := hW.on b6
                have hk6 := hk5.on b6
                have hp6 := sm6 _ _ hp5
                refine ⟨DrI6 p most kA mn lk ky rA sp x8 x9 x10 vs ws ks c5 H4, ?_, ?_⟩
                · rintro σ H7 ⟨x12, rs', lf, c7, rfl, hW7, hrl7, hro7, hlf, hsum7, ⟨o7, hp7, hpo7⟩, g11, g12, b7⟩
                  have hk7 := hk4.on b7
                  first | refine tvE rfl ?_ | refine ⟨_, rfl, ?_⟩
                  first | refine tvE rfl ?_ | refine ⟨_, rfl, ?_⟩
                  first | refine tvE rfl ?_ | refine ⟨_, rfl, ?_⟩
                  first | refine tvE rfl ?_ | refine ⟨_, rfl, ?_⟩
                  refine ⟨by show 4 ≤ sizeLine; decide, fun l1 n1 => ?_⟩
                  have np1 : p ≠ l1 := ne_of_none hp7 n1
                  first | refine tvE rfl ?_ | refine ⟨_, rfl, ?_⟩
                  refine ⟨p, 4, c7, o7, rfl, by rw [upd_ne np1]; exact hp7, hpo7, by decide, by decide, by (first | lia | (first | lia | omega)), by (first | lia | (first | lia | omega)), fun r c8 o8 r0 r1 h1 h2 hpo8 => ?_⟩
                  obtain ⟨m, hm, ha⟩ := menu (xs := [3, 7, 25, 277]) r0 r1
                  have hm' : 3 ≤ m ∧ m ≤ 277 := by simp only [List.mem_cons, List.not_mem_nil, or_false] at hm; (first | lia | (first | lia | omega))
                  refine ⟨l1, _, r, .int m, rfl, rfl, SqL.of (by rw [upd_ne (Ne.symm np1), upd_same]; rfl), ha, ?_⟩
                  refine ⟨p, m, c8, o8, rfl, upd_same, hpo8, by (first | lia | (first | lia | omega)), by (first | lia | (first | lia | omega)), by (first | lia | (first | lia | omega)), by (first | lia | (first | lia | omega)), fun q c9 o9 q0 q1 h3 h4 hpo9 => ?_⟩
                  refine ⟨_, _, rfl, ?_⟩
                  have mi : (if q < lf then q else lf) ≤ lf ∧ 0 ≤ (if q < lf then q else lf) ∧ (if q < lf then q else lf) ≤ 276 := by split <;> (first | lia | (first | lia | omega))
                  generalize (if q < lf then q else lf) = mv at mi ⊢
                  obtain ⟨mvn, rfl⟩ : ∃ n : Nat, mv = (n : Int) := ⟨mv.toNat, by (first | lia | (first | lia | omega))⟩
                  have b8 : But p H7 (upd (upd (upd H7 l1 (.lst [.int 3, .int 7, .int 25, .int 277])) p o8) p o9) := fun b u hb e => by rw [upd_ne hb, upd_ne hb, upd_ne (ne_of_none e n1)]; exact e
                  refine ⟨p, kA, mvn, c9, ks, rfl, ⟨o9, upd_same, hpo9⟩, (hk7.on b8).1, hkn, by (first | lia | (first | lia | omega)), by (first | lia | (first | lia | omega)), by (first | lia | (first | lia | omega)), by (first | lia | (first | lia | omega)), fun l ss c10 H8 nl hsl hsm hl8 hp8 g13 g14 b9 => ?_⟩
                  first | refine tvE rfl ?_ | refine ⟨_, rfl, ?_⟩
                  refine ⟨by show 2 ≤ sizeLine; decide, fun tA nT => ?_⟩
                  have b79 := b8.trans b9
                  have bT : But p H8 (upd H8 tA (.tup [.ref l, .ref rA])) := fun b u hb e => by rw [upd_ne (ne_of_none e nT)]; exact e
                  obtain ⟨o10, hp10, hpo10⟩ := hp8
                  have hW10 := (hW7.on b79).on bT
                  have fl2 : ((rs'.flatMap (·.2)).length : Int) + lf = 276 := by rw [List.length_flatMap]; exact hsum7
                  have fl1 : (rs'.flatMap (·.1)).length ≤ 1000 := by
                    have : ∀ l : List Rm, (∀ r ∈ l, r.1.length ≤ 4) → (l.flatMap (·.1)).length ≤ 4 * l.length := fun l => by
                      induction l with
                      | nil => intro _; exact Nat.zero_le _
                      | cons a t ih =>
                        intro h
                        have h1 := h a List.mem_cons_self
                        have h2 := ih fun r hr => h r (List.mem_cons_of_mem _ hr)
                        rw [List.flatMap_cons, List.length_append, List.length_cons]
                        (first | lia | (first | lia | omega))
                    have := this rs' fun r hr => (hro7 r hr).2.2.1
                    (first | lia | (first | lia | omega))
                  have ak : (allKeys (ss, rs')).length ≤ 276 := by
                    unfold allKeys
                    rw [List.length_append]
                    show ss.length + (rs'.flatMap (·.2)).length ≤ 276
                    (first | lia | (first | lia | omega))
                  have hin : ∀ x, (x ∈ allKeys (ss, rs') ∨ x ∈ allLocks (ss, rs')) → x ∈ ks := fun x h => by
                    rcases h with h | h
                    · rcases List.mem_append.mp h with h | h
                      · exact hsm x h
                      · obtain ⟨r, hr, hx⟩ := List.mem_flatMap.mp h
                        exact (hro7 r hr).2.2.2.2.1 x hx
                    · obtain ⟨r, hr, hx⟩ := List.mem_flatMap.mp h
                      exact (hro7 r hr).1 x hx
                  refine k (.ref tA) (ss, rs') c10 _ ⟨tA, l, rA, vs, rfl, upd_same, ?_, hW10.ls.1, hW10.rooms⟩ ⟨fun k hk => hko k (hsm k hk), by show ss.length ≤ 1000; (first | lia | (first | lia | omega)), fun r hr => ?_, by show rs'.length ≤ 1000; (first | lia | (first | lia | omega))⟩ ⟨⟨ks, by (first | lia | (first | lia | omega)), hin⟩, by (first | lia | (first | lia | omega)), fl1⟩ (by show rs'.length ≤ most; (first | lia | (first | lia | omega))) ak ⟨o10, by rw [upd_ne (ne_of_none hp10 nT)]; exact hp10, hpo10⟩ (by (first | lia | (first | lia | omega))) (by (first | lia | (first | lia | omega))) ?_
                  · rw [upd_ne (ne_of_none hl8 nT)]; exact hl8
                  · obtain ⟨r1, r2, r3, r4, r5, r6⟩ := hro7 r hr
                    exact ⟨fun k hk => hko k (r1 k hk), r2, r3, r4, fun k hk => hko k (r5 k hk), by (first | lia | (first | lia | omega))⟩
                  · exact b1.trans (b4.trans (b7.trans (b79.trans bT)))
                · have rk : ∀ r ∈ rs, (∀ k ∈ r.1, KindOk k) ∧ ∀ k ∈ r.2, KindOk k := fun r hr => ⟨fun k hk => hko k ((hro r hr).1 k hk), fun k hk => hko k ((hro r hr).2.2.2.2.1 k hk)⟩
                  have ro300 : ∀ r ∈ rs, (∀ k ∈ r.1, k ∈ ks) ∧ 1 ≤ r.1.length ∧ r.1.length ≤ 4 ∧ r.1.Pairwise leS ∧ (∀ k ∈ r.2, k ∈ ks) ∧ r.2.length ≤ 300 := fun r hr => by
                    obtain ⟨r1, r2, r3, r4, r5, r6⟩ := hro r hr
                    exact ⟨r1, r2, r3, r4, r5, by (first | lia | (first | lia | omega))⟩
                  first | refine tvE rfl ?_ | refine ⟨_, rfl, ?_⟩
                  refine ⟨Nat.zero_le _, fun e ne => ?_⟩
                  have sm7 : Same H6 (upd H6 e (.lst [])) := fun b u q => by rw [upd_ne (ne_of_none q ne)]; exact q
                  have he : (upd H6 e (.lst [])) e = some (.lst []) := upd_same
                  generalize upd H6 e (.lst []) = H7 at sm7 he
                  have b7 : But p H6 H7 := fun b u _ q => sm7 b u q
                  have hW7 := hW6.on b7
                  have hp7 := sm7 _ _ hp6
                  refine ⟨.list (rs.map roomData), .list [], .lst hW7.ls.1 (sees_rooms hW7.rooms), .lst he .nil, rooms_lay rk, rfl, ?_, ?_⟩
                  · refine Nat.lt_of_le_of_lt ?_ hu
                    exact Nat.add_le_add_left (Nat.min_le_right _ _) _
                  by_cases hemp : rs = []
                  · subst hemp
                    refine ⟨false, rfl, iteF (iteF ?_)⟩
                    exact ⟨none, [], _, c5, rfl, hW7, hrl, ro300, by (first | lia | (first | lia | omega)), by (first | lia | (first | lia | omega)), ⟨o5, hp7, hpo5⟩, by (first | lia | (first | lia | omega)), by (first | lia | (first | lia | omega)), b5.trans (b6.trans b7)⟩
                  · have hne : (if true = true then !PyData.eqv (.list (rs.map roomData)) (.list []) else PyData.eqv (.list (rs.map roomData)) (.list [])) = true := by
                      cases rs with
                      | nil => exact absurd rfl hemp
                      | cons a t => rfl
                    refine ⟨true, congrArg V.bl hne, iteT ?_⟩
                    first | refine tvE rfl ?_ | refine ⟨_, rfl, ?_⟩
                    refine ⟨p, 8, c5, o5, rfl, hp7, hpo5, by decide, by decide, by (first | lia | (first | lia | omega)), by (first | lia | (first | lia | omega)), fun z c8 o8 z0 z1 g15 g16 hpo8 => ?_⟩
                    have b8 : But p H7 (upd H7 p o8) := But.upd
                    refine ⟨rfl, _, rfl, ite2 (fun _ => ?_) (fun _ => ?_)⟩
                    · first | refine tvE rfl ?_ | refine ⟨_, rfl, ?_⟩
                      first | refine tvE rfl ?_ | refine ⟨_, rfl, ?_⟩
                      refine ⟨_, 1, rfl, rfl, p, _, c8, o8, rfl, upd_same, hpo8, by (first | lia | (first | lia | omega)), by (first | lia | (first | lia | omega)), by (first | lia | (first | lia | omega)), by (first | lia | (first | lia | omega)), fun mo c9 o9 m0 m1 g17 g18 hpo9 => ?_⟩
                      obtain ⟨mon, rfl⟩ : ∃ n : Nat, mo = (n : Int) := ⟨mo.toNat, by (first | lia | (first | lia | omega))⟩
                      have b9 : But p H7 (upd (upd H7 p o8) p o9) := b8.trans But.upd
                      have hp9 : (upd (upd H7 p o8) p o9) p = some o9 := upd_same
                      generalize upd (upd H7 p o8) p o9 = H9 at b9 hp9
                      have hW9 := hW7.on b9
                      have hrs : 0 < rs.length := List.length_pos_iff.mpr hemp
                      first | refine tvE rfl ?_ | refine ⟨_, rfl, ?_⟩
                      first | refine tvE rfl ?_ | refine ⟨_, rfl, ?_⟩
                      first | refine tvE rfl ?_ | refine ⟨_, rfl, ?_⟩
                      refine ⟨rA, vs, rfl, .inl (SqL.of hW9.ls.1), p, _, c9, o9, rfl, hp9, hpo9, by rw [hW9.l1]; (first | lia | (first | lia | omega)), by rw [hW9.l1]; (first | lia | (first | lia | omega)), by (first | lia | (first | lia | omega)), by (first | lia | (first | lia | omega)), fun ii c10 o10 i0 i1 g19 g20 hpo10 => ?_⟩
                      rw [hW9.l1] at i1
                      obtain ⟨ix, rfl⟩ : ∃ n : Nat, ii = (n : Int) := ⟨ii.toNat, by (first | lia | (first | lia | omega))⟩
                      have hix : ix < rs.length := by (first | lia | (first | lia | omega))
                      have hix2 : ix < ws.length := by rw [hW9.l2]; exact hix
                      have b10 : But p H9 (upd H9 p o10) := But.upd
                      have hp10 : (upd H9 p o10) p = some o10 := upd_same
                      generalize upd H9 p o10 = H10 at b10 hp10
                      have hW10 := hW9.on b10
                      obtain ⟨t, d, a1, a2, a3, a4, a5, a6⟩ := hW10.item ix rs[ix] ws[ix] (List.getElem?_eq_getElem hix) (List.getElem?_eq_getElem hix2)
                      refine ⟨rA, vs, _, .ref t, rfl, rfl, SqL.of hW10.ls.1, atI_nat a1, t, _, 1, .ref ws[ix], rfl, rfl, SqT.of a2.1, rfl, .inl ⟨rfl, _, SqL.of a4.1⟩, ?_⟩
                      have b410 : But p H4 H10 := b5.trans (b6.trans (b7.trans (b9.trans b10)))
                      have hk10 := hk4.on b410
                      first | refine tvE rfl ?_ | refine ⟨_, rfl, ?_⟩
                      first | refine tvE rfl ?_ | refine ⟨_, rfl, ?_⟩
                      first | refine tvE rfl ?_ | refine ⟨_, rfl, ?_⟩
                      refine ⟨p, kA, mon, c10, ks, rfl, ⟨o10, hp10, hpo10⟩, hk10.1, hkn, by (first | lia | (first | lia | omega)), by (first | lia | (first | lia | omega)), by (first | lia | (first | lia | omega)), by (first | lia | (first | lia | omega)), fun l ss c11 H11 nl hsl hsm hl11 hp11 g21 g22 b11 => ?_⟩
                      have hW11 := hW10.on b11
                      have r12 := (hro rs[ix] (List.getElem_mem hix)).2.2.2.2.2
                      refine ⟨ws[ix], l, _, _, rfl, rfl, (a4.on b11).1, hl11, by rw [List.length_map, List.length_map]; exact Nat.le_of_lt (small1000 (by (first | lia | (first | lia | omega)))), ?_⟩
                      have hWe := hW11.ext (ss := ss) (List.getElem?_eq_getElem hix) (List.getElem?_eq_getElem hix2)
                      obtain ⟨o11, hp11', hpo11⟩ := hp11
                      first | refine tvE rfl ?_ | refine ⟨_, rfl, ?_⟩
                      first | refine tvE rfl ?_ | refine ⟨_, rfl, ?_⟩
                      refine ⟨_, _, rfl, rfl, ?_⟩
                      have sset : (((rs.set ix (rs[ix].1, rs[ix].2 ++ ss)).map (·.2.length)).sum : Nat) = (rs.map (·.2.length)).sum + mon := by
                        have : ∀ (l : List Rm) (i : Nat) (h : i < l.length) (x : Rm), ((l.set i x).map (·.2.length)).sum + (l[i]).2.length = (l.map (·.2.length)).sum + x.2.length := fun l => by
                          induction l with
                          | nil => intro i h; exact absurd h (Nat.not_lt_zero _)
                          | cons a t ih =>
                            intro i h x
                            cases i with
                            | zero => simp; (first | lia | (first | lia | omega))
                            | succ i =>
                              have := ih i (by simpa using h) x
                              simp only [List.set_cons_succ, List.map_cons, List.sum_cons, List.getElem_cons_succ]
                              (first | lia | (first | lia | omega))
                        have := this rs ix hix (rs[ix].1, rs[ix].2 ++ ss)
                        simp only [List.length_append] at this
                        (first | lia | (first | lia | omega))
                      refine ⟨_, _, _, c11, rfl, hWe, by simp [hrl], fun r hr' => ?_, ?_, ?_, ⟨o11, by rw [upd_ne (Ne.symm a4.2)]; exact hp11', hpo11⟩, by (first | lia | (first | lia | omega)), by (first | lia | (first | lia | omega)), fun b u hb e => ?_⟩
                      · rcases List.mem_or_eq_of_mem_set hr' with hr' | hr'
                        · exact ro300 r hr'
                        · obtain ⟨r1, r2, r3, r4, r5, r6⟩ := hro rs[ix] (List.getElem_mem hix)
                          rw [hr']
                          refine ⟨r1, r2, r3, r4, fun k hk => ?_, ?_⟩
                          · rcases List.mem_append.mp hk with hk | hk
                            · exact r5 k hk
                            · exact hsm k hk
                          · show (rs[ix].2 ++ ss).length ≤ 300
                            rw [List.length_append]
                            (first | lia | (first | lia | omega))
                      · (first | lia | (first | lia | omega))
                      · rw [sset]; (first | lia | (first | lia | omega))
                      · rw [upd_ne (ne_of_none e (hwf _ (List.getElem_mem hix2)))]
                        exact b11 b u hb (b410 b u hb e)
                    · exact ⟨none, rs, _, c8, rfl, hW7.on b8, hrl, ro300, by (first | lia | (first | lia | omega)), by (first | lia | (first | lia | omega)), ⟨o8, upd_same, hpo8⟩, by (first | lia | (first | lia | omega)), by (first | lia | (first | lia | omega)), b5.trans (b6.trans (b7.trans b8))⟩
              · dsimp only [tAsg, tOp, tC, tCB, tCons, tNil]
                refine lcomp_eq _ _ _ _ _ _ _ _ _ ?_
                first | refine tvE rfl ?_ | refine ⟨_, rfl, ?_⟩
                refine ⟨rA, rfl, ⟨_, SqL.of hW.ls.1⟩, ?_⟩
                intro D hD
                refine comp_list (xs := vs) (fun j ys H' => ys = ((rs.take j).map fun r => V.int ((r.2.length : Nat) : Int)) ∧ j ≤ 60 ∧ H' D = some (.lst ys) ∧ Same H5 H') ⟨rfl, by decide, upd_same, fun b u e => by rw [upd_ne (ne_of_none e hD)]; exact e⟩ (fun j ys H' ⟨_, _, h, _⟩ => h) (fun j ys H' ⟨_, _, _, sm⟩ => SqL.of (sm _ _ hW.ls.1)) ?_ ?_
                · rintro j ys H6 x hx ⟨rfl, hj0, hD6, sm⟩
                  have hj : j < vs.length := (List.getElem?_eq_some_iff.mp hx).1
                  have hj1 : j < rs.length := by rw [← hW.l1]; exact hj
                  have hj2 : j < ws.length := by rw [hW.l2]; exact hj1
                  obtain ⟨t, d, a1, a2, a3, a4, _⟩ := hW.item j rs[j] ws[j] (List.getElem?_eq_getElem hj1) (List.getElem?_eq_getElem hj2)
                  rw [hx] at a1
                  cases a1
                  refine turn_two t (.ref d) (.ref ws[j]) rfl (SqT.of (sm _ _ a2.1)) rfl ?_
                  first | refine tvE rfl ?_ | refine ⟨_, rfl, ?_⟩
                  refine ⟨ws[j], _, rfl, .inl (SqL.of (sm _ _ a4.1)), hD6, by rw [List.length_map, List.length_take]; exact small1000 (by (first | lia | (first | lia | omega))), nx hj ⟨?_, by (first | lia | (first | lia | omega)), upd_same, fun b u e => ?_⟩⟩
                  · rw [List.take_add_one, List.getElem?_eq_getElem hj1, List.map_append, List.length_map]
                    rfl
                  · rw [upd_ne (ne_of_none e hD)]
                    exact sm b u e
                · rintro ys H6 ⟨rfl, _, hD6, sm⟩
                  rw [hW.l1, List.take_length] at hD6
                  have sc : ∀ l : List Rm, (l.map fun r => ((r.2.length : Nat) : Int)).sum = (((l.map (·.2.length)).sum : Nat) : Int) := fun l => by
                    induction l with
                    | nil => rfl
                    | cons a t ih =>
                      rw [List.map_cons, List.map_cons, List.sum_cons, List.sum_cons, ih]
                      (first | lia | (first | lia | omega))
                  refine ⟨D, rs.map (fun r => ((r.2.length : Nat) : Int)), rfl, SqL.of (by rw [hD6, List.map_map]; rfl), fun n hn => ?_, by rw [List.length_map]; (first | lia | (first | lia | omega)), 276, _, rfl, rfl, ?_⟩
                  · obtain ⟨r, hr', rfl⟩ := List.mem_map.mp hn
                    have := (hro r hr').2.2.2.2.2
                    (first | lia | (first | lia | omega))
                  · exact ⟨by rw [← sc rs]; rfl, sm⟩
            · first | refine tvE rfl ?_ | refine ⟨_, rfl, ?_⟩
              refine ⟨(mn : Int), rfl, by (first | lia | (first | lia | omega)), by (first | lia | (first | lia | omega)), ?_⟩
              refine for_range (n := mn) (DrI7 p most kA mn lk ky rA H4 ks c4) ?_ ?_ ?_
              · exact ⟨none, none, none, 40, c4, [], [], [], 0, rfl, ⟨⟨upd_same, Ne.symm npR⟩, rfl, rfl, List.nodup_nil, (fun z => nomatch z), (fun i r w e => by simp at e)⟩, (fun w h => nomatch h), rfl, (fun r h => nomatch h), by decide, by decide, by decide, by decide, ⟨o4, by rw [upd_ne npR]; exact hp4, hpo4⟩, Int.le_refl _, by (first | lia | (first | lia | omega)), bR⟩
              · rintro i σ H5 hi ⟨x8, x9, x10, sp, c5, vs, rs, ws, q, rfl, hW, hwf, hrl, hro, hs0, hs1, hs2, hs3, ⟨o5, hp5, hpo5⟩, g9, g10, b5⟩
                have hk5 := hk4.on b5
                refine ⟨DrI8 p most kA mn lk ky rA sp i x10 H5 ks c5, ?_, ?_⟩
                · rintro σ H6 ⟨dA, ds, c6, rfl, hd6, nd6, hdk, hd1, hd4, hdp, ⟨o6, hp6, hpo6⟩, g11, g12, b6⟩
                  first | refine tvE rfl ?_ | refine ⟨_, rfl, ?_⟩
                  first | refine tvE rfl ?_ | refine ⟨_, rfl, ?_⟩
                  refine ⟨_, 1, rfl, rfl, p, ky + 1, c6, o6, rfl, hp6, hpo6, by (first | lia | (first | lia | omega)), by (first | lia | (first | lia | omega)), by (first | lia | (first | lia | omega)), by (first | lia | (first | lia | omega)), fun fw c7 o7 f0 f1 g13 g14 hpo7 => ?_⟩
                  have b7 : But p H5 (upd H6 p o7) := b6.trans But.upd
                  have hd7 : At p (upd H6 p o7) dA (.lst (ds.map V.str)) := hd6.on But.upd
                  have hp7 : (upd H6 p o7) p = some o7 := upd_same
                  generalize upd H6 p o7 = H7 at b7 hd7 hp7
                  refine ⟨DrI9 p most kA mn lk ky rA i dA sp c5 H7, ?_, ?_⟩
                  · rintro σ H8 ⟨fw, sp', c8, rfl, hfw, hp8, g15, g16, b8⟩
                    have b58 := b7.trans b8
                    have hk8 := hk5.on b58
                    have hd8 := hd7.on b8
                    have hW8 := hW.on b58
                    first | refine tvE rfl ?_ | refine ⟨_, rfl, ?_⟩
                    refine ⟨.inl ⟨rfl, _, SqL.of hW8.ls.1⟩, _, rfl, _, rfl, _, rfl, _, rfl, p, kA, fw, c8, ks, rfl, hp8, hk8.1, hkn, by (first | lia | (first | lia | omega)), by (first | lia | (first | lia | omega)), by (first | lia | (first | lia | omega)), by (first | lia | (first | lia | omega)), fun wA ss c9 H9 nW hsl hsm hw9 hp9 g17 g18 b9 => ?_⟩
                    obtain ⟨o8, hp8', _⟩ := hp8
                    obtain ⟨o9, hp9', hpo9⟩ := hp9
                    have npw : p ≠ wA := ne_of_none hp8' nW
                    refine ⟨by show 2 ≤ sizeLine; decide, fun tA nT => ?_⟩
                    have npt : p ≠ tA := ne_of_none hp9' nT
                    have bT : But p H9 (upd H9 tA (.tup [.ref dA, .ref wA])) := fun b u hb e => by rw [upd_ne (ne_of_none e nT)]; exact e
                    have b5T := (b58.trans b9).trans bT
                    have hdw : dA ≠ wA := ne_of_none hd8.1 nW
                    have hWn := hW.more (r := (ds, ss)) b5T (t := tA) (d := dA) (w := wA) ⟨upd_same, Ne.symm npt⟩ ((hd8.on b9).on bT) ⟨by rw [upd_ne (ne_of_none hw9 nT)]; exact hw9, Ne.symm npw⟩ nd6 (b58.free (Ne.symm npw) nW) hdw
                    have hrA := (hW.on b5T).ls
                    refine ⟨rA, vs, .ref tA, rfl, rfl, hrA.1, by rw [hW.l1]; exact small1000 (by (first | lia | (first | lia | omega))), ?_⟩
                    have hst : ∃ q' : Nat, 40 - sp' ≤ 12 * q' ∧ ((((rs ++ [(ds, ss)]).map (·.2.length)).sum : Nat) : Int) + 4 * q' ≤ 4 * ((i + 1 : Nat) : Int) + (40 - sp') ∧ 0 ≤ sp' ∧ sp' ≤ 40 := by
                      rw [List.map_append, List.sum_append]
                      simp only [List.map_cons, List.map_nil, List.sum_cons, List.sum_nil]
                      rcases hfw with ⟨e1, e2⟩ | ⟨e1, e2, e3⟩
                      · exact ⟨q, by (first | lia | (first | lia | omega)), by (first | lia | (first | lia | omega)), by (first | lia | (first | lia | omega)), by (first | lia | (first | lia | omega))⟩
                      · exact ⟨q + 1, by (first | lia | (first | lia | omega)), by (first | lia | (first | lia | omega)), by (first | lia | (first | lia | omega)), by (first | lia | (first | lia | omega))⟩
                    obtain ⟨q', q1, q2, q3, q4⟩ := hst
                    refine ⟨_, _, _, sp', c9, vs ++ [.ref tA], rs ++ [(ds, ss)], ws ++ [wA], q', rfl, hWn, fun w' hw' => ?_, by simp [hrl], fun r hr' => ?_, q3, q4, q1, q2, ⟨o9, by rw [upd_ne (Ne.symm hrA.2), upd_ne npt]; exact hp9', hpo9⟩, by (first | lia | (first | lia | omega)), by (first | lia | (first | lia | omega)), fun b u hb e => ?_⟩
                    · rcases List.mem_append.mp hw' with hw' | hw'
                      · exact hwf w' hw'
                      · rw [List.mem_singleton.mp hw']
                        exact b5.free (Ne.symm npw) (b58.free (Ne.symm npw) nW)
                    · rcases List.mem_append.mp hr' with hr' | hr'
                      · exact hro r hr'
                      · rw [List.mem_singleton.mp hr']
                        exact ⟨hdk, hd1, hd4, hdp, hsm, by show ss.length ≤ 12; (first | lia | (first | lia | omega))⟩
                    · rw [upd_ne (ne_of_none e nR)]
                      exact b5T b u hb (b5 b u hb e)
                  · first | refine tvE rfl ?_ | refine ⟨_, rfl, ?_⟩
                    refine ⟨p, 8, c7, o7, rfl, hp7, hpo7, by decide, by decide, by (first | lia | (first | lia | omega)), by (first | lia | (first | lia | omega)), fun z c8 o8 z0 z1 g15 g16 hpo8 => ?_⟩
                    refine ⟨rfl, _, rfl, ite2 (fun _ => ?_) (fun _ => ?_)⟩
                    · first | refine tvE rfl ?_ | refine ⟨_, rfl, ?_⟩
                      first | refine tvE rfl ?_ | refine ⟨_, rfl, ?_⟩
                      refine ⟨p, 9, c8, o8, rfl, upd_same, hpo8, by decide, by decide, by (first | lia | (first | lia | omega)), by (first | lia | (first | lia | omega)), fun y c9 o9 y0 y1 g17 g18 hpo9 => ?_⟩
                      refine ⟨4, y, rfl, rfl, _, _, rfl, ?_⟩
                      have mi : (if 4 + y < sp then 4 + y else sp) ≤ sp ∧ 0 ≤ (if 4 + y < sp then 4 + y else sp) ∧ (if 4 + y < sp then 4 + y else sp) ≤ 12 := by split <;> (first | lia | (first | lia | omega))
                      generalize (if 4 + y < sp then 4 + y else sp) = mv at mi ⊢
                      obtain ⟨mvn, rfl⟩ : ∃ n : Nat, mv = (n : Int) := ⟨mv.toNat, by (first | lia | (first | lia | omega))⟩
                      first | refine tvE rfl ?_ | refine ⟨_, rfl, ?_⟩
                      first | refine tvE rfl ?_ | refine ⟨_, rfl, ?_⟩
                      refine ⟨_, _, rfl, rfl, ?_⟩
                      exact ⟨mvn, _, c9, rfl, .inr ⟨rfl, mi.1, by (first | lia | (first | lia | omega))⟩, ⟨o9, upd_same, hpo9⟩, by (first | lia | (first | lia | omega)), by (first | lia | (first | lia | omega)), But.upd.trans But.upd⟩
                    · obtain ⟨fwn, rfl⟩ : ∃ n : Nat, fw = (n : Int) := ⟨fw.toNat, by (first | lia | (first | lia | omega))⟩
                      exact ⟨fwn, sp, c8, rfl, .inl ⟨rfl, by (first | lia | (first | lia | omega))⟩, ⟨o8, upd_same, hpo8⟩, by (first | lia | (first | lia | omega)), by (first | lia | (first | lia | omega)), But.upd⟩
                · first | refine tvE rfl ?_ | refine ⟨_, rfl, ?_⟩
                  first | refine tvE rfl ?_ | refine ⟨_, rfl, ?_⟩
                  first | refine tvE rfl ?_ | refine ⟨_, rfl, ?_⟩
                  first | refine tvE rfl ?_ | refine ⟨_, rfl, ?_⟩
                  refine ⟨p, lk, c5, o5, rfl, hp5, hpo5, by (first | lia | (first | lia | omega)), by (first | lia | (first | lia | omega)), by (first | lia | (first | lia | omega)), by (first | lia | (first | lia | omega)), fun z c6 o6 z0 z1 g11 g12 hpo6 => ?_⟩
                  obtain ⟨zn, rfl⟩ : ∃ n : Nat, z = (n : Int) := ⟨z.toNat, by (first | lia | (first | lia | omega))⟩
                  refine ⟨1, _, rfl, rfl, ?_⟩
                  have hk6 : At p (upd H5 p o6) kA (.lst (ks.map V.str)) := hk5.on But.upd
                  refine ⟨p, kA, 1 + zn, c6, ks, congrArg (fun z => [V.ref p, V.ref kA, V.int z]) (show (1 + (zn : Int)) = ((1 + zn : Nat) : Int) by (first | lia | (first | lia | omega))), ⟨o6, upd_same, hpo6⟩, hk6.1, hkn, by (first | lia | (first | lia | omega)), by (first | lia | (first | lia | omega)), by (first | lia | (first | lia | omega)), by (first | lia | (first | lia | omega)), fun l ss c7 H7 nl hsl hsm hl7 hp7 g13 g14 b7 => ?_⟩
                  refine ⟨l, ss, rfl, SqL.of hl7, by (first | lia | (first | lia | omega)), fun dA ds nd hpm hso => ?_⟩
                  have npl : p ≠ l := ne_of_none (show (upd H5 p o6) p = some o6 from upd_same) nl
                  obtain ⟨o7, hp7', hpo7⟩ := hp7
                  have npd : p ≠ dA := ne_of_none hp7' nd
                  have b57 : But p H5 H7 := But.upd.trans b7
                  refine ⟨dA, ds, c7, rfl, ⟨upd_same, Ne.symm npd⟩, b57.free (Ne.symm npd) nd, fun k hk => hsm k (hpm.mem_iff.mp hk), by rw [hpm.length_eq]; (first | lia | (first | lia | omega)), by rw [hpm.length_eq]; (first | lia | (first | lia | omega)), sortedS_pairwise hso, ⟨o7, by rw [upd_ne npd]; exact hp7', hpo7⟩, by (first | lia | (first | lia | omega)), by (first | lia | (first | lia | omega)), fun b u hb e => by rw [upd_ne (ne_of_none (b57 b u hb e) nd)]; exact b57 b u hb e⟩
              · rintro σ H5 ⟨x8, x9, x10, sp, c5, vs, rs, ws, q, rfl, hW, hwf, hrl, hro, hs0, hs1, hs2, hs3, hp5, g9, g10, b5⟩
                exact ⟨x8, x9, x10, sp, c5, vs, rs, ws, rfl, hW, hwf, hrl, hro, by (first | lia | (first | lia | omega)), hp5, g9, g10, b5⟩
          · refine ⟨by show 3 ≤ sizeLine; decide, fun l1 n1 => ?_⟩
            have np1 : p ≠ l1 := ne_of_none hp3 n1
            first | refine tvE rfl ?_ | refine ⟨_, rfl, ?_⟩
            refine ⟨p, 3, c3, o3, rfl, by rw [upd_ne np1]; exact hp3, hpo3, by decide, by decide, by (first | lia | (first | lia | omega)), by (first | lia | (first | lia | omega)), fun r c4 o4 r0 r1 h1 h2 hpo4 => ?_⟩
            obtain ⟨m, hm, ha⟩ := menu (xs := [2, 3, 4]) r0 r1
            refine ⟨l1, _, r, .int m, rfl, rfl, SqL.of (by rw [upd_ne (Ne.symm np1), upd_same]; rfl), ha, ?_⟩
            simp only [List.mem_cons, List.not_mem_nil, or_false] at hm
            exact ⟨m, c4, rfl, by (first | lia | (first | lia | omega)), by (first | lia | (first | lia | omega)), ⟨o4, upd_same, hpo4⟩, by (first | lia | (first | lia | omega)), by (first | lia | (first | lia | omega)), fun b u hb e => by rw [upd_ne hb, upd_ne (ne_of_none (b3 b u hb e) n1)]; exact b3 b u hb e⟩
        · refine ⟨by show 4 ≤ sizeLine; decide, fun l1 n1 => ?_⟩
          have np1 : p ≠ l1 := ne_of_none hp2 n1
          first | refine tvE rfl ?_ | refine ⟨_, rfl, ?_⟩
          refine ⟨p, 4, c2, o2, rfl, by rw [upd_ne np1]; exact hp2, hpo2, by decide, by decide, by (first | lia | (first | lia | omega)), by (first | lia | (first | lia | omega)), fun r c4 o4 r0 r1 h1 h2 hpo4 => ?_⟩
          obtain ⟨m, hm, ha⟩ := menu (xs := [1, 1, 2, 4]) r0 r1
          refine ⟨l1, _, r, .int m, rfl, rfl, SqL.of (by rw [upd_ne (Ne.symm np1), upd_same]; rfl), ha, ?_⟩
          simp only [List.mem_cons, List.not_mem_nil, or_false] at hm
          exact ⟨m, c4, rfl, by (first | lia | (first | lia | omega)), by (first | lia | (first | lia | omega)), ⟨o4, upd_same, hpo4⟩, by (first | lia | (first | lia | omega)), by (first | lia | (first | lia | omega)), fun b u hb e => by rw [upd_ne hb, upd_ne (ne_of_none (b2 b u hb e) n1)]; exact b2 b u hb e⟩
      · first | refine tvE rfl ?_ | refine ⟨_, rfl, ?_⟩
        first | refine tvE rfl ?_ | refine ⟨_, rfl, ?_⟩
        refine ⟨_, _, rfl, _, 1, rfl, rfl, ?_⟩
        have mi : 0 ≤ (if (8 : Int) < (most : Int) then (8 : Int) else (most : Int)) ∧ (if (8 : Int) < (most : Int) then (8 : Int) else (most : Int)) ≤ most := by split <;> (first | lia | (first | lia | omega))
        refine ⟨p, _, c1, o1, rfl, hp1, hpo1, by (first | lia | (first | lia | omega)), by (first | lia | (first | lia | omega)), by (first | lia | (first | lia | omega)), by (first | lia | (first | lia | omega)), fun a c2 o2 a0 a1 h1 h2 hpo2 => ?_⟩
        first | refine tvE rfl ?_ | refine ⟨_, rfl, ?_⟩
        first | refine tvE rfl ?_ | refine ⟨_, rfl, ?_⟩
        refine ⟨_, 1, rfl, rfl, p, _, c2, o2, rfl, upd_same, hpo2, by (first | lia | (first | lia | omega)), by (first | lia | (first | lia | omega)), by (first | lia | (first | lia | omega)), by (first | lia | (first | lia | omega)), fun b c3 o3 b0 b1' h3 h4 hpo3 => ?_⟩
        refine ⟨by show 2 ≤ sizeLine; decide, fun l1 n1 => ?_⟩
        have np1 : p ≠ l1 := ne_of_none (show (upd (upd H1 p o2) p o3) p = some o3 from upd_same) n1
        first | refine tvE rfl ?_ | refine ⟨_, rfl, ?_⟩
        refine ⟨p, 2, c3, o3, rfl, by rw [upd_ne np1]; exact upd_same, hpo3, by decide, by decide, by (first | lia | (first | lia | omega)), by (first | lia | (first | lia | omega)), fun r c4 o4 r0 r1 h5 h6 hpo4 => ?_⟩
        obtain ⟨m, hm, ha⟩ := menu (xs := [a, b]) r0 r1
        refine ⟨l1, _, r, .int m, rfl, rfl, SqL.of (by rw [upd_ne (Ne.symm np1), upd_same]; rfl), ha, ?_⟩
        simp only [List.mem_cons, List.not_mem_nil, or_false] at hm
        obtain ⟨mn, rfl⟩ : ∃ mn : Nat, m = (mn : Int) := ⟨m.toNat, by (first | lia | (first | lia | omega))⟩
        have n1' : H1 l1 = none := by
          rw [upd_ne (Ne.symm np1), upd_ne (Ne.symm np1)] at n1
          exact n1
        exact ⟨mn, c4, rfl, by (first | lia | (first | lia | omega)), ⟨o4, upd_same, hpo4⟩, by (first | lia | (first | lia | omega)), by (first | lia | (first | lia | omega)), fun b u hb e => by rw [upd_ne hb, upd_ne (ne_of_none e n1'), upd_ne hb, upd_ne hb]; exact e⟩
    · first | refine tvE rfl ?_ | refine ⟨_, rfl, ?_⟩
      first | refine tvE rfl ?_ | refine ⟨_, rfl, ?_⟩
      refine ⟨by show 4 ≤ sizeLine; decide, fun l1 n1 => ?_⟩
      have np1 : p ≠ l1 := ne_of_none hp n1
      first | refine tvE rfl ?_ | refine ⟨_, rfl, ?_⟩
      refine ⟨p, 4, c, o, rfl, by rw [upd_ne np1]; exact hp, hpo, by decide, by decide, by (first | lia | (first | lia | omega)), by (first | lia | (first | lia | omega)), fun r c1 o1 r0 r1 h1 h2 hpo1 => ?_⟩
      obtain ⟨m, hm, ha⟩ := menu (xs := [6, 6, 24, 60]) r0 r1
      have hm' : 1 ≤ m ∧ m ≤ 60 := by simp only [List.mem_cons, List.not_mem_nil, or_false] at hm; (first | lia | (first | lia | omega))
      refine ⟨l1, _, r, .int m, rfl, rfl, SqL.of (by rw [upd_ne (Ne.symm np1), upd_same]; rfl), ha, ?_⟩
      refine ⟨p, m, c1, o1, rfl, upd_same, hpo1, by (first | lia | (first | lia | omega)), by (first | lia | (first | lia | omega)), by (first | lia | (first | lia | omega)), by (first | lia | (first | lia | omega)), fun q c2 o2 q0 q1 h3 h4 hpo2 => ?_⟩
      obtain ⟨qn, rfl⟩ : ∃ qn : Nat, q = (qn : Int) := ⟨q.toNat, by (first | lia | (first | lia | omega))⟩
      refine ⟨1, _, rfl, rfl, ?_⟩
      have bb : But p H (upd (upd (upd H l1 (.lst [.int 6, .int 6, .int 24, .int 60])) p o1) p o2) := fun b u hb e => by rw [upd_ne hb, upd_ne hb, upd_ne (ne_of_none e n1)]; exact e
      refine ⟨p, 1 + qn, c2, congrArg (fun z => [V.ref p, V.int z]) (show (1 + (qn : Int)) = ((1 + qn : Nat) : Int) by (first | lia | (first | lia | omega))), ⟨o2, upd_same, hpo2⟩, by (first | lia | (first | lia | omega)), by (first | lia | (first | lia | omega)), by (first | lia | (first | lia | omega)), fun l ks c3 H' hl hkl hko hkn hl' hp' h5 h6 hb => ?_⟩
      refine ⟨l, ks, c3, rfl, ⟨hl', fun z => ?_⟩, (fun z => by rw [z] at hkl; simp at hkl; (first | lia | (first | lia | omega))), by (first | lia | (first | lia | omega)), hko, hp', by (first | lia | (first | lia | omega)), by (first | lia | (first | lia | omega)), bb.trans hb⟩
      subst z
      rw [upd_same] at hl
      cases hl
end
end K7
set_option Elab.async false
set_option linter.all false
set_option maxRecDepth 100000
set_option maxHeartbeats 4000000
namespace K7
open PySem L2 PyProof.Rows
mutual
def okD : PyData → Bool
  | .none | .bool _ => true
  | .int i => decide (0 ≤ i ∧ i < 1000000)
  | .str x => x.cps.toList.all fun c => decide (c < 128)
  | .list xs | .tuple xs => okDs xs
  | .dict kvs => okKv kvs
def okDs : List PyData → Bool
  | [] => true
  | x :: xs => okD x && okDs xs
def okKv : List (PyData × PyData) → Bool
  | [] => true
  | (k, v) :: r => okD k && okD v && okKv r
end
mutual
theorem okD_short : ∀ d : PyData, okD d = true → d.leavesShort 13 = true ∧ d.showable = true
  | .none, _ => ⟨rfl, rfl⟩
  | .bool _, _ => ⟨rfl, rfl⟩
  | .int i, h => by
    simp only [okD, decide_eq_true_eq] at h
    refine ⟨?_, ?_⟩
    · simp only [PyData.leavesShort, decide_eq_true_eq]
      exact PyData.shown_int_le2 (by (first | lia | omega)) (by (first | lia | omega))
    · simp only [PyData.showable, decide_eq_true_eq]
      have hb : i.natAbs < 2 ^ 20 := by (first | lia | omega)
      by_cases h0 : i.natAbs = 0
      · rw [h0]; decide
      · exact Nat.lt_trans ((Nat.log2_lt h0).mpr hb) (by decide)
  | .str x, h => by
    simp only [okD, List.all_eq_true, decide_eq_true_eq] at h
    refine ⟨?_, rfl⟩
    simp only [PyData.leavesShort, List.all_eq_true, decide_eq_true_eq]
    exact fun c hc => Nat.lt_of_lt_of_le (h c hc) (by decide)
  | .list xs, h => by
    simp only [okD] at h
    have z := okDs_short xs h
    exact ⟨by simp only [PyData.leavesShort]; exact z.1, by simp only [PyData.showable]; exact z.2⟩
  | .tuple xs, h => by
    simp only [okD] at h
    have z := okDs_short xs h
    exact ⟨by simp only [PyData.leavesShort]; exact z.1, by simp only [PyData.showable]; exact z.2⟩
  | .dict kvs, h => by
    simp only [okD] at h
    have z := okKv_short kvs h
    exact ⟨by simp only [PyData.leavesShort]; exact z.1, by simp only [PyData.showable]; exact z.2⟩
theorem okDs_short : ∀ ds : List PyData, okDs ds = true → PyData.leavesShortAll 13 ds = true ∧ PyData.showableAll ds = true
  | [], _ => ⟨rfl, rfl⟩
  | x :: xs, h => by
    simp only [okDs, Bool.and_eq_true] at h
    have a := okD_short x h.1
    have b := okDs_short xs h.2
    simp only [PyData.leavesShortAll, PyData.showableAll, a.1, a.2, b.1, b.2]
    exact ⟨rfl, rfl⟩
theorem okKv_short : ∀ kvs : List (PyData × PyData), okKv kvs = true → PyData.leavesShortKv 13 kvs = true ∧ PyData.showableKv kvs = true
  | [], _ => ⟨rfl, rfl⟩
  | (k, v) :: r, h => by
    simp only [okKv, Bool.and_eq_true] at h
    have a := okD_short k h.1.1
    have b := okD_short v h.1.2
    have c := okKv_short r h.2
    simp only [PyData.leavesShortKv, PyData.showableKv, a.1, a.2, b.1, b.2, c.1, c.2]
    exact ⟨rfl, rfl⟩
end
structure Fine (n k : Nat) (d : PyData) : Prop where
  ok : okD d = true
  bulk : d.bulk ≤ n
  dep : d.depth ≤ k
structure Fines (n k : Nat) (ds : List PyData) : Prop where
  ok : okDs ds = true
  bulk : PyData.bulkAll ds ≤ n
  dep : PyData.depthAll ds ≤ k
theorem Fine.mono {n n' k k' : Nat} {d : PyData} (h : Fine n k d) (a : n ≤ n') (b : k ≤ k') : Fine n' k' d := ⟨h.ok, Nat.le_trans h.bulk a, Nat.le_trans h.dep b⟩
theorem Fines.mono {n n' k k' : Nat} {d : List PyData} (h : Fines n k d) (a : n ≤ n') (b : k ≤ k') : Fines n' k' d := ⟨h.ok, Nat.le_trans h.bulk a, Nat.le_trans h.dep b⟩
theorem Fine.lst {n k : Nat} {ds : List PyData} (h : Fines n k ds) : Fine n (k + 1) (.list ds) := ⟨by simp only [okD]; exact h.ok, by simp only [PyData.bulk]; exact h.bulk, by simp only [PyData.depth]; exact Nat.succ_le_succ h.dep⟩
theorem Fine.tup {n k : Nat} {ds : List PyData} (h : Fines n k ds) : Fine n (k + 1) (.tuple ds) := ⟨by simp only [okD]; exact h.ok, by simp only [PyData.bulk]; exact h.bulk, by simp only [PyData.depth]; exact Nat.succ_le_succ h.dep⟩
theorem Fine.ofLst {n k : Nat} {ds : List PyData} (h : Fine n k (.list ds)) : Fines n (k - 1) ds := by
  have a := h.ok; have b := h.bulk; have c := h.dep
  simp only [okD] at a
  simp only [PyData.bulk] at b
  simp only [PyData.depth] at c
  exact ⟨a, b, by (first | lia | omega)⟩
theorem Fine.ofTup {n k : Nat} {ds : List PyData} (h : Fine n k (.tuple ds)) : Fines n (k - 1) ds := by
  have a := h.ok; have b := h.bulk; have c := h.dep
  simp only [okD] at a
  simp only [PyData.bulk] at b
  simp only [PyData.depth] at c
  exact ⟨a, b, by (first | lia | omega)⟩
theorem Fines.nil {n k : Nat} : Fines n k [] := ⟨rfl, Nat.zero_le _, Nat.zero_le _⟩
theorem Fines.cons {n m k : Nat} {d : PyData} {ds : List PyData} (a : Fine n k d) (b : Fines m k ds) : Fines (n + 1 + m) k (d :: ds) := by
  refine ⟨by simp only [okDs, a.ok, b.ok]; rfl, ?_, ?_⟩
  · have := a.bulk; have := b.bulk; simp only [PyData.bulkAll]; (first | lia | omega)
  · have := a.dep; have := b.dep; simp only [PyData.depthAll]; (first | lia | omega)
theorem bulk_app : ∀ a b : List PyData, PyData.bulkAll (a ++ b) = PyData.bulkAll a + PyData.bulkAll b
  | [], b => by simp [PyData.bulkAll]
  | x :: a, b => by simp only [List.cons_append, PyData.bulkAll, bulk_app a b]; (first | lia | omega)
theorem dep_app : ∀ a b : List PyData, PyData.depthAll (a ++ b) = max (PyData.depthAll a) (PyData.depthAll b)
  | [], b => by simp [PyData.depthAll]
  | x :: a, b => by simp only [List.cons_append, PyData.depthAll, dep_app a b]; (first | lia | omega)
theorem ok_app : ∀ a b : List PyData, okDs (a ++ b) = (okDs a && okDs b)
  | [], b => by simp [okDs]
  | x :: a, b => by simp only [List.cons_append, okDs, ok_app a b, Bool.and_assoc]
theorem Fines.app {n m k : Nat} {a b : List PyData} (x : Fines n k a) (y : Fines m k b) : Fines (n + m) k (a ++ b) := by
  refine ⟨by rw [ok_app, x.ok, y.ok]; rfl, ?_, ?_⟩
  · rw [bulk_app]; exact Nat.add_le_add x.bulk y.bulk
  · rw [dep_app]; have := x.dep; have := y.dep; (first | lia | omega)
theorem Fines.mem {n k : Nat} : ∀ {ds : List PyData} {d : PyData}, Fines n k ds → d ∈ ds → Fine n k d
  | x :: ds, d, h, m => by
    have a := h.ok; have b := h.bulk; have c := h.dep
    simp only [okDs, Bool.and_eq_true] at a
    simp only [PyData.bulkAll] at b
    simp only [PyData.depthAll] at c
    rcases List.mem_cons.mp m with z | z
    · subst z; exact ⟨a.1, by (first | lia | omega), by (first | lia | omega)⟩
    · exact Fines.mem (ds := ds) ⟨a.2, by (first | lia | omega), by (first | lia | omega)⟩ z
theorem Fines.len {n k : Nat} : ∀ {ds : List PyData}, Fines n k ds → ds.length ≤ n
  | [], _ => Nat.zero_le _
  | x :: ds, h => by
    have a := h.ok; have b := h.bulk; have c := h.dep
    simp only [okDs, Bool.and_eq_true] at a
    simp only [PyData.bulkAll] at b
    simp only [PyData.depthAll] at c
    have z := Fines.len (n := n - 1) (k := k) (ds := ds) ⟨a.2, by (first | lia | omega), by (first | lia | omega)⟩
    rw [List.length_cons]
    (first | lia | omega)
theorem Fines.strs {m : Nat} : ∀ {ks : List Str}, (∀ x ∈ ks, x.length ≤ m ∧ ∀ c ∈ x.cps.toList, c < 128) → Fines ((m + 1) * ks.length) 0 (ks.map PyData.str)
  | [], _ => Fines.nil
  | x :: ks, h => by
    have a := h x List.mem_cons_self
    have b := Fines.strs (m := m) (ks := ks) fun y hy => h y (List.mem_cons_of_mem _ hy)
    have f : Fine m 0 (.str x) := ⟨by simp only [okD, List.all_eq_true, decide_eq_true_eq]; exact a.2, a.1, Nat.le_refl _⟩
    refine (Fines.cons f b).mono ?_ (Nat.le_refl _)
    rw [List.length_cons, Nat.mul_succ]
    (first | lia | omega)
theorem Fine.str {m : Nat} {x : Str} (h : x.length ≤ m) (a : ∀ c ∈ x.cps.toList, c < 128) : Fine m 0 (.str x) := ⟨by simp only [okD, List.all_eq_true, decide_eq_true_eq]; exact a, h, Nat.le_refl _⟩
def kindD : PyData → Bool
  | .str z => decide (1 ≤ z.length ∧ z.length ≤ 4) && z.cps.toList.all fun c => decide (97 ≤ c ∧ c ≤ 122)
  | _ => false
def kindsD : PyData → Bool
  | .list ds => ds.all kindD
  | _ => false
def texts : List PyData → List Str
  | [] => []
  | .str z :: r => z :: texts r
  | _ :: r => texts r
open Classical in
noncomputable def sortD (ss : List Str) : Bool := decide (ss.Pairwise leS)
noncomputable def locksD : PyData → Bool
  | .list ds => ds.all kindD && (decide (1 ≤ ds.length ∧ ds.length ≤ 4) && sortD (texts ds))
  | _ => false
noncomputable def roomD : PyData → Bool
  | .tuple [a, b] => locksD a && kindsD b
  | _ => false
noncomputable def houseD : PyData → Bool
  | .tuple [a, .list rs] => kindsD a && rs.all roomD
  | _ => false
def tyD : PyData → String
  | .none => "NoneType"
  | .bool _ => "bool"
  | .int _ => "int"
  | .str _ => "str"
  | .list _ => "list"
  | .tuple _ => "tuple"
  | .dict _ => "dict"
theorem see_ty {K : PySem.W.Frag} {H : Hp} {v : V} {d : PyData} (s : See H v d) : TyOf K H v (.type (tyD d)) := by
  cases s with
  | non => exact .non
  | bl b => exact .bl b
  | int i => exact .int i
  | str x => exact .str x
  | lst e _ => exact .lst e
  | tup e _ => exact .tup e
  | dic e => exact .dK e
theorem kit_str (K : PySem.W.Frag) (d : PyData) : PySem.W.kitOne K (.type (tyD d)) (.type "str") = some (match d with | .str _ => true | _ => false) := by
  cases d <;> rfl
theorem kit_list (K : PySem.W.Frag) (d : PyData) : PySem.W.kitOne K (.type (tyD d)) (.type "list") = some (match d with | .list _ => true | _ => false) := by
  cases d <;> rfl
theorem kit_tuple (K : PySem.W.Frag) (d : PyData) : PySem.W.kitOne K (.type (tyD d)) (.type "tuple") = some (match d with | .tuple _ => true | _ => false) := by
  cases d <;> rfl
theorem texts_kinds : ∀ {ds : List PyData}, ds.all kindD = true → ds = (texts ds).map PyData.str ∧ ∀ z ∈ texts ds, KindOk z
  | [], _ => ⟨rfl, fun _ h => nomatch h⟩
  | d :: ds, h => by
    simp only [List.all_cons, Bool.and_eq_true] at h
    obtain ⟨h1, h2⟩ := h
    obtain ⟨e, f⟩ := texts_kinds h2
    cases d with
    | str z =>
      simp only [kindD, Bool.and_eq_true, decide_eq_true_eq, List.all_eq_true] at h1
      simp only [texts, List.map_cons, ← e]
      refine ⟨trivial, fun y hy => ?_⟩
      rcases List.mem_cons.mp hy with q | q
      · subst q; exact ⟨h1.1.1, h1.1.2, h1.2⟩
      · exact f y q
    | _ => simp [kindD] at h1
theorem kinds_texts {ks : List Str} (h : ∀ z ∈ ks, KindOk z) : (ks.map PyData.str).all kindD = true ∧ texts (ks.map PyData.str) = ks := by
  induction ks with
  | nil => exact ⟨rfl, rfl⟩
  | cons z r ih =>
    obtain ⟨a, b⟩ := ih fun y hy => h y (List.mem_cons_of_mem _ hy)
    have hz := h z List.mem_cons_self
    refine ⟨?_, by simp only [List.map_cons, texts, b]⟩
    simp only [List.map_cons, List.all_cons, a, Bool.and_true, kindD, Bool.and_eq_true, decide_eq_true_eq, List.all_eq_true]
    exact ⟨⟨hz.1, hz.2.1⟩, hz.2.2⟩
theorem strs_eqv_iff : ∀ a b : List Str, PyData.eqvAll (a.map PyData.str) (b.map PyData.str) = true ↔ a = b
  | [], [] => by simp [PyData.eqvAll]
  | [], y :: b => by simp [PyData.eqvAll]
  | x :: a, [] => by simp [PyData.eqvAll]
  | x :: a, y :: b => by
    simp only [List.map_cons, PyData.eqvAll, PyData.eqv, Bool.and_eq_true, strs_eqv_iff a b, List.cons.injEq, beq_iff_eq]
open Classical in
theorem sort_eqv {ks ss : List Str} (h : ss.Pairwise leS) (p : ss.Perm ks) : PyData.eqv (.list (ks.map PyData.str)) (.list (ss.map PyData.str)) = sortD ks := by
  have z : PyData.eqv (.list (ks.map PyData.str)) (.list (ss.map PyData.str)) = PyData.eqvAll (ks.map PyData.str) (ss.map PyData.str) := rfl
  rw [z]
  unfold sortD
  by_cases hk : ks.Pairwise leS
  · rw [decide_eq_true hk, strs_eqv_iff]
    exact (sorted_one h hk p).symm
  · rw [decide_eq_false hk]
    cases e : PyData.eqvAll (ks.map PyData.str) (ss.map PyData.str) with
    | false => rfl
    | true => exact absurd ((strs_eqv_iff _ _).mp e ▸ h) hk
theorem vstrs {H : Hp} : ∀ {ks : List Str} {vs : List V}, SeeAll H vs (ks.map PyData.str) → vs = ks.map V.str
  | [], _, h => by cases h; rfl
  | z :: r, _, h => by
    cases h with
    | cons x y =>
      cases x
      rw [List.map_cons, vstrs y]
theorem two_of {H : Hp} {vs : List V} {ds : List PyData} (s : SeeAll H vs ds) (h : decide (V.int (vs.length : Int) = V.int 2) = true) : ∃ a b x y, vs = [a, b] ∧ ds = [x, y] ∧ See H a x ∧ See H b y := by
  have e := of_decide_eq_true h
  injection e with e
  cases s with
  | nil => simp at e
  | cons x r =>
    cases r with
    | nil => simp at e
    | cons y r2 =>
      cases r2 with
      | nil => exact ⟨_, _, _, _, rfl, rfl, x, y⟩
      | cons z r3 => simp only [List.length_cons] at e; (first | lia | omega)
theorem not_two {H : Hp} {vs : List V} {ds : List PyData} (s : SeeAll H vs ds) (h : ¬ decide (V.int (vs.length : Int) = V.int 2) = true) : ∀ x y, ds ≠ [x, y] := by
  rintro x y rfl
  have l := s.length
  exact h (by rw [l]; rfl)
theorem roomD_no {ds : List PyData} (h : ∀ x y, ds ≠ [x, y]) : roomD (.tuple ds) = false := by
  match ds, h with
  | [], _ => rfl
  | [_], _ => rfl
  | [x, y], h => exact absurd rfl (h x y)
  | _ :: _ :: _ :: _, _ => rfl
theorem houseD_no {ds : List PyData} (h : ∀ x y, ds ≠ [x, y]) : houseD (.tuple ds) = false := by
  match ds, h with
  | [], _ => rfl
  | [_], _ => rfl
  | [x, y], h => exact absurd rfl (h x y)
  | _ :: b :: _ :: _, _ => cases b <;> rfl
def spD (f : PyData → Bool) : Sp := fun vs H Q _ => ∃ (v : V) (d : PyData), vs = [v] ∧ See H v d ∧ Fine 1000000 12 d ∧ ∀ H', Same H H' → Q (.bl (f d)) H'
end K7
set_option Elab.async false
set_option linter.all false
set_option maxRecDepth 100000
set_option maxHeartbeats 4000000
namespace K7
open PySem L2 PyProof.Rows
theorem in_lettersD (c : Nat) (h : c < 128) : (!(Builtin.Str.occurrences lettersS ⟨#[c]⟩ 0 lettersS.length 1).isEmpty) = decide (97 ≤ c ∧ c ≤ 122) := by
  have all : ∀ k : _root_.Fin 128, (!(Builtin.Str.occurrences lettersS ⟨#[k.val]⟩ 0 lettersS.length 1).isEmpty) = decide (97 ≤ k.val ∧ k.val ≤ 122) := by decide +kernel
  exact all ⟨c, h⟩
theorem small6 {n : Nat} (h : n ≤ 1000000) : n < sizeLine := Nat.lt_of_le_of_lt h (by decide)
section
variable {P : Program} {w : World} {K : PySem.W.Frag} {mg : Str → Option Value} {base : Heap}
theorem D_kind {f : Addr} {fd : FuncData} (F : Fun K "is_kind" "is_kind" sKind f fd) (G : Glb mg) : FnOk P w K mg base CX0 1 f fd ["thing"] (spD kindD) := by
  obtain ⟨tl, hL⟩ := G.letters
  obtain ⟨tm, hM⟩ := G.most
  refine F.ok scKind (fun vs H Q E h => ?_) (fun cdv A outer s H vs Q E hr h => ?_)
  · obtain ⟨v, d, rfl, _⟩ := h
    rfl
  · obtain ⟨v, d, rfl, sd, fi, k⟩ := h
    obtain ⟨S, Cp⟩ := comp_of (X := (cxOf CX0 P w K mg base ["thing"] "is_kind" (defScope sKind) f cdv A outer s H E).nox) (outer := defScope sKind) (N := ["thing"]) rfl rfl ckKind
    refine ⟨_, pss_cons (ps_if (PW.pt (pw_or (pt_not (pt_val (pe_callB call_isinst rfl G.isi (by decide +kernel) (pa_cons (pv 0) (pa_cons (pe_bltn (v := .ty "str") (u := .type "str") rfl G.str (by decide +kernel) rfl) pa_nil)))))
          (pw_or1 (pt_not (pt_chain op_le op_le pe_int (pe_callB call_len_str rfl G.len PySem.boot_len (pa_cons (pv 0) pa_nil)) (pe_glob (v := .int 4) rfl hM ⟨tm, rfl⟩))))))
        (pss_one (ps_ret pe_bl)) pss_nil)
      (pss_one (ps_ret (pe_callB (call_all rfl) rfl G.all (by decide +kernel) (pa_cons (pe_lcomp (tg := .Name "sign" _) rfl S Cp (pi_str (pv 0))
        (fun C fp s₀ H₀ => pg_name (i := 0) nd2 rfl (Or.inl rfl) (.inr rfl)) (fun C fp s₀ H₀ => pif_nil)
        (fun C fp s₀ H₀ => pe_cmpR op_in_str (pv 0) (pe_glob (v := .str lettersS) rfl hL ⟨tl, rfl⟩) (by with_unfolding_all rfl))) pa_nil)))), ?_⟩
    have ty := see_ty (K := K) sd
    have kt := kit_str K d
    refine ⟨_, rfl, _, _, _, _, rfl, ty, kt, _, rfl, ?_⟩
    have no : kindD d = false → Q (.bl false) H := fun e => by
      have z := k H (Same.refl _)
      rw [e] at z
      exact z
    cases sd with
    | str z =>
      have zb := fi.bulk
      have zo := fi.ok
      simp only [PyData.bulk] at zb
      simp only [okD, List.all_eq_true, decide_eq_true_eq] at zo
      have zs : z.length ≤ sizeLine := Nat.le_of_lt (small6 zb)
      refine iteF ?_
      refine ⟨_, rfl, z, rfl, zs, 1, _, rfl, rfl, _, rfl, ?_⟩
      refine ite2 (fun h1 => ?_) (fun h1 => ?_)
      · refine ⟨_, 4, rfl, rfl, _, rfl, ?_⟩
        have g1 := of_decide_eq_true h1
        cases h2 : decide ((z.length : Int) ≤ 4) with
        | false =>
          have g2 := of_decide_eq_false h2
          refine iteT (no ?_)
          simp only [kindD, Bool.and_eq_false_iff, decide_eq_false_iff_not]
          exact .inl (by (first | lia | omega))
        | true =>
          have g2 := of_decide_eq_true h2
          refine iteF ?_
          dsimp only [tNext, tRet, tCB, tCons, tNil]
          refine lcomp_eq _ _ _ _ _ _ _ _ _ ?_
          refine ⟨_, rfl, z, rfl, ?_⟩
          intro D hD
          refine comp_str (fun i ys H2 => ys = ((z.cps.toList.take i).map fun c => decide (97 ≤ c ∧ c ≤ 122)).map V.bl ∧ H2 D = some (.lst ys) ∧ Same H H2) ⟨rfl, upd_same, fun b u e => by rw [upd_ne (ne_of_none e hD)]; exact e⟩ (fun i ys H2 ⟨_, h, _⟩ => h) ?_ ?_
          · rintro i ys H2 c hc ⟨rfl, hD2, sm⟩
            have hi : i < z.cps.size := (Array.getElem?_eq_some_iff.mp hc).1
            have hz : z.length = z.cps.size := rfl
            have hc2 : z.cps.toList[i]? = some c := by rw [Array.getElem?_toList]; exact hc
            refine turn_name rfl ?_
            refine ⟨_, rfl, _, _, rfl, rfl, hD2, by rw [List.length_map, List.length_map, List.length_take]; exact small6 (by (first | lia | omega)), nx hi ⟨?_, upd_same, fun b u e => ?_⟩⟩
            · rw [in_lettersD c (zo c (List.mem_of_getElem? hc2)), List.take_succ, hc2]
              simp
            · rw [upd_ne (ne_of_none e hD)]
              exact sm b u e
          · rintro ys H2 ⟨rfl, hD2, sm⟩
            refine ⟨D, _, rfl, SqL.of hD2, ?_⟩
            have z3 := k H2 sm
            have e3 : kindD (.str z) = (((z.cps.toList.take z.cps.size).map fun c => decide (97 ≤ c ∧ c ≤ 122)).all id) := by
              rw [List.take_of_length_le (by rw [Array.length_toList]; exact Nat.le_refl _), List.all_map]
              simp only [kindD]
              rw [decide_eq_true (by (first | lia | omega)), Bool.true_and]
              rfl
            rw [e3] at z3
            exact z3
      · refine ⟨_, rfl, iteT (no ?_)⟩
        simp only [kindD, Bool.and_eq_false_iff, decide_eq_false_iff_not]
        have g1 : ¬ (1 : Int) ≤ (z.length : Int) := fun q => h1 (decide_eq_true q)
        exact .inl (by (first | lia | omega))
    | _ => exact iteT (no rfl)
theorem D_kinds {f fK : Addr} {fd fdK : FuncData} (F : Fun K "are_kinds" "are_kinds" sKinds f fd) (GK : FnOk P w K mg base CX0 1 fK fdK ["thing"] (spD kindD)) (cK : Cal K mg "is_kind" ["thing"] fK fdK) (G : Glb mg) (mLi : mg "list" = none) : FnOk P w K mg base CX0 2 f fd ["thing"] (spD kindsD) := by
  refine F.ok scKinds (fun vs H Q E h => ?_) (fun cdv A outer s H vs Q E hr h => ?_)
  · obtain ⟨v, d, rfl, _⟩ := h
    rfl
  · obtain ⟨v, d, rfl, sd, fi, k⟩ := h
    obtain ⟨S, Cp⟩ := comp_of (X := (cxOf CX0 P w K mg base ["thing"] "are_kinds" (defScope sKinds) f cdv A outer s H E).nox) (outer := defScope sKinds) (N := ["thing"]) rfl rfl ckKinds
    refine ⟨_, pss_one (ps_ret (pe_and (pe_callB call_isinst rfl G.isi (by decide +kernel) (pa_cons (pv 0) (pa_cons (pe_bltn (v := .ty "list") (u := .type "list") rfl mLi (by decide +kernel) rfl) pa_nil)))
      (pe_one (pe_callB (call_all rfl) rfl G.all (by decide +kernel) (pa_cons (pe_lcomp (tg := .Name "kind" _) rfl S Cp (pi_list (pv 0))
        (fun C fp s₀ H₀ => pg_name (i := 0) nd3 rfl (Or.inl rfl) (.inr rfl)) (fun C fp s₀ H₀ => pif_nil)
        (fun C fp s₀ H₀ => pe_call GK hr rfl cK.mg cK.kp cK.b .nil pass0 (pa_cons (pv 0) pa_nil))) pa_nil))))), ?_⟩
    have ty := see_ty (K := K) sd
    have kt := kit_list K d
    refine ⟨_, rfl, _, _, _, _, rfl, ty, kt, _, rfl, ?_⟩
    have no : kindsD d = false → Q (.bl false) H := fun e => by
      have z := k H (Same.refl _)
      rw [e] at z
      exact z
    cases sd with
    | @lst a vs ds ha sa =>
      refine iteT ?_
      dsimp only [tNext, tRet, tCB, tCons, tNil]
      refine lcomp_eq _ _ _ _ _ _ _ _ _ ?_
      refine ⟨_, rfl, a, rfl, ⟨_, SqL.of ha⟩, ?_⟩
      intro D hD
      have fs := fi.ofLst
      have ll := fs.len
      have sl := sa.length
      refine comp_list (xs := vs) (fun i ys H2 => ys = ((ds.take i).map kindD).map V.bl ∧ i ≤ ds.length ∧ H2 D = some (.lst ys) ∧ Same H H2) ⟨rfl, Nat.zero_le _, upd_same, fun b u e => by rw [upd_ne (ne_of_none e hD)]; exact e⟩ (fun i ys H2 ⟨_, _, h, _⟩ => h) (fun i ys H2 ⟨_, _, _, sm⟩ => SqL.of (sm a _ ha)) ?_ ?_
      · rintro i ys H2 x hx ⟨rfl, hi0, hD2, sm⟩
        have hi : i < vs.length := (List.getElem?_eq_some_iff.mp hx).1
        obtain ⟨d, hd, sx⟩ := sa.get hx
        refine turn_name rfl ?_
        refine ⟨_, rfl, x, d, rfl, sx.same sm, (fs.mem (List.mem_of_getElem? hd)).mono (Nat.le_refl _) (by decide), fun H3 sm3 => ?_⟩
        refine ⟨sm3 D _ hD2, by rw [List.length_map, List.length_map, List.length_take]; exact small6 (by (first | lia | omega)), nx hi ⟨?_, by (first | lia | omega), upd_same, fun b u e => ?_⟩⟩
        · rw [List.take_succ, hd]
          simp
        · rw [upd_ne (ne_of_none e hD)]
          exact sm3 b u (sm b u e)
      · rintro ys H2 ⟨rfl, _, hD2, sm⟩
        refine ⟨D, _, rfl, SqL.of hD2, ?_⟩
        have z3 := k H2 sm
        have e3 : kindsD (.list ds) = (((ds.take vs.length).map kindD).all id) := by
          rw [sl, List.take_length, List.all_map]
          rfl
        rw [e3] at z3
        exact z3
    | _ => exact iteF (no rfl)
theorem D_locks {f fK : Addr} {fd fdK : FuncData} (F : Fun K "are_locks" "are_locks" sLocks f fd) (GK : FnOk P w K mg base CX0 2 fK fdK ["thing"] (spD kindsD)) (cK : Cal K mg "are_kinds" ["thing"] fK fdK) (mLe : mg "len" = none) (mSo : mg "sorted" = none) (hM : ∃ t, mg "MOST_LOCKS" = some (.int 4 t)) :
    FnOk P w K mg base CX0 3 f fd ["thing"] (spD locksD) := by
  obtain ⟨tm, hM⟩ := hM
  refine F.ok scLocks (fun vs H Q E h => ?_) (fun cdv A outer s H vs Q E hr h => ?_)
  · obtain ⟨v, d, rfl, _⟩ := h
    rfl
  · obtain ⟨v, d, rfl, sd, fi, k⟩ := h
    have hu := hu_of hr
    refine ⟨_, pss_one (ps_ret (pe_and (pe_call GK hr rfl cK.mg cK.kp cK.b .nil pass0 (pa_cons (pv 0) pa_nil))
      (pe_and (pe_chain op_le op_le pe_int (pe_callB call_len_seq rfl mLe PySem.boot_len (pa_cons (pv 0) pa_nil)) (pe_glob (v := .int 4) rfl hM ⟨tm, rfl⟩))
      (pe_one (pe_cmpR op_eqD (pv 0) (pe_callB call_sorted rfl mSo boot_sorted (pa_cons (pv 0) pa_nil)) (nomark _)))))), ?_⟩
    refine ⟨_, rfl, v, d, rfl, sd, fi, fun H1 s1 => ⟨_, rfl, ?_⟩⟩
    have no : locksD d = false → Q (.bl false) H1 := fun e => by
      have z := k H1 s1
      rw [e] at z
      exact z
    cases sd with
    | @lst a vs ds ha sa =>
      have kd : kindsD (.list ds) = ds.all kindD := rfl
      rw [kd]
      have sl := sa.length
      cases hk : ds.all kindD with
      | false =>
        refine iteF (no ?_)
        simp only [locksD, hk, Bool.false_and]
      | true =>
        refine iteT ?_
        obtain ⟨e, ok⟩ := texts_kinds hk
        generalize hks : texts ds = ks at *
        subst e
        have ha1 := s1 a _ ha
        have hv : vs = ks.map V.str := vstrs sa
        subst hv
        rw [List.length_map, List.length_map] at sl
        refine ⟨_, rfl, a, _, rfl, .inl (SqL.of ha1), 1, _, rfl, rfl, _, rfl, ?_⟩
        refine ite2 (fun h1 => ?_) (fun h1 => ?_)
        · have g1 := of_decide_eq_true h1
          rw [List.length_map] at g1
          refine ⟨_, 4, rfl, rfl, _, rfl, ?_⟩
          refine ite2 (fun h2 => ?_) (fun h2 => ?_)
          · have g2 := of_decide_eq_true h2
            rw [List.length_map] at g2
            refine ⟨_, rfl, _, rfl, a, ks, rfl, SqL.of ha1, by (first | lia | omega), fun l ss hl hp hs' => ?_⟩
            have ne : a ≠ l := ne_of_none ha1 hl
            have ok2 : ∀ q ∈ ss, KindOk q := fun q hq => ok q (hp.mem_iff.mp hq)
            refine ⟨.list (ks.map PyData.str), .list (ss.map PyData.str), .lst (by rw [upd_ne ne]; exact ha1) (SeesAll.strs ks), .lst upd_same (SeesAll.strs ss), strs_lay ok, strs_lay ok2, ?_, ?_⟩
            · show _ + min (PyData.depthAll (ks.map PyData.str) + 1) (PyData.depthAll (ss.map PyData.str) + 1) < cLine
              rw [strs_depth, strs_depth]
              exact hu
            · have z3 := k (upd H1 l (.lst (ss.map V.str))) fun b u e => by rw [upd_ne (ne_of_none (s1 b u e) hl)]; exact s1 b u e
              have e3 : locksD (.list (ks.map PyData.str)) = PyData.eqv (.list (ks.map PyData.str)) (.list (ss.map PyData.str)) := by
                rw [sort_eqv (sortedS_pairwise hs') hp]
                simp only [locksD, hk, hks, List.length_map, Bool.true_and]
                rw [decide_eq_true (by (first | lia | omega)), Bool.true_and]
              rw [e3] at z3
              exact z3
          · refine no ?_
            have g2 : ¬ ((ks.map V.str).length : Int) ≤ 4 := fun q => h2 (decide_eq_true q)
            rw [List.length_map] at g2
            simp only [locksD, hk, List.length_map, Bool.true_and, Bool.and_eq_false_iff, decide_eq_false_iff_not]
            exact .inl (by (first | lia | omega))
        · have g1 : ¬ (1 : Int) ≤ ((ks.map V.str).length : Int) := fun q => h1 (decide_eq_true q)
          rw [List.length_map] at g1
          refine ⟨_, rfl, iteF (no ?_)⟩
          simp only [locksD, hk, List.length_map, Bool.true_and, Bool.and_eq_false_iff, decide_eq_false_iff_not]
          exact .inl (by (first | lia | omega))
    | _ => exact iteF (no rfl)
theorem D_room {f fL fK : Addr} {fd fdL fdK : FuncData} (F : Fun K "is_room" "is_room" sRoom f fd) (GL : FnOk P w K mg base CX0 3 fL fdL ["thing"] (spD locksD)) (cL : Cal K mg "are_locks" ["thing"] fL fdL)
    (GK : FnOk P w K mg base CX0 2 fK fdK ["thing"] (spD kindsD)) (cK : Cal K mg "are_kinds" ["thing"] fK fdK) (mI : mg "isinstance" = none) (mLe : mg "len" = none) (mTu : mg "tuple" = none) : FnOk P w K mg base CX0 4 f fd ["thing"] (spD roomD) := by
  refine F.ok scRoom (fun vs H Q E h => ?_) (fun cdv A outer s H vs Q E hr h => ?_)
  · obtain ⟨v, d, rfl, _⟩ := h
    rfl
  · obtain ⟨v, d, rfl, sd, fi, k⟩ := h
    refine ⟨_, pss_one (ps_ret (pe_and (pe_callB call_isinst rfl mI (by decide +kernel) (pa_cons (pv 0) (pa_cons (pe_bltn (v := .ty "tuple") (u := .type "tuple") rfl mTu (by decide +kernel) rfl) pa_nil)))
      (pe_and (pe_cmpR op_eq (pe_callB call_len_seq rfl mLe PySem.boot_len (pa_cons (pv 0) pa_nil)) pe_int (nomark _))
      (pe_and (pe_call GL hr rfl cL.mg cL.kp cL.b .nil pass0 (pa_cons (pe_ix ix_tup (pv 0) pe_int (fun _ _ => rfl)) pa_nil))
      (pe_one (pe_call GK (hr.mono (by decide)) rfl cK.mg cK.kp cK.b .nil pass0 (pa_cons (pe_ix ix_tup (pv 0) pe_int (fun _ _ => rfl)) pa_nil))))))), ?_⟩
    have ty := see_ty (K := K) sd
    have kt := kit_tuple K d
    refine ⟨_, rfl, _, _, _, _, rfl, ty, kt, _, rfl, ?_⟩
    have no : roomD d = false → Q (.bl false) H := fun e => by
      have z := k H (Same.refl _)
      rw [e] at z
      exact z
    cases sd with
    | @tup t vs ds ht sa =>
      refine iteT ?_
      refine ⟨_, rfl, t, _, rfl, .inr (SqT.of ht), rfl, _, rfl, ?_⟩
      refine ite2 (fun h2 => ?_) (fun h2 => ?_)
      · obtain ⟨a, b, x, y, rfl, rfl, sx, sy⟩ := two_of sa h2
        have fs := fi.ofTup
        have fx : Fine 1000000 12 x := (fs.mem List.mem_cons_self).mono (Nat.le_refl _) (by decide)
        have fy : Fine 1000000 12 y := (fs.mem (List.mem_cons_of_mem _ List.mem_cons_self)).mono (Nat.le_refl _) (by decide)
        refine ⟨_, rfl, t, _, 0, a, rfl, rfl, SqT.of ht, rfl, a, x, rfl, sx, fx, fun H1 s1 => ⟨_, rfl, ?_⟩⟩
        cases hl : locksD x with
        | false =>
          refine iteF ?_
          have z := k H1 s1
          simp only [roomD, hl, Bool.false_and] at z
          exact z
        | true =>
          refine iteT ?_
          refine ⟨_, rfl, t, _, 1, b, rfl, rfl, SqT.of (s1 _ _ ht), rfl, b, y, rfl, sy.same s1, fy, fun H2 s2 => ?_⟩
          have z := k H2 (s1.trans s2)
          simp only [roomD, hl, Bool.true_and] at z
          exact z
      · exact no (roomD_no (not_two sa h2))
    | _ => exact iteF (no rfl)
theorem D_house {f fR fK : Addr} {fd fdR fdK : FuncData} (F : Fun K "is_house" "is_house" sHouse f fd) (GR : FnOk P w K mg base CX0 4 fR fdR ["thing"] (spD roomD)) (cR : Cal K mg "is_room" ["thing"] fR fdR)
    (GK : FnOk P w K mg base CX0 2 fK fdK ["thing"] (spD kindsD)) (cK : Cal K mg "are_kinds" ["thing"] fK fdK) (mI : mg "isinstance" = none) (mLe : mg "len" = none) (mTu : mg "tuple" = none) (mLi : mg "list" = none) (mAl : mg "all" = none) : FnOk P w K mg base CX0 5 f fd ["thing"] (spD houseD) := by
  refine F.ok scHouse (fun vs H Q E h => ?_) (fun cdv A outer s H vs Q E hr h => ?_)
  · obtain ⟨v, d, rfl, _⟩ := h
    rfl
  · obtain ⟨v, d, rfl, sd, fi, k⟩ := h
    obtain ⟨S, Cp⟩ := comp_of (X := (cxOf CX0 P w K mg base ["thing", "keys", "rooms"] "is_house" (defScope sHouse) f cdv A outer s H E).nox) (outer := defScope sHouse) (N := ["thing", "keys", "rooms"]) rfl rfl ckHouse
    refine ⟨_, pss_cons (ps_if (PW.pt (pw_or (pt_not (pt_val (pe_callB call_isinst rfl mI (by decide +kernel) (pa_cons (pv 0) (pa_cons (pe_bltn (v := .ty "tuple") (u := .type "tuple") rfl mTu (by decide +kernel) rfl) pa_nil)))))
          (pw_or1 (pt_cmpR op_ne (pe_callB call_len_seq rfl mLe PySem.boot_len (pa_cons (pv 0) pa_nil)) pe_int (nomark _)))))
        (pss_one (ps_ret pe_bl)) pss_nil)
      (pss_cons (ps_asg (pv 0) (pg_tup rfl (pgs_cons (pg_name (i := 1) scHouse.nd rfl (Or.inl rfl)) (pgs_cons (pg_name (i := 2) scHouse.nd rfl (Or.inl rfl)) pgs_nil))))
      (pss_one (ps_ret (pe_and (pe_call GK (hr.mono (by decide)) rfl cK.mg cK.kp cK.b .nil pass0 (pa_cons (pv 1) pa_nil))
        (pe_and (pe_callB call_isinst rfl mI (by decide +kernel) (pa_cons (pv 2) (pa_cons (pe_bltn (v := .ty "list") (u := .type "list") rfl mLi (by decide +kernel) rfl) pa_nil)))
        (pe_one (pe_callB (call_all rfl) rfl mAl (by decide +kernel) (pa_cons (pe_lcomp (tg := .Name "room" _) rfl S Cp (pi_list (pv 2))
          (fun C fp s₀ H₀ => pg_name (i := 0) nd4 rfl (Or.inl rfl) (.inr rfl)) (fun C fp s₀ H₀ => pif_nil)
          (fun C fp s₀ H₀ => pe_call GR hr rfl cR.mg cR.kp cR.b .nil pass0 (pa_cons (pv 0) pa_nil))) pa_nil)))))))), ?_⟩
    have ty := see_ty (K := K) sd
    have kt := kit_tuple K d
    refine ⟨_, rfl, _, _, _, _, rfl, ty, kt, _, rfl, ?_⟩
    have no : houseD d = false → Q (.bl false) H := fun e => by
      have z := k H (Same.refl _)
      rw [e] at z
      exact z
    cases sd with
    | @tup t vs ds ht sa =>
      refine iteF ?_
      refine ⟨_, rfl, t, _, rfl, .inr (SqT.of ht), rfl, _, rfl, ?_⟩
      by_cases h2 : decide (V.int (vs.length : Int) = V.int 2) = true
      · obtain ⟨a, b, x, y, rfl, rfl, sx, sy⟩ := two_of sa h2
        have fs := fi.ofTup
        have fx : Fine 1000000 12 x := (fs.mem List.mem_cons_self).mono (Nat.le_refl _) (by decide)
        have fy : Fine 1000000 11 y := (fs.mem (List.mem_cons_of_mem _ List.mem_cons_self)).mono (Nat.le_refl _) (by decide)
        refine iteF ?_
        refine ⟨_, rfl, t, _, rfl, SqT.of ht, rfl, _, _, rfl, _, _, rfl, rfl, ?_⟩
        refine ⟨_, rfl, a, x, rfl, sx, fx, fun H1 s1 => ⟨_, rfl, ?_⟩⟩
        cases hk : kindsD x with
        | false =>
          refine iteF ?_
          have z := k H1 s1
          have e : houseD (.tuple [x, y]) = false := by cases y <;> simp only [houseD, hk, Bool.false_and]
          rw [e] at z
          exact z
        | true =>
          refine iteT ?_
          have sy1 := sy.same s1
          have ty := see_ty (K := K) sy1
          have kt := kit_list K y
          refine ⟨_, rfl, _, _, _, _, rfl, ty, kt, _, rfl, ?_⟩
          have no : houseD (.tuple [x, y]) = false → Q (.bl false) H1 := fun e => by
            have z := k H1 s1
            rw [e] at z
            exact z
          clear ty kt sy
          cases sy1 with
          | @lst r us rs hr' sr =>
            refine iteT ?_
            dsimp only [tNext, tRet, tCB, tCons, tNil]
            refine lcomp_eq _ _ _ _ _ _ _ _ _ ?_
            refine ⟨_, rfl, r, rfl, ⟨_, SqL.of hr'⟩, ?_⟩
            intro D hD
            have fr := fy.ofLst
            have ll := fr.len
            have sl := sr.length
            refine comp_list (xs := us) (fun i ys H2 => ys = ((rs.take i).map roomD).map V.bl ∧ i ≤ rs.length ∧ H2 D = some (.lst ys) ∧ Same H1 H2) ⟨rfl, Nat.zero_le _, upd_same, fun b u e => by rw [upd_ne (ne_of_none e hD)]; exact e⟩ (fun i ys H2 ⟨_, _, h, _⟩ => h) (fun i ys H2 ⟨_, _, _, sm⟩ => SqL.of (sm r _ hr')) ?_ ?_
            · rintro i ys H2 x hx ⟨rfl, hi0, hD2, sm⟩
              have hi : i < us.length := (List.getElem?_eq_some_iff.mp hx).1
              obtain ⟨d, hd, sx⟩ := sr.get hx
              refine turn_name rfl ?_
              refine ⟨_, rfl, x, d, rfl, sx.same sm, (fr.mem (List.mem_of_getElem? hd)).mono (Nat.le_refl _) (by decide), fun H3 sm3 => ?_⟩
              refine ⟨sm3 D _ hD2, by rw [List.length_map, List.length_map, List.length_take]; exact small6 (by (first | lia | omega)), nx hi ⟨?_, by (first | lia | omega), upd_same, fun b u e => ?_⟩⟩
              · rw [List.take_succ, hd]
                simp
              · rw [upd_ne (ne_of_none e hD)]
                exact sm3 b u (sm b u e)
            · rintro ys H2 ⟨rfl, _, hD2, sm⟩
              refine ⟨D, _, rfl, SqL.of hD2, ?_⟩
              have z3 := k H2 (s1.trans sm)
              have e3 : houseD (.tuple [x, .list rs]) = (((rs.take us.length).map roomD).all id) := by
                rw [sl, List.take_length, List.all_map]
                simp only [houseD, hk, Bool.true_and]
                rfl
              rw [e3] at z3
              exact z3
          | _ => exact iteF (no rfl)
      · have e : (!decide (V.int (vs.length : Int) = V.int 2)) = true := by
          cases q : decide (V.int (vs.length : Int) = V.int 2) with
          | true => exact absurd q h2
          | false => rfl
        exact ite2 (fun _ => no (houseD_no (not_two sa h2))) (fun q => absurd e q)
    | _ => exact iteT (no rfl)
end
end K7
set_option Elab.async false
set_option linter.all false
set_option maxRecDepth 100000
set_option maxHeartbeats 4000000
namespace K7
open PySem L2 PyProof.Rows Builtin.Str StrLaws
theorem takeWhile_all {α : Type} (f : α → Bool) : ∀ l : List α, l.all f = true → l.takeWhile f = l
  | [], _ => rfl
  | x :: r, h => by
    simp only [List.all_cons, Bool.and_eq_true] at h
    rw [List.takeWhile_cons, if_pos h.1, takeWhile_all f r h.2]
theorem takeWhile_lt {α : Type} (f : α → Bool) : ∀ l : List α, l.all f = false → (l.takeWhile f).length < l.length ∧ (l.drop (l.takeWhile f).length).all f = false
  | [], h => by simp at h
  | x :: r, h => by
    rw [List.takeWhile_cons]
    by_cases hx : f x = true
    · rw [if_pos hx]
      have h2 : r.all f = false := by simpa [hx] using h
      obtain ⟨a, b⟩ := takeWhile_lt f r h2
      exact ⟨by rw [List.length_cons, List.length_cons]; (first | lia | omega), by rw [List.length_cons, List.drop_succ_cons]; exact b⟩
    · rw [if_neg hx]
      refine ⟨by simp, ?_⟩
      have hx' : f x = false := by simpa using hx
      simp [hx']
theorem strip_all (z y : Str) (h1 : 1 ≤ z.length) : decide (V.str (Txt.stripChars z y) = V.str (Str.ofString "")) = z.cps.toList.all y.cps.contains := by
  have hl : z.cps.toList.length = z.length := by rw [Array.length_toList]; rfl
  have ne : ∀ x : Str, 1 ≤ x.length → decide (V.str x = V.str (Str.ofString "")) = false := fun x hx => decide_eq_false fun q => by
    injection q with q
    rw [q] at hx
    exact absurd hx (by decide)
  unfold Txt.stripChars Txt.stripBy
  cases ha : z.cps.toList.all y.cps.contains with
  | true =>
    have e0 : stripLo y.cps.contains true z = z.length := by
      unfold stripLo
      rw [if_pos rfl, takeWhile_all _ _ ha, hl]
    have e1 : stripSame y.cps.contains true true z = false := by
      unfold stripSame
      rw [e0]
      have : (z.length == 0) = false := beq_eq_false_iff_ne.mpr (by (first | lia | omega))
      rw [this, Bool.false_and]
    rw [e1, if_neg Bool.false_ne_true]
    unfold stripped
    rw [e0]
    have e2 : (strSub z z.length (stripHi y.cps.contains true z z.length)).cps.toList = [] := by
      rw [strSub_toList, List.drop_of_length_le (by rw [hl]; exact Nat.le_refl _), List.take_nil]
    refine decide_eq_true (congrArg V.str ?_)
    have e3 : (strSub z z.length (stripHi y.cps.contains true z z.length)).cps = #[] := Array.toList_inj.mp e2
    cases hs : strSub z z.length (stripHi y.cps.contains true z z.length) with
    | mk cps =>
      rw [hs] at e3
      have e4 : cps = #[] := e3
      rw [e4]
      rfl
  | false =>
    obtain ⟨a, b⟩ := takeWhile_lt _ _ ha
    have e0 : stripLo y.cps.contains true z = (z.cps.toList.takeWhile y.cps.contains).length := by
      unfold stripLo
      rw [if_pos rfl]
    cases hs : stripSame y.cps.contains true true z with
    | true => rw [if_pos rfl]; exact ne z h1
    | false =>
      rw [if_neg Bool.false_ne_true]
      apply ne
      unfold stripped
      rw [e0]
      generalize hlo : (z.cps.toList.takeWhile y.cps.contains).length = lo at *
      have b2 : ((z.cps.toList.drop lo).reverse).all y.cps.contains = false := by rw [List.all_reverse]; exact b
      obtain ⟨a2, _⟩ := takeWhile_lt _ _ b2
      rw [List.length_reverse, List.length_drop] at a2
      have e5 : (strSub z lo (stripHi y.cps.contains true z lo)).length = ((z.cps.toList.drop lo).take (stripHi y.cps.contains true z lo - lo)).length := by
        rw [← strSub_toList, Array.length_toList]; rfl
      rw [e5, List.length_take, List.length_drop]
      unfold stripHi
      rw [if_pos rfl]
      (first | lia | omega)
theorem in_lettersC (c : Nat) (h : c < 128) : (Str.ofString "abcdefghijklmnopqrstuvwxyz").cps.contains c = decide (97 ≤ c ∧ c ≤ 122) := by
  have all : ∀ k : _root_.Fin 128, (Str.ofString "abcdefghijklmnopqrstuvwxyz").cps.contains k.val = decide (97 ≤ k.val ∧ k.val ≤ 122) := by decide +kernel
  exact all ⟨c, h⟩
theorem all_congr {l : List Nat} {f g : Nat → Bool} (h : ∀ c ∈ l, f c = g c) : l.all f = l.all g := by
  induction l with
  | nil => rfl
  | cons x r ih => rw [List.all_cons, List.all_cons, h x List.mem_cons_self, ih fun c hc => h c (List.mem_cons_of_mem _ hc)]
theorem SeesAll.ones {H : Hp} : ∀ l : List PyData, SeesAll H (l.map fun _ => V.int 1) (l.map fun _ => PyData.int 1)
  | [] => .nil
  | _ :: r => .cons (.int 1) (SeesAll.ones r)
theorem ones_lay : ∀ l : List PyData, PyData.canLayAll0 (l.map fun _ => PyData.int 1) = true ∧ PyData.depthAll (l.map fun _ => PyData.int 1) = 0
  | [] => ⟨rfl, rfl⟩
  | _ :: r => by
    rw [List.map_cons]
    simp only [PyData.canLayAll0, PyData.canLay0, PyData.depthAll, PyData.depth, (ones_lay r).1, (ones_lay r).2]
    exact ⟨rfl, rfl⟩
theorem ones_nil : ∀ l : List PyData, PyData.eqv (.list (l.map fun _ => PyData.int 1)) (.list []) = l.isEmpty
  | [] => rfl
  | _ :: _ => rfl
theorem all_filter : ∀ ds : List PyData, ds.all kindD = (ds.filter fun d => !kindD d).isEmpty
  | [] => rfl
  | x :: r => by
    rw [List.all_cons, List.filter_cons, all_filter r]
    cases kindD x <;> simp
section
variable {P : Program} {w : World} {K : PySem.W.Frag} {mg : Str → Option Value} {base : Heap}
theorem sc__law_is_kind : FnScope ["thing"] ["thing"] (defScope st__law_is_kind) := ⟨rfl, rfl, rfl, by decide +kernel, rfl, by decide +kernel, by decide +kernel⟩
theorem sc__law_are_keys : FnScope ["thing"] ["thing"] (defScope st__law_are_keys) := ⟨rfl, rfl, rfl, by decide +kernel, rfl, by decide +kernel, by decide +kernel⟩
theorem nd__law_are_keys_0 : (["one"] : List Str).Nodup := by decide +kernel
theorem sc__law_is_house : FnScope ["thing", "room"] ["thing"] (defScope st__law_is_house) := ⟨rfl, rfl, rfl, by decide +kernel, rfl, by decide +kernel, by decide +kernel⟩
theorem L_kind {f : Addr} {fd : FuncData} (F : Fun K "_law_is_kind" "_law_is_kind" st__law_is_kind f fd) (m_isinstance : mg "isinstance" = none) (m_str : mg "str" = none) (m_len : mg "len" = none) : FnOk P w K mg base CX0 1 f fd ["thing"] (spD kindD) := by
  refine F.ok sc__law_is_kind (fun vs H Q E h => ?_) (fun cdv A outer s H vs Q E hr h => ?_)
  · obtain ⟨v, d, rfl, _⟩ := h
    rfl
  · obtain ⟨v, d, rfl, sd, fi, k⟩ := h
    refine ⟨_, (pss_cons (ps_if (PW.pt (pw_or (pt_not (pt_val (pe_callB call_isinst rfl m_isinstance (by decide +kernel) (pa_cons (pv 0) (pa_cons (pe_bltn (v := .ty "str") (u := .type "str") rfl m_str (by decide +kernel) rfl) pa_nil))))) (pw_or (pt_cmpR op_lt (pe_callB call_len_str rfl m_len PySem.boot_len (pa_cons (pv 0) pa_nil)) pe_int (nomark _)) (pw_or1 (pt_cmpR op_gt (pe_callB call_len_str rfl m_len PySem.boot_len (pa_cons (pv 0) pa_nil)) pe_int (nomark _))))))
        (pss_one (ps_ret pe_bl)) pss_nil)
      (pss_one (ps_ret (pe_cmpR op_eq (pe_bm PySem.F.plainAttrs_str PySem.F.slot_str_strip PySem.F.type_str_strip mt_strip (pv 0) (pa_cons pe_str pa_nil)) pe_str (nomark _))))), ?_⟩
    have ty := see_ty (K := K) sd
    have kt := kit_str K d
    refine ⟨_, rfl, _, _, _, _, rfl, ty, kt, _, rfl, ?_⟩
    have no : kindD d = false → Q (.bl false) H := fun e => by
      have z := k H (Same.refl _)
      rw [e] at z
      exact z
    cases sd with
    | str z =>
      have zb := fi.bulk
      have zo := fi.ok
      simp only [PyData.bulk] at zb
      simp only [okD, List.all_eq_true, decide_eq_true_eq] at zo
      have zs : z.length ≤ sizeLine := Nat.le_of_lt (small6 zb)
      refine iteF ?_
      refine ⟨_, rfl, z, rfl, zs, _, _, rfl, rfl, _, rfl, ?_⟩
      refine ite2 (fun h1 => ?_) (fun h1 => ?_)
      · have g1 := of_decide_eq_true h1
        refine no ?_
        simp only [kindD, Bool.and_eq_false_iff, decide_eq_false_iff_not]
        exact .inl (by (first | lia | omega))
      · have g1 : ¬ (z.length : Int) < 1 := fun q => h1 (decide_eq_true q)
        refine ⟨_, rfl, z, rfl, zs, _, _, rfl, rfl, _, rfl, ?_⟩
        refine ite2 (fun h2 => ?_) (fun h2 => ?_)
        · have g2 := of_decide_eq_true h2
          refine no ?_
          simp only [kindD, Bool.and_eq_false_iff, decide_eq_false_iff_not]
          exact .inl (by (first | lia | omega))
        · have g2 : ¬ (4 : Int) < (z.length : Int) := fun q => h2 (decide_eq_true q)
          refine ⟨_, rfl, rfl, z, _, rfl, rfl, zs, ?_⟩
          have z3 := k H (Same.refl _)
          have e3 : kindD (.str z) = decide (V.str (Txt.stripChars z (Str.ofString "abcdefghijklmnopqrstuvwxyz")) = V.str (Str.ofString "")) := by
            rw [strip_all z _ (by (first | lia | omega)), all_congr fun c hc => in_lettersC c (zo c hc)]
            simp only [kindD]
            rw [decide_eq_true (by (first | lia | omega)), Bool.true_and]
          rw [e3] at z3
          exact ⟨rfl, z3⟩
    | _ => exact iteT (no rfl)
theorem L_keys {f fK : Addr} {fd fdK : FuncData} (F : Fun K "_law_are_keys" "_law_are_keys" st__law_are_keys f fd) (G__law_is_kind : FnOk P w K mg base CX0 1 fK fdK ["thing"] (spD kindD)) (c__law_is_kind : Cal K mg "_law_is_kind" ["thing"] fK fdK) (m_isinstance : mg "isinstance" = none) (m_list : mg "list" = none) : FnOk P w K mg base CX0 2 f fd ["thing"] (spD kindsD) := by
  refine F.ok sc__law_are_keys (fun vs H Q E h => ?_) (fun cdv A outer s H vs Q E hr h => ?_)
  · obtain ⟨v, d, rfl, _⟩ := h
    rfl
  · obtain ⟨v, d, rfl, sd, fi, k⟩ := h
    have hu := hu_of hr
    refine ⟨_, (pss_one (ps_ret (pe_and (pe_callB call_isinst rfl m_isinstance (by decide +kernel) (pa_cons (pv 0) (pa_cons (pe_bltn (v := .ty "list") (u := .type "list") rfl m_list (by decide +kernel) rfl) pa_nil))) (pe_one (pe_cmpR op_eqD (pe_lc (tg := .Name "one" _) (outer := defScope (st__law_are_keys)) (N := ["thing"]) (N' := ["one"]) (nl := 1) (ix := []) rfl rfl rfl (pi_list (pv 0))
        (fun C fp s₀ H₀ => (pg_name (i := 0) nd__law_are_keys_0 rfl (Or.inl rfl) (.inr rfl))) (fun C fp s₀ H₀ => (pif_one (pt_not (pt_val (pe_call G__law_is_kind hr rfl c__law_is_kind.mg c__law_is_kind.kp c__law_is_kind.b .nil pass0 (pa_cons (pv 0) pa_nil))))))
        (fun C fp s₀ H₀ => pe_int)) (pe_lst pa_nil) (nomark _)))))), ?_⟩
    have ty := see_ty (K := K) sd
    have kt := kit_list K d
    refine ⟨_, rfl, _, _, _, _, rfl, ty, kt, _, rfl, ?_⟩
    have no : kindsD d = false → Q (.bl false) H := fun e => by
      have z := k H (Same.refl _)
      rw [e] at z
      exact z
    cases sd with
    | @lst a vs ds ha sa =>
      refine iteT ?_
      dsimp only [tNext, tRet, tCB, tCons, tNil, tOp]
      refine lcomp_eq _ _ _ _ _ _ _ _ _ ?_
      refine ⟨_, rfl, a, rfl, ⟨_, SqL.of ha⟩, ?_⟩
      intro D hD
      have fs := fi.ofLst
      have ll := fs.len
      have sl := sa.length
      refine comp_list (xs := vs) (fun i ys H2 => ys = ((ds.take i).filter fun d => !kindD d).map (fun _ => V.int 1) ∧ i ≤ ds.length ∧ H2 D = some (.lst ys) ∧ Same H H2) ⟨rfl, Nat.zero_le _, upd_same, fun b u e => by rw [upd_ne (ne_of_none e hD)]; exact e⟩ (fun i ys H2 ⟨_, _, h, _⟩ => h) (fun i ys H2 ⟨_, _, _, sm⟩ => SqL.of (sm a _ ha)) ?_ ?_
      · rintro i ys H2 x hx ⟨rfl, hi0, hD2, sm⟩
        have hi : i < vs.length := (List.getElem?_eq_some_iff.mp hx).1
        obtain ⟨d, hd, sx⟩ := sa.get hx
        have et : (ds.take (i + 1)).filter (fun d => !kindD d) = (ds.take i).filter (fun d => !kindD d) ++ (if kindD d = true then [] else [d]) := by
          rw [List.take_succ, hd, List.filter_append]
          cases hq : kindD d <;> simp [hq]
        have lf : ((ds.take i).filter fun d => !kindD d).length ≤ i := Nat.le_trans (List.length_filter_le _ _) (by rw [List.length_take]; (first | lia | omega))
        refine turn_test rfl ?_
        refine ⟨_, rfl, x, d, rfl, sx.same sm, (fs.mem (List.mem_of_getElem? hd)).mono (Nat.le_refl _) (by decide), fun H3 sm3 => ⟨_, rfl, ?_⟩⟩
        cases hk : kindD d with
        | true =>
          refine iteF (nx hi ⟨?_, by (first | lia | omega), sm3 D _ hD2, fun b u e => sm3 b u (sm b u e)⟩)
          rw [et, hk, if_pos rfl, List.append_nil]
        | false =>
          refine iteT ⟨sm3 D _ hD2, by rw [List.length_map]; exact small6 (by (first | lia | omega)), nx hi ⟨?_, by (first | lia | omega), upd_same, fun b u e => ?_⟩⟩
          · rw [et, hk, if_neg Bool.false_ne_true, List.map_append]
            rfl
          · rw [upd_ne (ne_of_none e hD)]
            exact sm3 b u (sm b u e)
      · rintro ys H2 ⟨rfl, _, hD2, sm⟩
        refine ⟨by show 0 ≤ sizeLine; exact Nat.zero_le _, fun l hl => ?_⟩
        have nl : D ≠ l := ne_of_none hD2 hl
        generalize hys : ((ds.take vs.length).filter fun d => !kindD d) = ys at *
        refine ⟨.list (ys.map fun _ => PyData.int 1), .list [], .lst (by rw [upd_ne nl]; exact hD2) (SeesAll.ones _), .lst upd_same .nil, (ones_lay _).1, rfl, ?_, ?_⟩
        · show _ + min (PyData.depthAll (ys.map fun _ => PyData.int 1) + 1) _ < cLine
          rw [(ones_lay _).2]
          exact Nat.lt_of_le_of_lt (Nat.add_le_add_left (Nat.min_le_left _ _) _) hu
        · have z3 := k (upd H2 l (.lst [])) fun b u e => by rw [upd_ne (ne_of_none (sm b u e) hl)]; exact sm b u e
          have e3 : kindsD (.list ds) = PyData.eqv (.list (ys.map fun _ => PyData.int 1)) (.list []) := by
            rw [ones_nil, ← hys, sl, List.take_length]
            simp only [kindsD]
            exact all_filter ds
          rw [e3] at z3
          exact z3
    | _ => exact iteF (no rfl)
theorem room_no {rs : List PyData} {a d : PyData} (m : d ∈ rs) (h : roomD d = false) : houseD (.tuple [a, .list rs]) = false := by
  simp only [houseD, Bool.and_eq_false_iff]
  exact .inr (List.all_eq_false.mpr ⟨d, m, by rw [h]; exact Bool.false_ne_true⟩)
theorem L_house {f fK : Addr} {fd fdK : FuncData} (F : Fun K "_law_is_house" "_law_is_house" st__law_is_house f fd) (G__law_are_keys : FnOk P w K mg base CX0 2 fK fdK ["thing"] (spD kindsD)) (c__law_are_keys : Cal K mg "_law_are_keys" ["thing"] fK fdK) (m_isinstance : mg "isinstance" = none) (m_len : mg "len" = none) (m_list : mg "list" = none) (m_sorted : mg "sorted" = none) (m_tuple : mg "tuple" = none) : FnOk P w K mg base CX0 3 f fd ["thing"] (spD houseD) := by
  refine F.ok sc__law_is_house (fun vs H Q E h => ?_) (fun cdv A outer s H vs Q E hr h => ?_)
  · obtain ⟨v, d, rfl, _⟩ := h
    rfl
  · obtain ⟨v, d, rfl, sd, fi, k⟩ := h
    have hu := hu_of hr
    refine ⟨_, (pss_cons (ps_if (PW.pt (pw_or (pt_not (pt_val (pe_callB call_isinst rfl m_isinstance (by decide +kernel) (pa_cons (pv 0) (pa_cons (pe_bltn (v := .ty "tuple") (u := .type "tuple") rfl m_tuple (by decide +kernel) rfl) pa_nil))))) (pw_or (pt_cmpR op_ne (pe_callB call_len_seq rfl m_len PySem.boot_len (pa_cons (pv 0) pa_nil)) pe_int (nomark _)) (pw_or1 (pt_not (pt_val (pe_call G__law_are_keys hr rfl c__law_are_keys.mg c__law_are_keys.kp c__law_are_keys.b .nil pass0 (pa_cons (pe_ix ix_tup (pv 0) pe_int (fun _ _ => rfl)) pa_nil))))))))
        (pss_one (ps_ret pe_bl)) pss_nil)
      (pss_cons (ps_if (pt_not (pt_val (pe_callB call_isinst rfl m_isinstance (by decide +kernel) (pa_cons (pe_ix ix_tup (pv 0) pe_int (fun _ _ => rfl)) (pa_cons (pe_bltn (v := .ty "list") (u := .type "list") rfl m_list (by decide +kernel) rfl) pa_nil)))))
        (pss_one (ps_ret pe_bl)) pss_nil)
      (pss_cons (ps_cut (ps_for PassesOwn.never rfl (pi_list (pe_ix ix_tup (pv 0) pe_int (fun _ _ => rfl))) (pg_name (i := 1) sc__law_is_house.nd rfl (Or.inl rfl))
        (pss_cons (ps_if (PW.pt (pw_or (pt_not (pt_val (pe_callB call_isinst rfl m_isinstance (by decide +kernel) (pa_cons (pv 1) (pa_cons (pe_bltn (v := .ty "tuple") (u := .type "tuple") rfl m_tuple (by decide +kernel) rfl) pa_nil))))) (pw_or (pt_cmpR op_ne (pe_callB call_len_seq rfl m_len PySem.boot_len (pa_cons (pv 1) pa_nil)) pe_int (nomark _)) (pw_or (pt_not (pt_val (pe_call G__law_are_keys hr rfl c__law_are_keys.mg c__law_are_keys.kp c__law_are_keys.b .nil pass0 (pa_cons (pe_ix ix_tup (pv 1) pe_int (fun _ _ => rfl)) pa_nil)))) (pw_or1 (pt_not (pt_val (pe_call G__law_are_keys hr rfl c__law_are_keys.mg c__law_are_keys.kp c__law_are_keys.b .nil pass0 (pa_cons (pe_ix ix_tup (pv 1) pe_int (fun _ _ => rfl)) pa_nil)))))))))
          (pss_one (ps_ret pe_bl)) pss_nil)
        (pss_one (ps_if (PW.pt (pw_or (pt_cmpR op_lt (pe_callB call_len_seq rfl m_len PySem.boot_len (pa_cons (pe_ix ix_tup (pv 1) pe_int (fun _ _ => rfl)) pa_nil)) pe_int (nomark _)) (pw_or (pt_cmpR op_gt (pe_callB call_len_seq rfl m_len PySem.boot_len (pa_cons (pe_ix ix_tup (pv 1) pe_int (fun _ _ => rfl)) pa_nil)) pe_int (nomark _)) (pw_or1 (pt_cmpR op_neD (pe_ix ix_tup (pv 1) pe_int (fun _ _ => rfl)) (pe_callB call_sorted rfl m_sorted boot_sorted (pa_cons (pe_ix ix_tup (pv 1) pe_int (fun _ _ => rfl)) pa_nil)) (nomark _))))))
          (pss_one (ps_ret pe_bl)) pss_nil)))))
      (pss_one (ps_ret pe_bl))))), ?_⟩
    have ty := see_ty (K := K) sd
    have kt := kit_tuple K d
    refine ⟨_, rfl, _, _, _, _, rfl, ty, kt, _, rfl, ?_⟩
    have no : ∀ H', Same H H' → houseD d = false → Q (.bl false) H' := fun H' s e => by
      have z := k H' s
      rw [e] at z
      exact z
    cases sd with
    | @tup t vs ds ht sa =>
      refine iteF ?_
      refine ⟨_, rfl, t, _, rfl, .inr (SqT.of ht), rfl, _, rfl, ?_⟩
      by_cases h2 : decide (V.int (vs.length : Int) = V.int 2) = true
      · obtain ⟨a, b, x, y, rfl, rfl, sx, sy⟩ := two_of sa h2
        have fs := fi.ofTup
        have fx : Fine 1000000 12 x := (fs.mem List.mem_cons_self).mono (Nat.le_refl _) (by decide)
        have fy : Fine 1000000 11 y := (fs.mem (List.mem_cons_of_mem _ List.mem_cons_self)).mono (Nat.le_refl _) (by decide)
        refine iteF ?_
        refine ⟨_, rfl, t, _, 0, a, rfl, rfl, SqT.of ht, rfl, a, x, rfl, sx, fx, fun H1 s1 => ⟨_, rfl, ?_⟩⟩
        cases hk : kindsD x with
        | false => exact iteT (no H1 s1 (by cases y <;> simp only [houseD, hk, Bool.false_and]))
        | true =>
          refine iteF ?_
          have sy1 := sy.same s1
          have ty := see_ty (K := K) sy1
          have kt := kit_list K y
          refine ⟨_, rfl, t, _, 1, b, rfl, rfl, SqT.of (s1 _ _ ht), rfl, _, _, _, _, rfl, ty, kt, _, rfl, ?_⟩
          clear ty kt sy
          cases sy1 with
          | @lst r us rs hr' sr =>
            refine iteF ?_
            have fr := fy.ofLst
            refine ⟨fun σ' H' => Same H H' ∧ rs.all roomD = true, ?_, ?_⟩
            rotate_left
            · refine ⟨_, rfl, t, _, 1, .ref r, rfl, rfl, SqT.of (s1 _ _ ht), rfl, r, rfl, ⟨_, SqL.of hr'⟩, ?_⟩
              refine for_list (xs := us) (fun i σ' H' => (∃ x1 : Option V, σ' = [some (.ref t), x1]) ∧ Same H1 H' ∧ (rs.take i).all roomD = true) ⟨⟨none, rfl⟩, Same.refl _, rfl⟩ (fun i σ H' _ ⟨_, sm, _⟩ => SqL.of (sm _ _ hr')) ?_ ?_
              · rintro i q σ H2 hq ⟨⟨x1, rfl⟩, sm, al⟩
                obtain ⟨d, hd, sq0⟩ := sr.get hq
                have dm : d ∈ rs := List.mem_of_getElem? hd
                have fd' : Fine 1000000 10 d := (fr.mem dm).mono (Nat.le_refl _) (by decide)
                have bad : ∀ H', Same H2 H' → roomD d = false → Q (.bl false) H' := fun H' s e => no H' (s1.trans (sm.trans s)) (room_no dm e)
                have good : ∀ H', Same H2 H' → roomD d = true → (∃ x1 : Option V, [some (.ref t), some q] = [some (.ref t), x1]) ∧ Same H1 H' ∧ (rs.take (i + 1)).all roomD = true := fun H' s e => by
                  refine ⟨⟨_, rfl⟩, sm.trans s, ?_⟩
                  rw [List.take_succ, hd, List.all_append, al]
                  simp [e]
                have sq := sq0.same sm
                have ty := see_ty (K := K) sq
                have kt := kit_tuple K d
                refine ⟨_, rfl, _, _, _, _, rfl, ty, kt, _, rfl, ?_⟩
                clear ty kt sq0
                cases sq with
                | @tup tt ws es htt se =>
                  refine iteF ?_
                  refine ⟨_, rfl, tt, _, rfl, .inr (SqT.of htt), rfl, _, rfl, ?_⟩
                  by_cases h3 : decide (V.int (ws.length : Int) = V.int 2) = true
                  · obtain ⟨aa, bb, xx, yy, rfl, rfl, sxx, syy⟩ := two_of se h3
                    have fss := fd'.ofTup
                    have fxx : Fine 1000000 12 xx := (fss.mem List.mem_cons_self).mono (Nat.le_refl _) (by decide)
                    have fyy : Fine 1000000 12 yy := (fss.mem (List.mem_cons_of_mem _ List.mem_cons_self)).mono (Nat.le_refl _) (by decide)
                    refine iteF ?_
                    refine ⟨_, rfl, tt, _, 0, aa, rfl, rfl, SqT.of htt, rfl, aa, xx, rfl, sxx, fxx, fun H3 s3 => ⟨_, rfl, ?_⟩⟩
                    cases hkx : kindsD xx with
                    | false =>
                      refine iteT (bad H3 s3 ?_)
                      have e0 : locksD xx = false := by
                        cases xx with
                        | list l =>
                          have e1 : l.all kindD = false := hkx
                          simp only [locksD, e1, Bool.false_and]
                        | _ => rfl
                      simp only [roomD, e0, Bool.false_and]
                    | true =>
                      refine iteF ?_
                      refine ⟨_, rfl, tt, _, 1, bb, rfl, rfl, SqT.of (s3 _ _ htt), rfl, bb, yy, rfl, syy.same s3, fyy, fun H4 s4 => ⟨_, rfl, ?_⟩⟩
                      cases hky : kindsD yy with
                      | false =>
                        refine iteT (bad H4 (s3.trans s4) ?_)
                        simp only [roomD, hky, Bool.and_false]
                      | true =>
                        refine iteF ?_
                        have e0 : roomD (.tuple [xx, yy]) = locksD xx := by simp only [roomD, hky, Bool.and_true]
                        rw [e0] at bad good
                        have s34 := s3.trans s4
                        have sx4 := sxx.same s34
                        have ht4 := s34 _ _ htt
                        clear sxx se
                        cases sx4 with
                        | @lst l vs ds hl sa2 =>
                          have hk2 : ds.all kindD = true := hkx
                          obtain ⟨e, ok⟩ := texts_kinds hk2
                          generalize hks : texts ds = ks at *
                          subst e
                          have hv : vs = ks.map V.str := vstrs sa2
                          subst hv
                          refine ⟨_, rfl, tt, _, 0, .ref l, rfl, rfl, SqT.of ht4, rfl, l, _, rfl, .inl (SqL.of hl), _, _, rfl, rfl, _, rfl, ?_⟩
                          refine ite2 (fun g1 => ?_) (fun g1 => ?_)
                          · have g1 := of_decide_eq_true g1
                            rw [List.length_map] at g1
                            refine bad H4 s34 ?_
                            simp only [locksD, hk2, List.length_map, Bool.true_and, Bool.and_eq_false_iff, decide_eq_false_iff_not]
                            exact .inl (by (first | lia | omega))
                          · have g1' : ¬ ((ks.map V.str).length : Int) < 1 := fun q => g1 (decide_eq_true q)
                            rw [List.length_map] at g1'
                            refine ⟨_, rfl, tt, _, 0, .ref l, rfl, rfl, SqT.of ht4, rfl, l, _, rfl, .inl (SqL.of hl), _, _, rfl, rfl, _, rfl, ?_⟩
                            refine ite2 (fun g2 => ?_) (fun g2 => ?_)
                            · have g2 := of_decide_eq_true g2
                              rw [List.length_map] at g2
                              refine bad H4 s34 ?_
                              simp only [locksD, hk2, List.length_map, Bool.true_and, Bool.and_eq_false_iff, decide_eq_false_iff_not]
                              exact .inl (by (first | lia | omega))
                            · have g2' : ¬ (4 : Int) < ((ks.map V.str).length : Int) := fun q => g2 (decide_eq_true q)
                              rw [List.length_map] at g2'
                              refine ⟨_, rfl, tt, _, 0, .ref l, rfl, rfl, SqT.of ht4, rfl, _, rfl, tt, _, 0, .ref l, rfl, rfl, SqT.of ht4, rfl, l, ks, rfl, SqL.of hl, by (first | lia | omega), fun o ss ho hp hs' => ?_⟩
                              have ne : l ≠ o := ne_of_none hl ho
                              have ok2 : ∀ q ∈ ss, KindOk q := fun q hq => ok q (hp.mem_iff.mp hq)
                              have s5 : Same H4 (upd H4 o (.lst (ss.map V.str))) := fun b u e => by rw [upd_ne (ne_of_none e ho)]; exact e
                              refine ⟨.list (ks.map PyData.str), .list (ss.map PyData.str), .lst (by rw [upd_ne ne]; exact hl) (SeesAll.strs ks), .lst upd_same (SeesAll.strs ss), strs_lay ok, strs_lay ok2, ?_, ?_⟩
                              · show _ + min (PyData.depthAll (ks.map PyData.str) + 1) (PyData.depthAll (ss.map PyData.str) + 1) < cLine
                                rw [strs_depth, strs_depth]
                                exact hu
                              · have e3 : PyData.eqv (.list (ks.map PyData.str)) (.list (ss.map PyData.str)) = locksD (.list (ks.map PyData.str)) := by
                                  rw [sort_eqv (sortedS_pairwise hs') hp]
                                  simp only [locksD, hk2, hks, List.length_map, Bool.true_and]
                                  rw [decide_eq_true (by (first | lia | omega)), Bool.true_and]
                                rw [if_pos rfl, e3]
                                refine ⟨_, rfl, ?_⟩
                                cases hl2 : locksD (.list (ks.map PyData.str)) with
                                | true => exact iteF (good _ (s34.trans s5) hl2)
                                | false => exact iteT (bad _ (s34.trans s5) hl2)
                        | _ => exact absurd hkx Bool.false_ne_true
                  · have e : (!decide (V.int (ws.length : Int) = V.int 2)) = true := by
                      cases q : decide (V.int (ws.length : Int) = V.int 2) with
                      | true => exact absurd q h3
                      | false => rfl
                    exact ite2 (fun _ => bad H2 (Same.refl _) (roomD_no (not_two se h3))) (fun q => absurd e q)
                | _ => exact iteT (bad H2 (Same.refl _) rfl)
              · rintro σ H2 ⟨⟨x1, rfl⟩, sm, al⟩
                rw [sr.length, List.take_length] at al
                exact ⟨s1.trans sm, al⟩
            · rintro σ H2 ⟨sm, al⟩
              have z := k H2 sm
              have e : houseD (.tuple [x, .list rs]) = true := by simp only [houseD, hk, al, Bool.and_self]
              rw [e] at z
              exact z
          | _ => exact iteT (no H1 s1 rfl)
      · have e : (!decide (V.int (vs.length : Int) = V.int 2)) = true := by
          cases q : decide (V.int (vs.length : Int) = V.int 2) with
          | true => exact absurd q h2
          | false => rfl
        exact ite2 (fun _ => no H (Same.refl _) (houseD_no (not_two sa h2))) (fun q => absurd e q)
    | _ => exact iteT (no H (Same.refl _) rfl)
end
end K7
set_option Elab.async false
set_option linter.all false
set_option maxRecDepth 100000
set_option maxHeartbeats 4000000
namespace K7
open PySem L2 PyProof.Rows
def hid (p : Addr) (S : List Addr) (H : Hp) : Hp := fun b => if b = p ∨ b ∈ S then none else H b
def Out (p : Addr) (S : List Addr) (b : Addr) : Prop := ¬ (b = p ∨ b ∈ S)
theorem Out.ne {p b : Addr} {S : List Addr} (h : Out p S b) : b ≠ p := fun e => h (.inl e)
theorem of_hid {p b : Addr} {S : List Addr} {H : Hp} {o : HO} (e : hid p S H b = some o) : Out p S b ∧ H b = some o := by
  unfold hid at e
  split at e
  · cases e
  · rename_i h; exact ⟨h, e⟩
theorem hid_get {p b : Addr} {S : List Addr} {H : Hp} {o : HO} (n : Out p S b) (e : H b = some o) : hid p S H b = some o := by
  unfold hid
  rw [if_neg n]
  exact e
theorem hid_same {p : Addr} {S : List Addr} {H : Hp} : Same (hid p S H) H := fun b o e => (of_hid e).2
theorem hid_but {p : Addr} {S : List Addr} {H H' : Hp} (x : But p H H') : Same (hid p S H) (hid p S H') := fun b o e => hid_get (of_hid e).1 (x b o (of_hid e).1.ne (of_hid e).2)
def PoolS (p : Addr) (S : List Addr) (H : Hp) (c : Int) : Prop := PoolAt H p c ∧ ∀ b ∈ S, H b ≠ none
theorem pool_ne {p q : Addr} {S : List Addr} {H : Hp} {c : Int} (h : PoolS p S H c) (n : H q = none) : Out p S q := by
  obtain ⟨⟨o, e, _⟩, t⟩ := h
  rintro (z | z)
  · rw [z, e] at n; cases n
  · exact t q z n
theorem pool_new {p q : Addr} {S : List Addr} {H : Hp} {c : Int} {o : HO} (h : PoolS p S H c) (n : H q = none) : PoolS p S (upd H q o) c := by
  have z := (pool_ne h n).ne
  obtain ⟨⟨o', e, i⟩, t⟩ := h
  refine ⟨⟨o', by rw [upd_ne (Ne.symm z)]; exact e, i⟩, fun b hb => ?_⟩
  by_cases hq : b = q
  · rw [hq, upd_same]; simp
  · rw [upd_ne hq]; exact t b hb
theorem pool_take {p : Addr} {S : List Addr} {H : Hp} {c c' : Int} {o : HO} (h : PoolS p S H c) (i : IsPool o c') : PoolS p S (upd H p o) c' := by
  refine ⟨⟨o, upd_same, i⟩, fun b hb => ?_⟩
  by_cases hq : b = p
  · rw [hq, upd_same]; simp
  · rw [upd_ne hq]; exact h.2 b hb
theorem but_new {p q : Addr} {H : Hp} {o : HO} (n : H q = none) : But p H (upd H q o) := (But.refl p H).new n
abbrev VR := V → Hp → Prop
def Stb (p : Addr) (R : VR) : Prop := ∀ v H H', But p H H' → R v H → R v H'
def isD (p : Addr) (S : List Addr) (n k : Nat) : VR := fun v H => ∃ d, See (hid p S H) v d ∧ Fine n k d
def isL (p : Addr) (S : List Addr) (n k lo : Nat) : VR := fun v H => ∃ (l : Addr) (vs : List V) (ds : List PyData), v = .ref l ∧ Out p S l ∧ H l = some (.lst vs) ∧ SeeAll (hid p S H) vs ds ∧ Fines n k ds ∧ lo ≤ vs.length
def TxtOk (m : Nat) (z : Str) : Prop := z.length ≤ m ∧ ∀ c ∈ z.cps.toList, c < 128
def isLS (p : Addr) (S : List Addr) (n lo : Nat) : VR := fun v H => ∃ (l : Addr) (ss : List Str), v = .ref l ∧ Out p S l ∧ H l = some (.lst (ss.map V.str)) ∧ ss.length ≤ n ∧ lo ≤ ss.length ∧ ∀ z ∈ ss, TxtOk 4 z
def isS (n : Nat) : VR := fun v _ => ∃ z, v = .str z ∧ TxtOk n z
def isI (hi : Int) : VR := fun v _ => ∃ i : Int, v = .int i ∧ 0 ≤ i ∧ i < hi
theorem stb_D {p : Addr} {S : List Addr} {n k : Nat} : Stb p (isD p S n k) := fun v H H' b ⟨d, s, f⟩ => ⟨d, s.same (hid_but b), f⟩
theorem stb_L {p : Addr} {S : List Addr} {n k lo : Nat} : Stb p (isL p S n k lo) := fun v H H' b ⟨l, vs, ds, e, np, h, s, f, g⟩ => ⟨l, vs, ds, e, np, b _ _ np.ne h, s.same (hid_but b), f, g⟩
theorem stb_LS {p : Addr} {S : List Addr} {n lo : Nat} : Stb p (isLS p S n lo) := fun v H H' b ⟨l, ss, e, np, h, r⟩ => ⟨l, ss, e, np, b _ _ np.ne h, r⟩
theorem stb_S {p : Addr} {n : Nat} : Stb p (isS n) := fun v H H' b x => x
theorem stb_I {p : Addr} {n : Int} : Stb p (isI n) := fun v H H' b x => x
theorem D_of_L {p : Addr} {S : List Addr} {n k lo : Nat} {v : V} {H : Hp} (x : isL p S n k lo v H) : isD p S n (k + 1) v H := by
  obtain ⟨l, vs, ds, rfl, np, h, s, f, g⟩ := x
  exact ⟨_, .lst (hid_get np h) s, .lst f⟩
theorem L_of_LS {p : Addr} {S : List Addr} {n lo : Nat} {v : V} {H : Hp} (x : isLS p S n lo v H) : isL p S (5 * n) 0 lo v H := by
  obtain ⟨l, ss, rfl, np, h, a, b, c⟩ := x
  exact ⟨l, _, _, rfl, np, h, SeeAll.strs ss, (Fines.strs (m := 4) c).mono (Nat.mul_le_mul_left _ a) (Nat.le_refl _), by rw [List.length_map]; exact b⟩
theorem D_of_S {p : Addr} {S : List Addr} {n : Nat} {v : V} {H : Hp} (x : isS n v H) : isD p S n 0 v H := by
  obtain ⟨z, rfl, t⟩ := x
  exact ⟨_, .str z, Fine.str t.1 t.2⟩
theorem D_mono {p : Addr} {S : List Addr} {n n' k k' : Nat} {v : V} {H : Hp} (x : isD p S n k v H) (a : n ≤ n') (b : k ≤ k') : isD p S n' k' v H := by
  obtain ⟨d, s, f⟩ := x
  exact ⟨d, s, f.mono a b⟩
theorem L_mono {p : Addr} {S : List Addr} {n n' k k' lo : Nat} {v : V} {H : Hp} (x : isL p S n k lo v H) (a : n ≤ n') (b : k ≤ k') : isL p S n' k' lo v H := by
  obtain ⟨l, vs, ds, e, np, h, s, f, g⟩ := x
  exact ⟨l, vs, ds, e, np, h, s, f.mono a b, g⟩
def Mk (p : Addr) (S : List Addr) (m : Nat) (R : VR) (te : TE) (σ : L2.St) (H : Hp) : Prop := ∀ (H1 : Hp) (c : Int), But p H H1 → PoolS p S H1 c → 0 ≤ c → c + m < 1000000 → ∀ Q : VK,
  (∀ v H' c', R v H' → But p H1 H' → PoolS p S H' c' → c ≤ c' → c' ≤ c + m → Q v H') → te σ H1 Q
def MkA (p : Addr) (S : List Addr) (m n k len : Nat) (ta : TA) (σ : L2.St) (H : Hp) : Prop := ∀ (H1 : Hp) (c : Int), But p H H1 → PoolS p S H1 c → 0 ≤ c → c + m < 1000000 → ∀ Q : List V → Hp → Prop,
  (∀ vs ds H' c', SeeAll (hid p S H') vs ds → Fines n k ds → vs.length = len → But p H1 H' → PoolS p S H' c' → c ≤ c' → c' ≤ c + m → Q vs H') → ta σ H1 Q
section
variable {p : Addr} {S : List Addr} {m m' n n' k lo lo' : Nat} {R R' : VR} {te ta tb : TE} {σ : L2.St} {H : Hp} {K : PySem.W.Frag}
theorem Mk.imp (x : Mk p S m R te σ H) (h : ∀ v H, R v H → R' v H) : Mk p S m R' te σ H := fun H1 c a b d e Q q => x H1 c a b d e Q fun v H' c' r => q v H' c' (h v H' r)
theorem mk_var {i : Nat} {v : V} (h : σ[i]? = some (some v)) (r : R v H) (st : Stb p R) : Mk p S 0 R (tVar i) σ H :=
  fun H1 c a b d e Q q => ⟨v, h, q v H1 c (st v H H1 a r) (But.refl _ _) b (Int.le_refl _) (by (first | lia | omega))⟩
theorem mk_c {v : V} (r : ∀ H, R v H) : Mk p S 0 R (tC v) σ H := fun H1 c a b d e Q q => q v H1 c (r H1) (But.refl _ _) b (Int.le_refl _) (by (first | lia | omega))
theorem mkA_nil : MkA p S 0 0 k 0 tNil σ H := fun H1 c a b d e Q q => q [] [] H1 c .nil Fines.nil rfl (But.refl _ _) b (Int.le_refl _) (by (first | lia | omega))
theorem mkA_cons {ta : TA} {len : Nat} (x : Mk p S m (isD p S n k) te σ H) (y : MkA p S m' n' k len ta σ H) : MkA p S (m + m') (n + 1 + n') k (len + 1) (tCons te ta) σ H := by
  intro H1 c a b d e Q q
  refine x H1 c a b d (by (first | lia | omega)) _ fun v H2 c2 ⟨dd, s, f⟩ b2 p2 u w => ?_
  refine y H2 c2 (a.trans b2) p2 (by (first | lia | omega)) (by (first | lia | omega)) _ fun vs ds H3 c3 s3 f3 l3 b3 p3 u3 w3 => ?_
  exact q (v :: vs) (dd :: ds) H3 c3 (.cons (s.same (hid_but b3)) s3) (Fines.cons f f3) (by rw [List.length_cons, l3]) (b2.trans b3) p3 (by (first | lia | omega)) (by (first | lia | omega))
theorem mk_lst {ta : TA} {len : Nat} (x : MkA p S m n k len ta σ H) (hz : n ≤ 1000000) : Mk p S m (isL p S n k len) (tLst ta) σ H := by
  intro H1 c a b d e Q q
  refine x H1 c a b d e _ fun vs ds H2 c2 s2 f2 l2 b2 p2 u w => ?_
  have sl := s2.length
  have fl := f2.len
  refine ⟨Nat.le_trans (by (first | lia | omega)) (show (1000000 : Nat) ≤ sizeLine by decide), fun r hr => ?_⟩
  refine q _ _ c2 ⟨r, vs, ds, rfl, pool_ne p2 hr, upd_same, s2.same (hid_but (but_new hr)), f2, by (first | lia | omega)⟩ (b2.trans (but_new hr)) (pool_new p2 hr) u w
theorem mk_tup {ta : TA} {len : Nat} (x : MkA p S m n k len ta σ H) (hz : n ≤ 1000000) : Mk p S m (isD p S n (k + 1)) (tTup ta) σ H := by
  intro H1 c a b d e Q q
  refine x H1 c a b d e _ fun vs ds H2 c2 s2 f2 l2 b2 p2 u w => ?_
  have sl := s2.length
  have fl := f2.len
  refine ⟨Nat.le_trans (by (first | lia | omega)) (show (1000000 : Nat) ≤ sizeLine by decide), fun r hr => ?_⟩
  refine q _ _ c2 ⟨.tuple ds, .tup (hid_get (pool_ne p2 hr) upd_same) (s2.same (hid_but (but_new hr))), .tup f2⟩ (b2.trans (but_new hr)) (pool_new p2 hr) u w
theorem mk_dnew : Mk p S 0 (isD p S 0 1) tDNewK σ H := fun H1 c a b d e Q q r hr =>
  q _ _ c ⟨.dict [], .dic (kvs := []) (hid_get (pool_ne b hr) upd_same), ⟨rfl, Nat.le_refl _, by decide⟩⟩ (but_new hr) (pool_new b hr) (Int.le_refl _) (by (first | lia | omega))
theorem mk_cat (x : Mk p S m (isL p S n k lo) ta σ H) (y : Mk p S m' (isL p S n' k lo') tb σ H) (hz : n + n' ≤ 1000000) : Mk p S (m + m') (isL p S (n + n') k (lo + lo')) (tOp rCat ta tb) σ H := by
  intro H1 c a b d e Q q
  refine x H1 c a b d (by (first | lia | omega)) _ fun v H2 c2 r2 b2 p2 u w => ?_
  refine y H2 c2 (a.trans b2) p2 (by (first | lia | omega)) (by (first | lia | omega)) _ fun v3 H3 c3 r3 b3 p3 u3 w3 => ?_
  obtain ⟨l, vs, ds, rfl, np, h, s, f, g⟩ := stb_L _ _ _ b3 r2
  obtain ⟨l', vs', ds', rfl, np', h', s', f', g'⟩ := r3
  have z := f.len
  have z' := f'.len
  have y1 := s.length
  have y2 := s'.length
  refine ⟨l, l', vs, vs', rfl, rfl, h, h', Nat.le_trans (by (first | lia | omega)) (show (1000000 : Nat) ≤ sizeLine by decide), fun r hr => ?_⟩
  exact q _ _ c3 ⟨r, _, _, rfl, pool_ne p3 hr, upd_same, (s.append s').same (hid_but (but_new hr)), f.app f', by rw [List.length_append]; (first | lia | omega)⟩ ((b2.trans b3).trans (but_new hr)) (pool_new p3 hr) (by (first | lia | omega)) (by (first | lia | omega))
theorem fines_flat {ds : List PyData} (f : Fines n k ds) : ∀ i : Nat, Fines (n * i) k (List.replicate i ds).flatten
  | 0 => Fines.nil
  | i + 1 => by
    rw [List.replicate_succ, List.flatten_cons, Nat.mul_succ, Nat.add_comm]
    exact f.app (fines_flat f i)
theorem see_flat {H : Hp} {vs : List V} {ds : List PyData} (s : SeeAll H vs ds) : ∀ i : Nat, SeeAll H (List.replicate i vs).flatten (List.replicate i ds).flatten
  | 0 => .nil
  | i + 1 => by
    rw [List.replicate_succ, List.replicate_succ, List.flatten_cons, List.flatten_cons]
    exact s.append (see_flat s i)
theorem mk_rep {i : Nat} (x : Mk p S m (isL p S n k lo) ta σ H) (hz : n * i ≤ 1000000) (hi : i ≤ 1000000) : Mk p S m (isL p S (n * i) k (i * lo)) (tOp rRep ta (tC (.int (i : Int)))) σ H := by
  intro H1 c a b d e Q q
  refine x H1 c a b d e _ fun v H2 c2 r2 b2 p2 u w => ?_
  obtain ⟨l, vs, ds, rfl, np, h, s, f, g⟩ := r2
  have z := f.len
  have y1 := s.length
  have z2 : vs.length * i ≤ n * i := Nat.mul_le_mul_right _ (by (first | lia | omega))
  refine ⟨l, (i : Int), vs, rfl, rfl, h, by (first | lia | omega), by (first | lia | omega), ?_, fun r hr => ?_⟩
  · rw [Int.toNat_natCast]; exact Nat.le_trans (by (first | lia | omega)) (show (1000000 : Nat) ≤ sizeLine by decide)
  · rw [Int.toNat_natCast]
    exact q _ _ c2 ⟨r, _, _, rfl, pool_ne p2 hr, upd_same, (see_flat s i).same (hid_but (but_new hr)), fines_flat f i, by rw [len_rep]; exact Nat.mul_le_mul_left _ g⟩ (b2.trans (but_new hr)) (pool_new p2 hr) u w
theorem fines_take {ds : List PyData} (f : Fines n k ds) (i : Nat) : Fines n k (ds.take i) ∧ Fines n k (ds.drop i) := by
  have a := f.ok; have b := f.bulk; have c := f.dep
  rw [← List.take_append_drop i ds] at a b c
  rw [ok_app, Bool.and_eq_true] at a
  rw [bulk_app] at b
  rw [dep_app] at c
  exact ⟨⟨a.1, by (first | lia | omega), by (first | lia | omega)⟩, ⟨a.2, by (first | lia | omega), by (first | lia | omega)⟩⟩
theorem see_take {H : Hp} : ∀ {vs : List V} {ds : List PyData} (i : Nat), SeeAll H vs ds → SeeAll H (vs.take i) (ds.take i) ∧ SeeAll H (vs.drop i) (ds.drop i)
  | _, _, 0, s => ⟨.nil, s⟩
  | _, _, _ + 1, .nil => ⟨.nil, .nil⟩
  | _, _, i + 1, .cons a b => by
    obtain ⟨x, y⟩ := see_take i b
    exact ⟨.cons a x, y⟩
def MkO (t : TO) (σ : L2.St) : Prop := ∀ (H : Hp) (Q : Option Int → Hp → Prop), (∀ o, Q o H) → t σ H Q
theorem mkO_none : MkO tNoPart σ := fun H Q q => q _
theorem mkO_var {i : Nat} {j : Int} (h : σ[i]? = some (some (.int j))) : MkO (tPart (tVar i)) σ := fun H Q q => ⟨.int j, h, j, rfl, q _⟩
theorem mkO_add {i : Nat} {j l : Int} (h : σ[i]? = some (some (.int j))) {r : R2} (hr : ∀ H Q, Q (.int (j + l)) H → r (.int j) (.int l) H Q) : MkO (tPart (tOp r (tVar i) (tC (.int l)))) σ := fun H Q q => ⟨.int j, h, hr _ _ ⟨j + l, rfl, q _⟩⟩
theorem mk_slice {tl th : TO} (x : Mk p S m (isL p S n k lo) ta σ H) (hl : MkO tl σ) (hh : MkO th σ) : Mk p S m (isL p S n k 0) (tSl (rSlL K) ta tl th) σ H := by
  intro H1 c a b d e Q q
  refine x H1 c a b d e _ fun v H2 c2 r2 b2 p2 u w => ?_
  refine hl _ _ fun o1 => hh _ _ fun o2 => ?_
  obtain ⟨l, vs, ds, rfl, np, h, s, f, g⟩ := r2
  refine ⟨l, vs, rfl, SqL.of h, fun r hr => ?_⟩
  have s2 := (see_take (HT.sIx vs.length vs.length o2 - HT.sIx vs.length 0 o1) (see_take (HT.sIx vs.length 0 o1) s).2).1
  have f2 := (fines_take (fines_take f (HT.sIx vs.length 0 o1)).2 (HT.sIx vs.length vs.length o2 - HT.sIx vs.length 0 o1)).1
  exact q _ _ c2 ⟨r, _, _, rfl, pool_ne p2 hr, upd_same, s2.same (hid_but (but_new hr)), f2, Nat.zero_le _⟩ (b2.trans (but_new hr)) (pool_new p2 hr) u w
theorem see_rev {H : Hp} : ∀ {vs : List V} {ds : List PyData}, SeeAll H vs ds → SeeAll H vs.reverse ds.reverse
  | _, _, .nil => .nil
  | _, _, .cons a b => by
    rw [List.reverse_cons, List.reverse_cons]
    exact (see_rev b).append (.cons a .nil)
theorem fines_rev : ∀ {ds : List PyData} {n : Nat}, Fines n k ds → Fines n k ds.reverse
  | [], n, f => f
  | x :: ds, n, f => by
    have a := f.ok; have b := f.bulk; have c := f.dep
    simp only [okDs, Bool.and_eq_true] at a
    simp only [PyData.bulkAll] at b
    simp only [PyData.depthAll] at c
    have z : Fines (n - (x.bulk + 1)) k ds := ⟨a.2, by (first | lia | omega), by (first | lia | omega)⟩
    rw [List.reverse_cons]
    refine ((fines_rev z).app (Fines.cons (n := x.bulk) (m := 0) ⟨a.1, Nat.le_refl _, by (first | lia | omega)⟩ Fines.nil)).mono (by (first | lia | omega)) (Nat.le_refl _)
theorem mk_rev {tk : TE} (x : Mk p S m (isL p S n k lo) ta σ H) (hk : ∀ H Q, Q (.int (-1)) H → tk σ H Q) : Mk p S m (isL p S n k lo) (tRev K ta tk) σ H := by
  intro H1 c a b d e Q q
  refine x H1 c a b d e _ fun v H2 c2 r2 b2 p2 u w => ?_
  refine hk _ _ ?_
  obtain ⟨l, vs, ds, rfl, np, h, s, f, g⟩ := r2
  refine ⟨rfl, l, vs, rfl, SqL.of h, fun r hr => ?_⟩
  exact q _ _ c2 ⟨r, _, _, rfl, pool_ne p2 hr, upd_same, (see_rev s).same (hid_but (but_new hr)), fines_rev f, by rw [List.length_reverse]; exact g⟩ (b2.trans (but_new hr)) (pool_new p2 hr) u w
theorem mk_ix {hi : Int} (x : Mk p S m (isL p S n k lo) ta σ H) (y : Mk p S m' (isI hi) tb σ H) (h : hi ≤ lo) : Mk p S (m + m') (isD p S n k) (tOp (rIxL K) ta tb) σ H := by
  intro H1 c a b d e Q q
  refine x H1 c a b d (by (first | lia | omega)) _ fun v H2 c2 r2 b2 p2 u w => ?_
  refine y H2 c2 (a.trans b2) p2 (by (first | lia | omega)) (by (first | lia | omega)) _ fun v3 H3 c3 r3 b3 p3 u3 w3 => ?_
  obtain ⟨l, vs, ds, rfl, np, h, s, f, g⟩ := stb_L _ _ _ b3 r2
  obtain ⟨i, rfl, i0, i1⟩ := r3
  obtain ⟨j, rfl⟩ : ∃ j : Nat, i = (j : Int) := ⟨i.toNat, by (first | lia | omega)⟩
  have hj : j < vs.length := by (first | lia | omega)
  obtain ⟨dd, e1, s1⟩ := s.get (List.getElem?_eq_getElem hj)
  refine ⟨l, vs, j, vs[j], rfl, rfl, SqL.of h, atI_nat (List.getElem?_eq_getElem hj), ?_⟩
  exact q _ _ c3 ⟨dd, s1, f.mem (List.mem_of_getElem? e1)⟩ (b2.trans b3) p3 (by (first | lia | omega)) (by (first | lia | omega))
theorem mk_pick2 {h1 h2 hi : Int} {m1 m2 m3 : Nat} {t1 t2 t3 : TE} (x : Mk p S m1 (isI h1) t1 σ H) (y : Mk p S m2 (isI h2) t2 σ H) (z : Mk p S m3 (isI 2) t3 σ H) (a1 : h1 ≤ hi) (a2 : h2 ≤ hi) :
    Mk p S (m1 + m2 + m3) (isI hi) (tOp (rIxL K) (tLst (tCons t1 (tCons t2 tNil))) t3) σ H := by
  intro H1 c a b d e Q q
  refine x H1 c a b d (by (first | lia | omega)) _ fun v H2 c2 ⟨i1, e1, q1, q2⟩ b2 p2 u w => ?_
  refine y H2 c2 (a.trans b2) p2 (by (first | lia | omega)) (by (first | lia | omega)) _ fun v3 H3 c3 ⟨i2, e2, q3, q4⟩ b3 p3 u3 w3 => ?_
  subst e1 e2
  refine ⟨by show 2 ≤ sizeLine; decide, fun r hr => ?_⟩
  have np := pool_ne p3 hr
  refine z _ c3 ((a.trans b2).trans (b3.trans (but_new hr))) (pool_new p3 hr) (by (first | lia | omega)) (by (first | lia | omega)) _ fun v4 H4 c4 ⟨i3, e3, q5, q6⟩ b4 p4 u4 w4 => ?_
  subst e3
  have hg := b4 r _ np.ne upd_same
  have cs : i3 = 0 ∨ i3 = 1 := by (first | lia | omega)
  rcases cs with rfl | rfl
  · exact ⟨r, _, 0, .int i1, rfl, rfl, SqL.of hg, rfl, q _ _ c4 ⟨i1, rfl, q1, by (first | lia | omega)⟩ (((b2.trans b3).trans (but_new hr)).trans b4) p4 (by (first | lia | omega)) (by (first | lia | omega))⟩
  · exact ⟨r, _, 1, .int i2, rfl, rfl, SqL.of hg, rfl, q _ _ c4 ⟨i2, rfl, q3, by (first | lia | omega)⟩ (((b2.trans b3).trans (but_new hr)).trans b4) p4 (by (first | lia | omega)) (by (first | lia | omega))⟩
theorem mk_take {i : Nat} {j : Int} (h : σ[i]? = some (some (.ref p))) (h0 : 0 < j) (h1 : j ≤ 1000000) : Mk p S 1 (isI j) (tCall spTake [] E0 (tCons (tVar i) (tCons (tC (.int j)) tNil))) σ H := by
  intro H1 c a b d e Q q
  obtain ⟨o, ho, io⟩ := b.1
  refine ⟨_, h, p, j, c, o, rfl, ho, io, h0, h1, d, by (first | lia | omega), fun r c' o' r0 r1 c0 c1 io' => ?_⟩
  exact q _ _ c' ⟨r, rfl, r0, r1⟩ But.upd (pool_take b io') c0 (by (first | lia | omega))
end
end K7
set_option Elab.async false
set_option linter.all false
set_option maxRecDepth 100000
set_option maxHeartbeats 4000000
namespace K7
open PySem L2 PyProof.Rows
theorem TxtOk.app {a b : Nat} {x y : Str} (h : TxtOk a x) (g : TxtOk b y) : TxtOk (a + b) (x ++ y) := by
  refine ⟨?_, fun c hc => ?_⟩
  · have := h.1; have := g.1; rw [strLen_append]; (first | lia | omega)
  · rw [Str.cps_append, Array.toList_append] at hc
    exact (List.mem_append.mp hc).elim (h.2 c) (g.2 c)
theorem TxtOk.sub {a : Nat} {x y : Str} (h : TxtOk a x) (s : y.cps.toList.Sublist x.cps.toList) : TxtOk a y := by
  refine ⟨?_, fun c hc => h.2 c (s.mem hc)⟩
  have l := s.length_le
  rw [Array.length_toList, Array.length_toList] at l
  exact Nat.le_trans l h.1
theorem TxtOk.mono {a b : Nat} {x : Str} (h : TxtOk a x) (g : a ≤ b) : TxtOk b x := ⟨Nat.le_trans h.1 g, h.2⟩
theorem foldl_cps (x : Str) : ∀ (k : Nat) (acc : Array Nat), ((List.replicate k x.cps).foldl (· ++ ·) acc).toList = acc.toList ++ (List.replicate k x.cps.toList).flatten
  | 0, acc => by simp
  | k + 1, acc => by
    rw [List.replicate_succ, List.replicate_succ, List.foldl_cons, foldl_cps x k, List.flatten_cons, Array.toList_append, List.append_assoc]
theorem TxtOk.mul {a : Nat} {x : Str} (h : TxtOk a x) (k : Nat) (hk : 1 ≤ k) : TxtOk (a * k) (Txt.mul x (k : Int)) := by
  unfold Txt.mul
  rw [if_neg (by (first | lia | omega))]
  split
  · exact h.mono (Nat.le_mul_of_pos_right _ hk)
  · have e := foldl_cps x k #[]
    refine ⟨?_, fun c hc => ?_⟩
    · show ((List.replicate ((k : Int)).toNat x.cps).foldl (· ++ ·) #[]).size ≤ a * k
      rw [Int.toNat_natCast, ← Array.length_toList, e]
      simp only [List.nil_append, List.length_flatten, List.map_replicate, List.sum_replicate_nat, Array.length_toList]
      rw [Nat.mul_comm]
      exact Nat.mul_le_mul_right _ h.1
    · have hc' : c ∈ ((List.replicate ((k : Int)).toNat x.cps).foldl (· ++ ·) #[]).toList := hc
      rw [Int.toNat_natCast, e] at hc'
      simp only [List.nil_append, List.mem_flatten, List.mem_replicate] at hc'
      obtain ⟨l, ⟨_, rfl⟩, hl⟩ := hc'
      exact h.2 c hl
theorem txt_flat {m : Nat} : ∀ {ss : List Str}, (∀ z ∈ ss, TxtOk m z) → ((ss.map (·.cps.toList)).flatten).length ≤ m * ss.length ∧ ∀ c ∈ (ss.map (·.cps.toList)).flatten, c < 128
  | [], _ => ⟨Nat.zero_le _, fun _ h => nomatch h⟩
  | z :: r, h => by
    obtain ⟨a, b⟩ := txt_flat (m := m) (ss := r) fun y hy => h y (List.mem_cons_of_mem _ hy)
    have hz := h z List.mem_cons_self
    rw [List.map_cons, List.flatten_cons]
    refine ⟨?_, fun c hc => (List.mem_append.mp hc).elim (hz.2 c) (b c)⟩
    rw [List.length_append, List.length_cons, Nat.mul_succ, Array.length_toList]
    have h1 : z.cps.size ≤ m := hz.1
    (first | lia | omega)
theorem TxtOk.join {m : Nat} {ss : List Str} (h : ∀ z ∈ ss, TxtOk m z) : TxtOk (m * ss.length) (Txt.join (Str.ofString "") ss) := by
  have e := join_codes ss
  obtain ⟨a, b⟩ := txt_flat h
  rw [← e] at a b
  exact ⟨by rw [Array.length_toList] at a; exact a, b⟩
theorem fine_enum {m : Nat} : ∀ (ss : List Str) (k : Nat), (∀ z ∈ ss, TxtOk m z) → k + ss.length ≤ 1000000 → okKv ((enumK k ss).map fun q => (kD q.1, PyData.str q.2)) = true ∧ PyData.bulkKv ((enumK k ss).map fun q => (kD q.1, PyData.str q.2)) ≤ (m + 2) * ss.length ∧ PyData.depthKv ((enumK k ss).map fun q => (kD q.1, PyData.str q.2)) = 0
  | [], k, _, _ => ⟨rfl, Nat.zero_le _, rfl⟩
  | z :: r, k, h, hk => by
    rw [List.length_cons] at hk
    obtain ⟨a, b, c⟩ := fine_enum (m := m) r (k + 1) (fun y hy => h y (List.mem_cons_of_mem _ hy)) (by (first | lia | omega))
    have hz := h z List.mem_cons_self
    have zo : okD (.str z) = true := by simp only [okD, List.all_eq_true, decide_eq_true_eq]; exact hz.2
    have io : okD (.int (k : Int)) = true := by simp only [okD, decide_eq_true_eq]; (first | lia | omega)
    have e : ((enumK k (z :: r)).map fun q => (kD q.1, PyData.str q.2)) = (PyData.int (k : Int), PyData.str z) :: (enumK (k + 1) r).map fun q => (kD q.1, PyData.str q.2) := rfl
    have h1 : z.cps.size ≤ m := hz.1
    rw [e]
    simp only [okKv, PyData.bulkKv, PyData.depthKv, PyData.bulk, PyData.depth, a, c, zo, io, Bool.and_self, List.length_cons, Nat.mul_succ]
    exact ⟨trivial, by (first | lia | omega), rfl⟩
section
variable {p : Addr} {S : List Addr} {m m' n n' k lo lo' : Nat} {R R' : VR} {te ta tb : TE} {σ : L2.St} {H : Hp} {K : PySem.W.Frag}
theorem mk_addS (x : Mk p S m (isS n) ta σ H) (y : Mk p S m' (isS n') tb σ H) (hz : n + n' ≤ 1000000) : Mk p S (m + m') (isS (n + n')) (tOp (fun x y H Q => ∃ i j, x = .str i ∧ y = .str j ∧ i.length + j.length ≤ sizeLine ∧ Q (.str (i ++ j)) H) ta tb) σ H := by
  intro H1 c a b d e Q q
  refine x H1 c a b d (by (first | lia | omega)) _ fun v H2 c2 ⟨z, e2, t2⟩ b2 p2 u w => ?_
  refine y H2 c2 (a.trans b2) p2 (by (first | lia | omega)) (by (first | lia | omega)) _ fun v3 H3 c3 ⟨z3, e3, t3⟩ b3 p3 u3 w3 => ?_
  have l1 := t2.1
  have l2 := t3.1
  exact ⟨z, z3, e2, e3, Nat.le_trans (by (first | lia | omega)) (show (1000000 : Nat) ≤ sizeLine by decide), q _ _ c3 ⟨_, rfl, t2.app t3⟩ (b2.trans b3) p3 (by (first | lia | omega)) (by (first | lia | omega))⟩
theorem mk_toS {i j : Nat} (x : Mk p S m (isS n) ta σ H) (h : σ[i]? = some (some (.int (j : Int)))) (hz : n ≤ 1000000) : Mk p S m (isS n) (tSl rSlS ta tNoPart (tPart (tVar i))) σ H := by
  intro H1 c a b d e Q q
  refine x H1 c a b d e _ fun v H2 c2 ⟨z, e2, t2⟩ b2 p2 u w => ?_
  have l1 := t2.1
  refine ⟨.int j, h, j, rfl, z, e2, Nat.le_trans (by (first | lia | omega)) (show (1000000 : Nat) ≤ sizeLine by decide), q _ _ c2 ⟨_, rfl, t2.sub ?_⟩ b2 p2 u w⟩
  rw [slice_to]
  exact List.take_sublist _ _
theorem mk_fromS {tl : TO} {j : Nat} (x : Mk p S m (isS n) ta σ H) (h : ∀ (H : Hp) (Q : Option Int → Hp → Prop), Q (some (j : Int)) H → tl σ H Q) (hz : n ≤ 1000000) : Mk p S m (isS n) (tSl rSlS ta tl tNoPart) σ H := by
  intro H1 c a b d e Q q
  refine x H1 c a b d e _ fun v H2 c2 ⟨z, e2, t2⟩ b2 p2 u w => ?_
  have l1 := t2.1
  refine h _ _ ⟨z, e2, Nat.le_trans (by (first | lia | omega)) (show (1000000 : Nat) ≤ sizeLine by decide), q _ _ c2 ⟨_, rfl, t2.sub ?_⟩ b2 p2 u w⟩
  rw [slice_from]
  exact List.drop_sublist _ _
theorem mk_mulS {i : Nat} (x : Mk p S m (isS n) ta σ H) (hn : n ≤ 1000) (h1 : 1 ≤ i) (hi : i ≤ 1000) : Mk p S m (isS (n * i)) (tOp (fun x y H Q => ∃ z n, x = .str z ∧ y = .int n ∧ -1000000 ≤ n ∧ n ≤ 1000 ∧ z.length ≤ 1000 ∧ Q (.str (Txt.mul z n)) H) ta (tC (.int (i : Int)))) σ H := by
  intro H1 c a b d e Q q
  refine x H1 c a b d e _ fun v H2 c2 ⟨z, e2, t2⟩ b2 p2 u w => ?_
  have l1 := t2.1
  exact ⟨z, i, e2, rfl, by (first | lia | omega), by (first | lia | omega), by (first | lia | omega), q _ _ c2 ⟨_, rfl, t2.mul i h1⟩ b2 p2 u w⟩
theorem mk_lstS {ta : TA} (ss : List Str) (h : ∀ (H1 : Hp) (Q : List V → Hp → Prop), Q (ss.map V.str) H1 → ta σ H1 Q) (t : ∀ z ∈ ss, TxtOk 4 z) (hz : ss.length ≤ 1000) : Mk p S 0 (isLS p S ss.length ss.length) (tLst ta) σ H := by
  intro H1 c a b d e Q q
  refine h _ _ ⟨by rw [List.length_map]; exact Nat.le_trans hz (by decide), fun r hr => ?_⟩
  exact q _ _ c ⟨r, ss, rfl, pool_ne b hr, upd_same, Nat.le_refl _, Nat.le_refl _, t⟩ (but_new hr) (pool_new b hr) (Int.le_refl _) (by (first | lia | omega))
theorem mk_catS (x : Mk p S m (isLS p S n lo) ta σ H) (y : Mk p S m' (isLS p S n' lo') tb σ H) (hz : n + n' ≤ 1000000) : Mk p S (m + m') (isLS p S (n + n') (lo + lo')) (tOp rCat ta tb) σ H := by
  intro H1 c a b d e Q q
  refine x H1 c a b d (by (first | lia | omega)) _ fun v H2 c2 r2 b2 p2 u w => ?_
  refine y H2 c2 (a.trans b2) p2 (by (first | lia | omega)) (by (first | lia | omega)) _ fun v3 H3 c3 r3 b3 p3 u3 w3 => ?_
  obtain ⟨l, ss, rfl, np, h, l1, g1, t1⟩ := stb_LS _ _ _ b3 r2
  obtain ⟨l', ss', rfl, np', h', l2, g2, t2⟩ := r3
  refine ⟨l, l', _, _, rfl, rfl, h, h', by rw [List.length_map, List.length_map]; exact Nat.le_trans (by (first | lia | omega)) (show (1000000 : Nat) ≤ sizeLine by decide), fun r hr => ?_⟩
  exact q _ _ c3 ⟨r, ss ++ ss', rfl, pool_ne p3 hr, by rw [List.map_append]; exact upd_same, by rw [List.length_append]; (first | lia | omega), by rw [List.length_append]; (first | lia | omega), fun z hzz => (List.mem_append.mp hzz).elim (t1 z) (t2 z)⟩ ((b2.trans b3).trans (but_new hr)) (pool_new p3 hr) (by (first | lia | omega)) (by (first | lia | omega))
theorem mk_sorted (x : Mk p S m (isLS p S n lo) ta σ H) (hz : n < 64) : Mk p S m (isLS p S n lo) (tCB (fun xs H Q => ∃ (p : Addr) (ss : List Str), xs = [.ref p] ∧ SqL K H p (ss.map V.str) ∧ ss.length < 64 ∧ ∀ (l : Addr) (ss' : List Str), H l = none → ss'.Perm ss → sortedS ss' = true → Q (.ref l) (upd H l (.lst (ss'.map V.str)))) (tCons ta tNil)) σ H := by
  intro H1 c a b d e Q q
  refine x H1 c a b d e _ fun v H2 c2 ⟨l, ss, e2, np, h, l1, g1, t1⟩ b2 p2 u w => ?_
  subst e2
  refine ⟨l, ss, rfl, SqL.of h, by (first | lia | omega), fun r ss' hr pm _ => ?_⟩
  exact q _ _ c2 ⟨r, ss', rfl, pool_ne p2 hr, upd_same, by rw [pm.length_eq]; exact l1, by rw [pm.length_eq]; exact g1, fun z hzz => t1 z (pm.mem_iff.mp hzz)⟩ (b2.trans (but_new hr)) (pool_new p2 hr) u w
theorem mk_tupleOf (x : Mk p S m (isL p S n k lo) ta σ H) : Mk p S m (isD p S n (k + 1)) (tCB (fun xs H Q => ∃ p ys, xs = [.ref p] ∧ ((SqL K H p ys ∧ ∀ l, H l = none → Q (.ref l) (upd H l (.tup ys))) ∨ (SqT K H p ys ∧ Q (.ref p) H))) (tCons ta tNil)) σ H := by
  intro H1 c a b d e Q q
  refine x H1 c a b d e _ fun v H2 c2 ⟨l, vs, ds, e2, np, h, s, f, g⟩ b2 p2 u w => ?_
  subst e2
  refine ⟨l, vs, rfl, .inl ⟨SqL.of h, fun r hr => ?_⟩⟩
  exact q _ _ c2 ⟨.tuple ds, .tup (hid_get (pool_ne p2 hr) upd_same) (s.same (hid_but (but_new hr))), .tup f⟩ (b2.trans (but_new hr)) (pool_new p2 hr) u w
theorem mk_dictEnum (x : Mk p S m (isLS p S n lo) ta σ H) (hz : n ≤ 1000) : Mk p S m (isD p S (6 * n) 1) (tDictEnum K (tCons ta tNil)) σ H := by
  intro H1 c a b d e Q q
  refine x H1 c a b d e _ fun v H2 c2 ⟨l, ss, e2, np, h, l1, g1, t1⟩ b2 p2 u w => ?_
  subst e2
  refine ⟨l, ss, rfl, SqL.of h, fun r hr => ?_⟩
  obtain ⟨o1, o2, o3⟩ := fine_enum (m := 4) ss 0 t1 (by (first | lia | omega))
  refine q _ _ c2 ⟨_, .dic (hid_get (pool_ne p2 hr) upd_same), ⟨by simp only [okD]; exact o1, ?_, by simp only [PyData.depth, o3]; exact Nat.le_refl _⟩⟩ (b2.trans (but_new hr)) (pool_new p2 hr) u w
  simp only [PyData.bulk]
  have : (4 + 2) * ss.length ≤ 6 * n := Nat.mul_le_mul_left _ l1
  (first | lia | omega)
theorem mk_join {X : Cx} (x : Mk p S m (isLS p S n lo) ta σ H) (hz : n ≤ 1000) : Mk p S m (isS (4 * n)) (tBM X.K "str" (rJoin (X := X)) (tC (.str (Str.ofString ""))) (tCons ta tNil)) σ H := by
  intro H1 c a b d e Q q
  refine ⟨rfl, x H1 c a b d e _ fun v H2 c2 ⟨l, ss, e2, np, h, l1, g1, t1⟩ b2 p2 u w => ?_⟩
  subst e2
  have tj := TxtOk.join t1
  refine ⟨_, l, ss, rfl, rfl, SqL.of h, ?_, q _ _ c2 ⟨_, rfl, tj.mono (Nat.mul_le_mul_left _ l1)⟩ b2 p2 u w⟩
  have e0 : (Str.ofString "").length = 0 := rfl
  rw [e0, Nat.mul_zero, Nat.add_zero]
  have hs : ∀ (l : List Str), (∀ z ∈ l, TxtOk 4 z) → (l.map (·.length)).sum ≤ 4 * l.length := by
    intro l
    induction l with
    | nil => intro _; exact Nat.le_refl _
    | cons y r ih =>
      intro hy
      have := ih fun z hzz => hy z (List.mem_cons_of_mem _ hzz)
      have := (hy y List.mem_cons_self).1
      rw [List.map_cons, List.sum_cons, List.length_cons]
      (first | lia | omega)
  have := hs ss t1
  (first | lia | omega)
end
end K7
set_option Elab.async false
set_option linter.all false
set_option maxRecDepth 100000
set_option maxHeartbeats 400000
namespace K7
open PySem L2 PyProof.Rows
section
variable {p : Addr} {S : List Addr} {m m' n n' k lo lo' : Nat} {R R' : VR} {te ta tb : TE} {σ : L2.St} {H : Hp} {K : PySem.W.Frag}
theorem cS {z : Str} (n : Nat) (h : TxtOk n z) : Mk p S 0 (isD p S n k) (tC (.str z)) σ H := mk_c fun H => D_mono (D_of_S ⟨z, rfl, h⟩) (Nat.le_refl _) (Nat.zero_le _)
theorem cN : Mk p S 0 (isD p S 0 k) (tC .non) σ H := mk_c fun H => ⟨.none, .non, ⟨rfl, Nat.le_refl _, Nat.zero_le _⟩⟩
theorem cB {b : Bool} : Mk p S 0 (isD p S 0 k) (tC (.bl b)) σ H := mk_c fun H => ⟨.bool b, .bl b, ⟨rfl, Nat.le_refl _, Nat.zero_le _⟩⟩
theorem cI {i : Int} (h : 0 ≤ i ∧ i < 1000000) : Mk p S 0 (isD p S 0 k) (tC (.int i)) σ H := mk_c fun H => ⟨.int i, .int i, ⟨by simp only [okD, decide_eq_true_eq]; exact h, Nat.le_refl _, Nat.zero_le _⟩⟩
theorem Mk.T (x : Mk p S m (isS n) te σ H) : Mk p S m (isD p S n k) te σ H := x.imp fun v H r => D_mono (D_of_S r) (Nat.le_refl _) (Nat.zero_le _)
theorem Mk.L (x : Mk p S m (isL p S n k lo) te σ H) : Mk p S m (isD p S n (k + 1)) te σ H := x.imp fun v H r => D_of_L r
theorem Mk.D (x : Mk p S m (isD p S n k) te σ H) {n' k' : Nat} (a : n ≤ n') (b : k ≤ k') : Mk p S m (isD p S n' k') te σ H := x.imp fun v H r => D_mono r a b
theorem Mk.Lm (x : Mk p S m (isL p S n k lo) te σ H) {n' k' : Nat} (a : n ≤ n') (b : k ≤ k') : Mk p S m (isL p S n' k' lo) te σ H := x.imp fun v H r => L_mono r a b
theorem Mk.LS (x : Mk p S m (isLS p S n lo) te σ H) : Mk p S m (isL p S (5 * n) 0 lo) te σ H := x.imp fun v H r => L_of_LS r
theorem mk_ixS {hi : Int} (x : Mk p S m (isLS p S n lo) ta σ H) (y : Mk p S m' (isI hi) tb σ H) (h : hi ≤ lo) : Mk p S (m + m') (isS 4) (tOp (rIxL K) ta tb) σ H := by
  intro H1 c a b d e Q q
  refine x H1 c a b d (by (first | lia | omega)) _ fun v H2 c2 r2 b2 p2 u w => ?_
  refine y H2 c2 (a.trans b2) p2 (by (first | lia | omega)) (by (first | lia | omega)) _ fun v3 H3 c3 r3 b3 p3 u3 w3 => ?_
  obtain ⟨l, ss, rfl, np, h, l1, g, t⟩ := stb_LS _ _ _ b3 r2
  obtain ⟨i, rfl, i0, i1⟩ := r3
  obtain ⟨j, rfl⟩ : ∃ j : Nat, i = (j : Int) := ⟨i.toNat, by (first | lia | omega)⟩
  have hj : j < ss.length := by (first | lia | omega)
  refine ⟨l, _, j, .str ss[j], rfl, rfl, SqL.of h, atI_nat (by rw [List.getElem?_map, List.getElem?_eq_getElem hj]; rfl), ?_⟩
  exact q _ _ c3 ⟨_, rfl, t _ (List.getElem_mem hj)⟩ (b2.trans b3) p3 (by (first | lia | omega)) (by (first | lia | omega))
theorem mkA_c0 {ta : TA} {len : Nat} (x : Mk p S 0 (isD p S n k) te σ H) (y : MkA p S 0 n' k len ta σ H) : MkA p S 0 (n + 1 + n') k (len + 1) (tCons te ta) σ H := mkA_cons x y
theorem mk_addS0 (x : Mk p S 0 (isS n) ta σ H) (y : Mk p S 0 (isS n') tb σ H) (hz : n + n' ≤ 1000000) : Mk p S 0 (isS (n + n')) (tOp (fun x y H Q => ∃ i j, x = .str i ∧ y = .str j ∧ i.length + j.length ≤ sizeLine ∧ Q (.str (i ++ j)) H) ta tb) σ H := mk_addS x y hz
theorem mk_cat0 (x : Mk p S 0 (isL p S n k lo) ta σ H) (y : Mk p S 0 (isL p S n' k lo') tb σ H) (hz : n + n' ≤ 1000000) : Mk p S 0 (isL p S (n + n') k (lo + lo')) (tOp rCat ta tb) σ H := mk_cat x y hz
theorem mk_catS0 (x : Mk p S 0 (isLS p S n lo) ta σ H) (y : Mk p S 0 (isLS p S n' lo') tb σ H) (hz : n + n' ≤ 1000000) : Mk p S 0 (isLS p S (n + n') (lo + lo')) (tOp rCat ta tb) σ H := mk_catS x y hz
theorem Mk.set {i : Nat} {c : Int} {rest : TS} {D : Ends} (x : Mk p S m R te σ H) (P : PoolS p S H c) (h0 : 0 ≤ c) (h1 : c + m < 1000000) (k : ∀ v H' c', R v H' → But p H H' → PoolS p S H' c' → c ≤ c' → c' ≤ c + m → rest D (σ.set i (some v)) H') : tSeq (tAsg te (gName i)) rest D σ H :=
  x H c (But.refl _ _) P h0 h1 _ k
theorem Mk.ret {c : Int} {D : Ends} (x : Mk p S m R te σ H) (P : PoolS p S H c) (h0 : 0 ≤ c) (h1 : c + m < 1000000) (k : ∀ v H' c', R v H' → But p H H' → PoolS p S H' c' → c ≤ c' → c' ≤ c + m → D.rt v H') : tRet te D σ H :=
  x H c (But.refl _ _) P h0 h1 _ k
theorem mk_takeE {i : Nat} {j : Int} (h : σ[i]? = some (some (.ref p))) (x : ∀ H1, But p H H1 → ∀ Q : VK, Q (.int j) H1 → te σ H1 Q) (h0 : 0 < j) (h1 : j ≤ 1000000) : Mk p S 1 (isI j) (tCall spTake [] E0 (tCons (tVar i) (tCons te tNil))) σ H := by
  intro H1 c a b d e Q q
  obtain ⟨o, ho, io⟩ := b.1
  refine ⟨_, h, x H1 a _ ⟨p, j, c, o, rfl, ho, io, h0, h1, d, by (first | lia | omega), fun r c' o' r0 r1 c0 c1 io' => ?_⟩⟩
  exact q _ _ c' ⟨r, rfl, r0, r1⟩ But.upd (pool_take b io') c0 (by (first | lia | omega))
theorem mk_ixS0 {hi : Int} (x : Mk p S 0 (isLS p S n lo) ta σ H) (y : Mk p S 0 (isI hi) tb σ H) (h : hi ≤ lo) : Mk p S 0 (isS 4) (tOp (rIxL K) ta tb) σ H := mk_ixS x y h
theorem mk_ixD (x : Mk p S 0 (isL p S n k lo) ta σ H) {hi : Int} (y : Mk p S m (isI hi) tb σ H) (h : hi ≤ lo) : Mk p S m (isD p S n k) (tOp (rIxL K) ta tb) σ H := by
  have z := mk_ix (K := K) x y h
  rw [Nat.zero_add] at z
  exact z
theorem txt_lit (z : Str) (n : Nat) (h : (decide (z.length ≤ n) && z.cps.toList.all fun c => decide (c < 128)) = true) : TxtOk n z := by
  simp only [Bool.and_eq_true, decide_eq_true_eq, List.all_eq_true] at h
  exact h
theorem txt_kind {z : Str} (h : KindOk z) : TxtOk 4 z := ⟨h.2.1, fun c hc => by have := h.2.2 c hc; (first | lia | omega)⟩
end
def spSign : Sp := fun vs H Q _ => ∃ (p : Addr) (S : List Addr) (c : Int), vs = [.ref p] ∧ PoolS p S H c ∧ 0 ≤ c ∧ c + 1 < 1000000 ∧ ∀ v H' c', isS 1 v H' → But p H H' → PoolS p S H' c' → c ≤ c' → c' ≤ c + 1 → Q v H'
def spBadKinds : Sp := fun vs H Q _ => ∃ (p : Addr) (S : List Addr) (v : V) (c : Int), vs = [.ref p, v] ∧ PoolS p S H c ∧ isLS p S 300 0 v H ∧ 0 ≤ c ∧ c + 7 < 1000000 ∧ ∀ v H' c', isD p S 40000 3 v H' → But p H H' → PoolS p S H' c' → c ≤ c' → c' ≤ c + 7 → Q v H'
theorem mk_sign {p : Addr} {S : List Addr} {σ : L2.St} {H : Hp} {i : Nat} (h : σ[i]? = some (some (.ref p))) : Mk p S 1 (isS 1) (tCall spSign [] E0 (tCons (tVar i) tNil)) σ H := fun H1 c a b d e Q q => ⟨_, h, p, S, c, rfl, b, d, e, q⟩
section
variable {P : Program} {w : World} {K : PySem.W.Frag} {mg : Str → Option Value} {base : Heap}
theorem sc__law_sign : FnScope ["pool", "signs"] ["pool"] (defScope st__law_sign) := ⟨rfl, rfl, rfl, by decide +kernel, rfl, by decide +kernel, by decide +kernel⟩
theorem sc__law_bad_kinds : FnScope ["pool", "kinds", "at", "kind", "place", "sign", "some", "odd", "rows"] ["pool", "kinds"] (defScope st__law_bad_kinds) := ⟨rfl, rfl, rfl, by decide +kernel, rfl, by decide +kernel, by decide +kernel⟩
theorem signs_ok : (Str.ofString " !\"#$&'()*+,-./0123456789:;<=>?@ABCDEFGHIJKLMNOPQRSTUVWXYZ[\\]^_`abcdefghijklmnopqrstuvwxyz{|}~\t\n").cps.toList.all (fun c => decide (c < 128)) = true := by decide +kernel
theorem ok_sign {f fT : Addr} {fd fdT : FuncData} (F : Fun K "_law_sign" "_law_sign" st__law_sign f fd) (G__law_take : FnOk P w K mg base CX0 1 fT fdT ["pool", "many"] spTake) (c__law_take : Cal K mg "_law_take" ["pool", "many"] fT fdT) (m_len : mg "len" = none) : FnOk P w K mg base CX0 2 f fd ["pool"] spSign := by
  refine F.ok sc__law_sign (fun vs H Q E h => ?_) (fun cdv A outer s H vs Q E hr h => ?_)
  · obtain ⟨p, S, c, rfl, _⟩ := h
    rfl
  · obtain ⟨p, S, c, rfl, PH, hc, hc1, k⟩ := h
    obtain ⟨o, hp, hpo⟩ := PH.1
    refine ⟨_, (pss_cons (ps_set (i := 1) sc__law_sign.nd rfl (Or.inl rfl) pe_str)
      (pss_one (ps_ret (pe_ix ix_str (pv 1) (pe_call G__law_take hr rfl c__law_take.mg c__law_take.kp c__law_take.b .nil pass0 (pa_cons (pv 0) (pa_cons (pe_callB call_len_str rfl m_len PySem.boot_len (pa_cons (pv 1) pa_nil)) pa_nil))) (fun _ _ => rfl))))), ?_⟩
    have sg := signs_ok
    rw [List.all_eq_true] at sg
    generalize hz : (Str.ofString " !\"#$&'()*+,-./0123456789:;<=>?@ABCDEFGHIJKLMNOPQRSTUVWXYZ[\\]^_`abcdefghijklmnopqrstuvwxyz{|}~\t\n") = z at *
    have hl : z.length = 96 := by rw [← hz]; decide +kernel
    refine ⟨_, rfl, _, rfl, _, rfl, z, rfl, by rw [hl]; decide, p, _, c, o, rfl, hp, hpo, by rw [hl]; decide, by rw [hl]; decide, hc, by (first | lia | omega), fun r c' o' r0 r1 c0 c1 io => ?_⟩
    obtain ⟨j, rfl⟩ : ∃ j : Nat, r = (j : Int) := ⟨r.toNat, by (first | lia | omega)⟩
    have hj : j < z.cps.toList.length := by rw [Array.length_toList]; have : z.cps.size = z.length := rfl; (first | lia | omega)
    refine ⟨z, j, z.cps.toList[j], rfl, rfl, by rw [hl]; decide, atI_nat (List.getElem?_eq_getElem hj), ?_⟩
    refine k _ _ c' ⟨_, rfl, ⟨Nat.le_refl 1, fun c hc => ?_⟩⟩ But.upd (pool_take PH io) c0 c1
    have e : c = z.cps.toList[j] := by simpa using hc
    rw [e]
    have := sg _ (List.getElem_mem hj)
    simpa using this
theorem ok_badKinds {f fT fS : Addr} {fd fdT fdS : FuncData} (F : Fun K "_law_bad_kinds" "_law_bad_kinds" st__law_bad_kinds f fd) (G__law_take : FnOk P w K mg base CX0 1 fT fdT ["pool", "many"] spTake) (c__law_take : Cal K mg "_law_take" ["pool", "many"] fT fdT)
    (G__law_sign : FnOk P w K mg base CX0 2 fS fdS ["pool"] spSign) (c__law_sign : Cal K mg "_law_sign" ["pool"] fS fdS) (m_len : mg "len" = none) (m_dict : mg "dict" = none) (m_enumerate : mg "enumerate" = none) (m_tuple : mg "tuple" = none) : FnOk P w K mg base CX0 3 f fd ["pool", "kinds"] spBadKinds := by
  refine F.ok sc__law_bad_kinds (fun vs H Q E h => ?_) (fun cdv A outer s H vs Q E hr h => ?_)
  · obtain ⟨p, S, v, c, rfl, _⟩ := h
    rfl
  · obtain ⟨p, S, v, c, rfl, PH, hv0, hc, hc1, kk⟩ := h
    refine ⟨_, (pss_cons (ps_set (i := 2) sc__law_bad_kinds.nd rfl (Or.inl rfl) (pe_call G__law_take (hr.mono (show 1 ≤ 2 by decide)) rfl c__law_take.mg c__law_take.kp c__law_take.b .nil pass0 (pa_cons (pv 0) (pa_cons (pe_op op_add (pe_callB call_len_seq rfl m_len PySem.boot_len (pa_cons (pv 1) pa_nil)) pe_int) pa_nil))))
      (pss_cons (ps_set (i := 3) sc__law_bad_kinds.nd rfl (Or.inl rfl) (pe_ix ix_list (pe_op op_cat (pv 1) (pe_lst (pa_cons pe_str pa_nil))) (pv 2) (fun _ _ => rfl)))
      (pss_cons (ps_set (i := 4) sc__law_bad_kinds.nd rfl (Or.inl rfl) (pe_call G__law_take (hr.mono (show 1 ≤ 2 by decide)) rfl c__law_take.mg c__law_take.kp c__law_take.b .nil pass0 (pa_cons (pv 0) (pa_cons (pe_op op_add (pe_callB call_len_str rfl m_len PySem.boot_len (pa_cons (pv 3) pa_nil)) pe_int) pa_nil))))
      (pss_cons (ps_set (i := 5) sc__law_bad_kinds.nd rfl (Or.inl rfl) (pe_call G__law_sign hr rfl c__law_sign.mg c__law_sign.kp c__law_sign.b .nil pass0 (pa_cons (pv 0) pa_nil)))
      (pss_cons (ps_set (i := 6) sc__law_bad_kinds.nd rfl (Or.inl rfl) (pe_lst (pa_cons (pe_op op_add_str (pe_op op_add_str (pe_slice sl_str (pv 3) po_none (po_some (pv 4))) (pv 5)) (pe_slice sl_str (pv 3) (po_some (pv 4)) po_none)) (pa_cons (pe_op op_add_str (pe_op op_add_str (pe_slice sl_str (pv 3) po_none (po_some (pv 4))) (pv 5)) (pe_slice sl_str (pv 3) (po_some (pe_op op_add (pv 4) pe_int)) po_none)) (pa_cons (pe_op op_add_str (pv 3) (pv 5)) (pa_cons (pv 5) pa_nil))))))
      (pss_cons (ps_set (i := 6) sc__law_bad_kinds.nd rfl (Or.inl rfl) (pe_op op_cat (pv 6) (pe_lst (pa_cons pe_str (pa_cons pe_str (pa_cons (pe_op op_mul_str (pv 3) pe_int) (pa_cons pe_non (pa_cons pe_int (pa_cons pe_bl (pa_cons (pe_lst (pa_cons (pv 3) pa_nil)) (pa_cons (pe_tup (pa_cons (pv 3) pa_nil)) (pa_cons pe_dnewK (pa_cons pe_int pa_nil)))))))))))))
      (pss_cons (ps_set (i := 7) sc__law_bad_kinds.nd rfl (Or.inl rfl) (pe_ix ix_list (pv 6) (pe_ix ix_list (pe_lst (pa_cons (pe_call G__law_take (hr.mono (show 1 ≤ 2 by decide)) rfl c__law_take.mg c__law_take.kp c__law_take.b .nil pass0 (pa_cons (pv 0) (pa_cons pe_int pa_nil))) (pa_cons (pe_call G__law_take (hr.mono (show 1 ≤ 2 by decide)) rfl c__law_take.mg c__law_take.kp c__law_take.b .nil pass0 (pa_cons (pv 0) (pa_cons pe_int pa_nil))) pa_nil))) (pe_call G__law_take (hr.mono (show 1 ≤ 2 by decide)) rfl c__law_take.mg c__law_take.kp c__law_take.b .nil pass0 (pa_cons (pv 0) (pa_cons pe_int pa_nil))) (fun _ _ => rfl)) (fun _ _ => rfl)))
      (pss_cons (ps_set (i := 8) sc__law_bad_kinds.nd rfl (Or.inl rfl) (pe_lst (pa_cons (pe_op op_cat (pe_op op_cat (pe_slice sl_list (pv 1) po_none (po_some (pv 2))) (pe_lst (pa_cons (pv 7) pa_nil))) (pe_slice sl_list (pv 1) (po_some (pv 2)) po_none)) (pa_cons (pe_op op_cat (pe_op op_cat (pe_slice sl_list (pv 1) po_none (po_some (pv 2))) (pe_lst (pa_cons (pv 7) pa_nil))) (pe_slice sl_list (pv 1) (po_some (pe_op op_add (pv 2) pe_int)) po_none)) pa_nil))))
      (pss_cons (ps_set (i := 8) sc__law_bad_kinds.nd rfl (Or.inl rfl) (pe_op op_cat (pe_op op_rep (pv 8) pe_int) (pe_lst (pa_cons (pe_callTy call_tuple_of rfl m_tuple (by decide +kernel) (pa_cons (pv 1) pa_nil)) (pa_cons pe_non (pa_cons (pe_bm PySem.F.plainAttrs_str PySem.F.slot_str_join PySem.F.type_str_join mt_join pe_str (pa_cons (pv 1) pa_nil)) (pa_cons pe_dnewK (pa_cons (pe_dictEnum rfl m_dict rfl m_enumerate rfl (pa_cons (pv 1) pa_nil)) (pa_cons (pe_op op_cat (pv 1) (pe_lst (pa_cons (pv 1) pa_nil))) (pa_cons pe_str (pa_cons pe_int pa_nil)))))))))))
      (pss_one (ps_ret (pe_ix ix_list (pv 8) (pe_call G__law_take (hr.mono (show 1 ≤ 2 by decide)) rfl c__law_take.mg c__law_take.kp c__law_take.b .nil pass0 (pa_cons (pv 0) (pa_cons pe_int pa_nil))) (fun _ _ => rfl))))))))))))), ?_⟩
    obtain ⟨q, ks, rfl, nqp, hq, hl, _, hk⟩ := id hv0
    have L0 : isLS p S ks.length ks.length (.ref q) H := ⟨q, ks, rfl, nqp, hq, Nat.le_refl _, Nat.le_refl _, hk⟩
    refine Mk.set (p := p) (m := 1) (R := isI ((ks.length : Int) + 1)) ?x1 PH (by (first | lia | omega)) (by (first | lia | omega)) ?k1
    case x1 =>
      refine mk_takeE rfl (fun H1 b Q q' => ⟨_, rfl, q, ks.map V.str, rfl, .inl (SqL.of (b _ _ nqp.ne hq)), _, _, rfl, rfl, ?_⟩) (by (first | lia | omega)) (by (first | lia | omega))
      rw [List.length_map]
      exact q'
    rintro v1 H1 c1 ⟨r, rfl, r0, r1⟩ B1 P1 u1 w1
    have L1 := stb_LS _ _ _ B1 L0
    obtain ⟨at', rfl⟩ : ∃ j : Nat, r = (j : Int) := ⟨r.toNat, by (first | lia | omega)⟩
    refine Mk.set (p := p) (m := 0) (R := isS 4) ?x2 P1 (by (first | lia | omega)) (by (first | lia | omega)) ?k2
    case x2 => exact mk_ixS0 (hi := ((ks.length + 1 : Nat) : Int)) (mk_catS0 (mk_var rfl L1 stb_LS) (mk_lstS [Str.ofString "a"] (fun _ _ q => q) (fun z hz => by rw [List.mem_singleton.mp hz]; exact txt_lit _ _ (by decide +kernel)) (by decide)) (by simp; (first | lia | omega))) (mk_var rfl ⟨_, rfl, r0, by (first | lia | omega)⟩ stb_I) (by simp)
    rintro v2 H2 c2 ⟨kz, rfl, tk⟩ B2 P2 u2 w2
    have hkz := tk.1
    refine Mk.set (p := p) (m := 1) (R := isI ((kz.length : Int) + 1)) ?x3 P2 (by (first | lia | omega)) (by (first | lia | omega)) ?k3
    case x3 => exact mk_takeE rfl (fun H1 b Q q' => ⟨_, rfl, kz, rfl, Nat.le_trans hkz (by decide), _, _, rfl, rfl, q'⟩) (by (first | lia | omega)) (by (first | lia | omega))
    rintro v3 H3 c3 ⟨r2, rfl, s0, s1⟩ B3 P3 u3 w3
    obtain ⟨pl, rfl⟩ : ∃ j : Nat, r2 = (j : Int) := ⟨r2.toNat, by (first | lia | omega)⟩
    refine Mk.set (p := p) (m := 1) (R := isS 1) (mk_sign rfl) P3 (by (first | lia | omega)) (by (first | lia | omega)) ?k4
    rintro v4 H4 c4 ⟨sg, rfl, tsg⟩ B4 P4 u4 w4
    have B14 : But p H H4 := ((B1.trans B2).trans B3).trans B4
    have L4 : isLS p S ks.length ks.length (.ref q) H4 := stb_LS _ _ _ B14 L0
    have Lk : isLS p S 300 0 (.ref q) H4 := ⟨q, ks, rfl, nqp, B14 _ _ nqp.ne hq, hl, Nat.zero_le _, hk⟩
    refine Mk.set (p := p) (m := 0) (R := isL p S 40 1 4) ?x5 P4 (by (first | lia | omega)) (by (first | lia | omega)) ?k5
    case x5 =>
      have vk : ∀ {σ : L2.St}, σ[3]? = some (some (.str kz)) → Mk p S 0 (isS 4) (tVar 3) σ H4 := fun h => mk_var h ⟨_, rfl, tk⟩ stb_S
      have vg : ∀ {σ : L2.St}, σ[5]? = some (some (.str sg)) → Mk p S 0 (isS 1) (tVar 5) σ H4 := fun h => mk_var h ⟨_, rfl, tsg⟩ stb_S
      exact Mk.Lm (mk_lst (mkA_c0 (Mk.T (mk_addS0 (mk_addS0 (mk_toS (vk rfl) rfl (by decide)) (vg rfl) (by decide)) (mk_fromS (j := pl) (vk rfl) (fun _ _ q => ⟨_, rfl, _, rfl, q⟩) (by decide)) (by decide)))
        (mkA_c0 (Mk.T (mk_addS0 (mk_addS0 (mk_toS (vk rfl) rfl (by decide)) (vg rfl) (by decide)) (mk_fromS (j := pl + 1) (vk rfl) (fun _ _ q => ⟨_, rfl, _, _, rfl, rfl, _, rfl, q⟩) (by decide)) (by decide)))
        (mkA_c0 (Mk.T (mk_addS0 (vk rfl) (vg rfl) (by decide))) (mkA_c0 (Mk.T (vg rfl)) mkA_nil)))) (by decide)) (by decide) (Nat.le_refl _)
    case k5 =>
    rintro v5 H5 c5 L5 B5 P5 u5 w5
    refine Mk.set (p := p) (m := 0) (R := isL p S 100 1 14) ?x6 P5 (by (first | lia | omega)) (by (first | lia | omega)) ?k6
    case x6 =>
      have vk : ∀ {σ : L2.St}, σ[3]? = some (some (.str kz)) → Mk p S 0 (isS 4) (tVar 3) σ H5 := fun h => mk_var h ⟨_, rfl, tk⟩ stb_S
      exact Mk.Lm (mk_cat0 (lo := 4) (lo' := 10) (mk_var rfl L5 stb_L) (mk_lst (mkA_c0 (cS 0 (txt_lit _ _ (by decide +kernel))) (mkA_c0 (cS 5 (txt_lit _ _ (by decide +kernel))) (mkA_c0 (Mk.T (mk_mulS (i := 3) (vk rfl) (by decide) (by decide) (by decide))) (mkA_c0 cN (mkA_c0 (cI (by decide)) (mkA_c0 cB
        (mkA_c0 (Mk.L (mk_lst (k := 0) (mkA_c0 (Mk.T (vk rfl)) mkA_nil) (by decide))) (mkA_c0 (mk_tup (k := 0) (mkA_c0 (Mk.T (vk rfl)) mkA_nil) (by decide)) (mkA_c0 mk_dnew (mkA_c0 (cI (by decide)) mkA_nil)))))))))) (by decide)) (by decide)) (by decide) (Nat.le_refl _)
    case k6 =>
    rintro v6 H6 c6 L6 B6 P6 u6 w6
    refine Mk.set (p := p) (m := 3) (R := isD p S 100 1) ?x7 P6 (by (first | lia | omega)) (by (first | lia | omega)) ?k7
    case x7 => exact mk_ixD (mk_var rfl L6 stb_L) (mk_pick2 (m1 := 1) (m2 := 1) (m3 := 1) (hi := 14) (mk_take rfl (by decide) (by decide)) (mk_take rfl (by decide) (by decide)) (mk_take rfl (by decide) (by decide)) (by decide) (by decide)) (by decide)
    case k7 =>
    rintro v7 H7 c7 D7 B7 P7 u7 w7
    have Lk7 : isLS p S 300 0 (.ref q) H7 := stb_LS _ _ _ ((B5.trans B6).trans B7) Lk
    refine Mk.set (p := p) (m := 0) (R := isL p S 7000 2 2) ?x8 P7 (by (first | lia | omega)) (by (first | lia | omega)) ?k8
    case x8 =>
      have vL : ∀ {σ : L2.St}, σ[1]? = some (some (.ref q)) → Mk p S 0 (isL p S 1500 1 0) (tVar 1) σ H7 := fun h => Mk.Lm (Mk.LS (mk_var h Lk7 stb_LS)) (Nat.le_refl _) (Nat.zero_le _)
      exact Mk.Lm (mk_lst (mkA_c0 (Mk.L (mk_cat0 (mk_cat0 (mk_slice (vL rfl) mkO_none (mkO_var rfl)) (mk_lst (mkA_c0 (mk_var rfl D7 stb_D) mkA_nil) (by decide)) (by decide)) (mk_slice (vL rfl) (mkO_var rfl) mkO_none) (by decide)))
        (mkA_c0 (Mk.L (mk_cat0 (mk_cat0 (mk_slice (vL rfl) mkO_none (mkO_var rfl)) (mk_lst (mkA_c0 (mk_var rfl D7 stb_D) mkA_nil) (by decide)) (by decide)) (mk_slice (vL rfl) (mkO_add rfl fun _ _ q => ⟨_, _, rfl, rfl, q⟩) mkO_none) (by decide))) mkA_nil)) (by decide)) (by decide) (Nat.le_refl _)
    case k8 =>
    rintro v8 H8 c8 L8 B8 P8 u8 w8
    have Lk8 : isLS p S 300 0 (.ref q) H8 := stb_LS _ _ _ B8 Lk7
    refine Mk.set (p := p) (m := 0) (R := isL p S 40000 2 16) ?x9 P8 (by (first | lia | omega)) (by (first | lia | omega)) ?k9
    case x9 =>
      have vS : ∀ {σ : L2.St}, σ[1]? = some (some (.ref q)) → Mk p S 0 (isLS p S 300 0) (tVar 1) σ H8 := fun h => mk_var h Lk8 stb_LS
      exact Mk.Lm (mk_cat0 (lo := 8) (lo' := 8) (mk_rep (i := 4) (mk_var rfl L8 stb_L) (by decide) (by decide)) (mk_lst (mkA_c0 (Mk.D (mk_tupleOf (Mk.LS (vS rfl))) (Nat.le_refl _) (by decide)) (mkA_c0 cN (mkA_c0 (Mk.T (mk_join (vS rfl) (by decide))) (mkA_c0 (Mk.D mk_dnew (Nat.le_refl _) (by decide)) (mkA_c0 (Mk.D (mk_dictEnum (vS rfl) (by decide)) (Nat.le_refl _) (by decide))
        (mkA_c0 (Mk.L (mk_cat0 (k := 1) (Mk.Lm (Mk.LS (vS rfl)) (Nat.le_refl _) (by decide)) (mk_lst (k := 1) (mkA_c0 (Mk.L (Mk.LS (vS rfl))) mkA_nil) (by decide)) (by decide))) (mkA_c0 (cS 1 (txt_lit _ _ (by decide +kernel))) (mkA_c0 (cI (by decide)) mkA_nil)))))))) (by decide)) (by decide)) (by decide) (Nat.le_refl _)
    case k9 =>
    rintro v9 H9 c9 L9 B9 P9 u9 w9
    refine Mk.ret (p := p) (m := 1) (R := isD p S 40000 2) ?x10 P9 (by (first | lia | omega)) (by (first | lia | omega)) ?k10
    case x10 => exact mk_ixD (mk_var rfl L9 stb_L) (mk_take rfl (by decide) (by decide)) (by decide)
    case k10 =>
    rintro v10 H10 c10 D10 B10 P10 u10 w10
    exact kk v10 H10 c10 (D_mono D10 (by decide) (by decide)) (((((((B14.trans B5).trans B6).trans B7).trans B8).trans B9).trans B10)) P10 (by (first | lia | omega)) (by (first | lia | omega))
end
end K7
set_option Elab.async false
set_option linter.all false
set_option maxRecDepth 100000
set_option maxHeartbeats 400000
namespace K7
open PySem L2 PyProof.Rows
section
variable {p : Addr} {S : List Addr} {m m' n n' k lo lo' : Nat} {R R' : VR} {te ta tb : TE} {σ : L2.St} {H : Hp} {K : PySem.W.Frag}
theorem mk_badKinds {i : Nat} (h : σ[i]? = some (some (.ref p))) (x : Mk p S 0 (isLS p S 300 0) te σ H) : Mk p S 7 (isD p S 40000 3) (tCall spBadKinds [] E0 (tCons (tVar i) (tCons te tNil))) σ H := by
  intro H1 c a b d e Q q
  refine ⟨_, h, x H1 c a b d (by (first | lia | omega)) _ fun v H2 c2 r2 b2 p2 u w => ?_⟩
  exact ⟨p, S, v, c2, rfl, p2, r2, by (first | lia | omega), by (first | lia | omega), fun v3 H3 c3 r3 b3 p3 u3 w3 => q v3 H3 c3 r3 (b2.trans b3) p3 (by (first | lia | omega)) (by (first | lia | omega))⟩
theorem asg2 {i j l nn : Nat} {t : Addr} {x y : V} {rest : TS} {D : Ends} (h : σ[l]? = some (some (.ref t))) (hs : SqT K H t [x, y]) (hn : nn = 2) (k : rest D ((σ.set i (some x)).set j (some y)) H) :
    tSeq (tAsg (tVar l) (gTup K nn (gCons (gName i) (gCons (gName j) gNil)))) rest D σ H := ⟨_, h, t, _, rfl, hs, hn.symm, _, _, rfl, _, _, rfl, rfl, k⟩
theorem LS_le {n n' : Nat} {v : V} (x : isLS p S n lo v H) (h : n ≤ n') : isLS p S n' 0 v H := by
  obtain ⟨l, ss, e, np, g, a, b, t⟩ := x
  exact ⟨l, ss, e, np, g, Nat.le_trans a h, Nat.zero_le _, t⟩
end
def spBadRoom : Sp := fun vs H Q _ => ∃ (p : Addr) (S : List Addr) (t : Addr) (x y : V) (c : Int), vs = [.ref p, .ref t] ∧ PoolS p S H c ∧ H t = some (.tup [x, y]) ∧ isLS p S 4 0 x H ∧ isLS p S 300 0 y H ∧ 0 ≤ c ∧ c + 8 < 1000000 ∧ ∀ v H' c', isD p S 60000 5 v H' → But p H H' → PoolS p S H' c' → c ≤ c' → c' ≤ c + 8 → Q v H'
section
variable {P : Program} {w : World} {K : PySem.W.Frag} {mg : Str → Option Value} {base : Heap}
theorem sc__law_bad_room : FnScope ["pool", "room", "locks", "keys", "way", "some"] ["pool", "room"] (defScope st__law_bad_room) := ⟨rfl, rfl, rfl, by decide +kernel, rfl, by decide +kernel, by decide +kernel⟩
theorem ok_badRoom {f fT fS : Addr} {fd fdT fdS : FuncData} (F : Fun K "_law_bad_room" "_law_bad_room" st__law_bad_room f fd) (G__law_take : FnOk P w K mg base CX0 1 fT fdT ["pool", "many"] spTake) (c__law_take : Cal K mg "_law_take" ["pool", "many"] fT fdT)
    (G__law_bad_kinds : FnOk P w K mg base CX0 3 fS fdS ["pool", "kinds"] spBadKinds) (c__law_bad_kinds : Cal K mg "_law_bad_kinds" ["pool", "kinds"] fS fdS) (m_sorted : mg "sorted" = none) : FnOk P w K mg base CX0 4 f fd ["pool", "room"] spBadRoom := by
  refine F.ok sc__law_bad_room (fun vs H Q E h => ?_) (fun cdv A outer s H vs Q E hr h => ?_)
  · obtain ⟨p, S, t, x, y, c, rfl, _⟩ := h
    rfl
  · obtain ⟨p, S, t, x, y, c, rfl, PH, ht, hx, hy, hc, hc1, kk⟩ := h
    refine ⟨_, (pss_cons (ps_asg (pv 1) (pg_tup rfl (pgs_cons (pg_name (i := 2) sc__law_bad_room.nd rfl (Or.inl rfl)) (pgs_cons (pg_name (i := 3) sc__law_bad_room.nd rfl (Or.inl rfl)) pgs_nil))))
      (pss_cons (ps_set (i := 4) sc__law_bad_room.nd rfl (Or.inl rfl) (pe_call G__law_take (hr.mono (show 1 ≤ 3 by decide)) rfl c__law_take.mg c__law_take.kp c__law_take.b .nil pass0 (pa_cons (pv 0) (pa_cons pe_int pa_nil))))
      (pss_cons (ps_if (pt_cmpR op_lt (pv 4) pe_int (nomark _))
        (pss_one (ps_ret (pe_tup (pa_cons (pe_call G__law_bad_kinds hr rfl c__law_bad_kinds.mg c__law_bad_kinds.kp c__law_bad_kinds.b .nil pass0 (pa_cons (pv 0) (pa_cons (pv 2) pa_nil))) (pa_cons (pv 3) pa_nil))))) pss_nil)
      (pss_cons (ps_if (pt_cmpR op_eq (pv 4) pe_int (nomark _))
        (pss_one (ps_ret (pe_tup (pa_cons (pv 2) (pa_cons (pe_call G__law_bad_kinds hr rfl c__law_bad_kinds.mg c__law_bad_kinds.kp c__law_bad_kinds.b .nil pass0 (pa_cons (pv 0) (pa_cons (pv 3) pa_nil))) pa_nil))))) pss_nil)
      (pss_cons (ps_cut (ps_if (pt_cmpR op_eq (pv 4) pe_int (nomark _))
        (pss_cons (ps_set (i := 5) sc__law_bad_room.nd rfl (Or.inl rfl) (pe_lst (pa_cons pe_l0 (pa_cons (pe_rev2 (pv 2) (pe_un un_neg pe_int)) (pa_cons (pe_op op_rep (pv 2) pe_int) (pa_cons (pe_callB call_sorted rfl m_sorted boot_sorted (pa_cons (pe_op op_cat (pv 2) (pe_lst (pa_cons pe_str (pa_cons pe_str (pa_cons pe_str (pa_cons pe_str pa_nil)))))) pa_nil)) (pa_cons (pe_op op_cat (pv 2) (pe_lst (pa_cons pe_str pa_nil))) (pa_cons (pe_lst (pa_cons pe_str (pa_cons pe_str pa_nil))) pa_nil))))))))
        (pss_one (ps_ret (pe_tup (pa_cons (pe_ix ix_list (pv 5) (pe_call G__law_take (hr.mono (show 1 ≤ 3 by decide)) rfl c__law_take.mg c__law_take.kp c__law_take.b .nil pass0 (pa_cons (pv 0) (pa_cons pe_int pa_nil))) (fun _ _ => rfl)) (pa_cons (pv 3) pa_nil)))))) pss_nil))
      (pss_cons (ps_set (i := 5) sc__law_bad_room.nd rfl (Or.inl rfl) (pe_lst (pa_cons (pe_lst (pa_cons (pv 2) (pa_cons (pv 3) pa_nil))) (pa_cons (pe_tup (pa_cons (pv 2) pa_nil)) (pa_cons (pe_tup (pa_cons (pv 2) (pa_cons (pv 3) (pa_cons pe_l0 pa_nil)))) (pa_cons (pe_tup (pa_cons (pv 3) (pa_cons (pv 2) pa_nil))) (pa_cons pe_non (pa_cons (pv 2) (pa_cons pe_t0 (pa_cons pe_dnewK (pa_cons pe_str (pa_cons (pe_tup (pa_cons (pv 2) (pa_cons (pv 3) (pa_cons (pv 3) pa_nil)))) pa_nil))))))))))))
      (pss_one (ps_ret (pe_ix ix_list (pv 5) (pe_call G__law_take (hr.mono (show 1 ≤ 3 by decide)) rfl c__law_take.mg c__law_take.kp c__law_take.b .nil pass0 (pa_cons (pv 0) (pa_cons pe_int pa_nil))) (fun _ _ => rfl)))))))))), ?_⟩
    refine asg2 rfl (SqT.of ht) rfl ?_
    refine Mk.set (p := p) (m := 1) (R := isI 6) (mk_take rfl (by decide) (by decide)) PH (by (first | lia | omega)) (by (first | lia | omega)) ?_
    rintro v1 H1 c1 ⟨way, rfl, r0, r1⟩ B1 P1 u1 w1
    have hx1 := stb_LS _ _ _ B1 hx
    have hy1 := stb_LS _ _ _ B1 hy
    have Dx : isD p S 20 1 x H1 := D_of_L (L_of_LS hx1)
    have Dy : isD p S 1500 1 y H1 := D_of_L (L_of_LS hy1)
    have fin : ∀ {m n k : Nat} {te : TE} {D : Ends} {σ : L2.St} (h : D.rt = Q), Mk p S m (isD p S n k) te σ H1 → m ≤ 7 → n ≤ 60000 → k ≤ 5 → tRet te D σ H1 := fun {m n k te D σ} h x a b d =>
      Mk.ret x P1 (by (first | lia | omega)) (by (first | lia | omega)) fun v H' c' r B' P' u w => by
        rw [h]
        exact kk v H' c' (D_mono r b d) (B1.trans B') P' (by (first | lia | omega)) (by (first | lia | omega))
    refine ⟨_, rfl, _, _, rfl, rfl, _, rfl, ite2 (fun _ => ?_) (fun _ => ?_)⟩
    · exact fin rfl (mk_tup (mkA_cons (m := 7) (m' := 0) (mk_badKinds rfl (mk_var rfl (LS_le hx1 (by decide)) stb_LS)) (mkA_c0 (Mk.D (mk_var rfl Dy stb_D) (Nat.le_refl _) (by decide)) mkA_nil)) (by decide)) (by decide) (by decide) (by decide)
    refine ⟨_, rfl, rfl, _, rfl, ite2 (fun _ => ?_) (fun _ => ?_)⟩
    · exact fin rfl (mk_tup (mkA_cons (m := 0) (m' := 7) (Mk.D (mk_var rfl Dx stb_D) (Nat.le_refl _) (by decide)) (mkA_cons (m := 7) (m' := 0) (mk_badKinds rfl (mk_var rfl (LS_le hy1 (by decide)) stb_LS)) mkA_nil)) (by decide)) (by decide) (by decide) (by decide)
    refine ⟨fun σ' H' => σ' = [some (.ref p), some (.ref t), some x, some y, some (.int way), none] ∧ H' = H1, ?_, ?_⟩
    rotate_left
    · refine ⟨_, rfl, rfl, _, rfl, ite2 (fun _ => ?_) (fun _ => ⟨rfl, rfl⟩)⟩
      refine Mk.set (p := p) (m := 0) (R := isL p S 400 1 6) ?x5 P1 (by (first | lia | omega)) (by (first | lia | omega)) ?k5
      case x5 =>
        have vx : ∀ {σ : L2.St}, σ[2]? = some (some x) → Mk p S 0 (isLS p S 4 0) (tVar 2) σ H1 := fun h => mk_var h hx1 stb_LS
        exact Mk.Lm (mk_lst (mkA_c0 (Mk.L (mk_lst (k := 0) mkA_nil (by decide))) (mkA_c0 (Mk.L (mk_rev (Mk.LS (vx rfl)) fun _ _ q => ⟨1, rfl, q⟩)) (mkA_c0 (Mk.L (mk_rep (i := 5) (Mk.LS (vx rfl)) (by decide) (by decide)))
          (mkA_c0 (Mk.L (Mk.LS (mk_sorted (mk_catS0 (vx rfl) (mk_lstS [Str.ofString "a", Str.ofString "zz", Str.ofString "b", Str.ofString "c"] (fun _ _ q => q) (fun z hz => by
            simp only [List.mem_cons, List.not_mem_nil, or_false] at hz
            rcases hz with rfl | rfl | rfl | rfl <;> exact txt_lit _ _ (by decide +kernel)) (by decide)) (by decide)) (by decide))))
          (mkA_c0 (Mk.L (Mk.LS (mk_catS0 (vx rfl) (mk_lstS [Str.ofString "a"] (fun _ _ q => q) (fun z hz => by rw [List.mem_singleton.mp hz]; exact txt_lit _ _ (by decide +kernel)) (by decide)) (by decide))))
          (mkA_c0 (Mk.L (mk_lst (k := 0) (mkA_c0 (cS 1 (txt_lit _ _ (by decide +kernel))) (mkA_c0 (cS 1 (txt_lit _ _ (by decide +kernel))) mkA_nil)) (by decide))) mkA_nil)))))) (by decide)) (by decide) (Nat.le_refl _)
      case k5 =>
      rintro v5 H5 c5 L5 B5 P5 u5 w5
      refine Mk.ret (p := p) (m := 1) (R := isD p S 2000 2) ?x6 P5 (by (first | lia | omega)) (by (first | lia | omega)) ?k6
      case x6 => exact Mk.D (mk_tup (mkA_cons (m := 1) (m' := 0) (mk_ixD (mk_var rfl L5 stb_L) (mk_take rfl (by decide) (by decide)) (by decide)) (mkA_c0 (mk_var rfl (stb_D _ _ _ B5 Dy) stb_D) mkA_nil)) (by decide)) (by decide) (by decide)
      rintro v6 H6 c6 D6 B6 P6 u6 w6
      exact kk v6 H6 c6 (D_mono D6 (by decide) (by decide)) ((B1.trans B5).trans B6) P6 (by (first | lia | omega)) (by (first | lia | omega))
    rintro σ' H' ⟨rfl, rfl⟩
    dsimp only
    refine Mk.set (p := p) (m := 0) (R := isL p S 20000 2 10) ?x7 P1 (by (first | lia | omega)) (by (first | lia | omega)) ?k7
    case x7 =>
      have vx : ∀ {σ : L2.St}, σ[2]? = some (some x) → Mk p S 0 (isD p S 20 1) (tVar 2) σ H' := fun h => mk_var h Dx stb_D
      have vy : ∀ {σ : L2.St}, σ[3]? = some (some y) → Mk p S 0 (isD p S 1500 1) (tVar 3) σ H' := fun h => mk_var h Dy stb_D
      exact Mk.Lm (mk_lst (mkA_c0 (Mk.L (mk_lst (mkA_c0 (vx rfl) (mkA_c0 (vy rfl) mkA_nil)) (by decide))) (mkA_c0 (mk_tup (mkA_c0 (vx rfl) mkA_nil) (by decide)) (mkA_c0 (mk_tup (mkA_c0 (vx rfl) (mkA_c0 (vy rfl) (mkA_c0 (Mk.L (mk_lst (k := 0) mkA_nil (by decide))) mkA_nil))) (by decide))
        (mkA_c0 (mk_tup (mkA_c0 (vy rfl) (mkA_c0 (vx rfl) mkA_nil)) (by decide)) (mkA_c0 cN (mkA_c0 (Mk.D (vx rfl) (Nat.le_refl _) (by decide)) (mkA_c0 (mk_tup (k := 1) mkA_nil (by decide)) (mkA_c0 (Mk.D mk_dnew (Nat.le_refl _) (by decide)) (mkA_c0 (cS 1 (txt_lit _ _ (by decide +kernel)))
        (mkA_c0 (mk_tup (mkA_c0 (vx rfl) (mkA_c0 (vy rfl) (mkA_c0 (vy rfl) mkA_nil))) (by decide)) mkA_nil)))))))))) (by decide)) (by decide) (Nat.le_refl _)
    case k7 =>
    rintro v7 H7 c7 L7 B7 P7 u7 w7
    refine Mk.ret (p := p) (m := 1) (R := isD p S 20000 2) ?x8 P7 (by (first | lia | omega)) (by (first | lia | omega)) ?k8
    case x8 => exact mk_ixD (mk_var rfl L7 stb_L) (mk_take rfl (by decide) (by decide)) (by decide)
    case k8 =>
    rintro v8 H8 c8 D8 B8 P8 u8 w8
    exact kk v8 H8 c8 (D_mono D8 (by decide) (by decide)) ((B1.trans B7).trans B8) P8 (by (first | lia | omega)) (by (first | lia | omega))
end
end K7
set_option Elab.async false
set_option linter.all false
set_option maxRecDepth 100000
set_option maxHeartbeats 4000000
namespace K7
open PySem L2 PyProof.Rows
theorem strs_not_pool {ss : List Str} {a f c : Int} (h : HO.lst (ss.map V.str) = .lst [.int a, .int f, .int c]) : False := by
  cases ss with
  | nil => cases h
  | cons x t => simp at h
theorem HouseAt.but {H H' : Hp} {v : V} {h : Hs} {p : Addr} {c : Int} (x : HouseAt H v h) (pl : PoolAt H p c) (b : But p H H') : HouseAt H' v h := by
  obtain ⟨o, hp, a0, f0, rfl⟩ := pl
  obtain ⟨t, a, r, vs, rfl, h1, h2, h3, hl, h4⟩ := x
  have ns : ∀ {y : Addr} {ss : List Str}, H y = some (.lst (ss.map V.str)) → y ≠ p := fun e z => by
    rw [z, hp] at e
    exact strs_not_pool (Option.some.inj e).symm
  have nt : ∀ {y : Addr} {us : List V}, H y = some (.tup us) → y ≠ p := fun e z => by
    rw [z, hp] at e
    cases e
  have nr : r ≠ p := fun z => by
    rw [z, hp] at h3
    cases h3
    have hlt : 0 < h.2.length := by rw [← hl]; exact Nat.succ_pos 2
    obtain ⟨_, _, _, e, _⟩ := h4 0 _ h.2[0] rfl (List.getElem?_eq_getElem hlt)
    cases e
  refine ⟨t, a, r, vs, rfl, b _ _ (nt h1) h1, b _ _ (ns h2) h2, b _ _ nr h3, hl, fun i v q e1 e2 => ?_⟩
  obtain ⟨t', a', b', e, g1, g2, g3⟩ := h4 i v q e1 e2
  exact ⟨t', a', b', e, b _ _ (nt g1) g1, b _ _ (ns g2) g2, b _ _ (ns g3) g3⟩
def houseData (h : Hs) : PyData := .tuple [.list (h.1.map PyData.str), .list (h.2.map roomData)]
theorem see_room {H : Hp} {v : V} {r : Rm} (x : RoomAt H v r) : See H v (roomData r) := by
  obtain ⟨t, a, b, rfl, h1, h2, h3⟩ := x
  exact .tup h1 (.cons (.lst h2 (SeeAll.strs _)) (.cons (.lst h3 (SeeAll.strs _)) .nil))
theorem see_rooms {H : Hp} : ∀ {vs : List V} {rs : List Rm}, RoomsAt H vs rs → SeeAll H vs (rs.map roomData)
  | [], [], _ => .nil
  | v :: vs, [], h => absurd h.1 (by simp)
  | [], r :: rs, h => absurd h.1 (by simp)
  | v :: vs, r :: rs, h => .cons (see_room (h.2 0 v r rfl rfl)) (see_rooms ⟨by simpa using h.1, fun i u q e1 e2 => h.2 (i + 1) u q (by simpa using e1) (by simpa using e2)⟩)
theorem see_house {H : Hp} {v : V} {h : Hs} (x : HouseAt H v h) : See H v (houseData h) := by
  obtain ⟨t, a, r, vs, rfl, h1, h2, h3, h4⟩ := x
  exact .tup h1 (.cons (.lst h2 (SeeAll.strs _)) (.cons (.lst h3 (see_rooms h4)) .nil))
theorem rooms_depth : ∀ rs : List Rm, PyData.depthAll (rs.map roomData) ≤ 2
  | [] => Nat.zero_le _
  | r :: rs => by
    rw [List.map_cons]
    simp only [PyData.depthAll, roomData, PyData.depth, strs_depth]
    exact Nat.max_le.mpr ⟨by decide, rooms_depth rs⟩
theorem rooms_nil : ∀ rs : List Rm, PyData.eqv (.list (rs.map roomData)) (.list []) = rs.isEmpty
  | [] => rfl
  | _ :: _ => rfl
structure HouseLaw (h : Hs) : Prop where
  ok : HouseOk h
  rl : h.2.length ≤ 60
  kl : (allKeys h).length ≤ 276
theorem HouseLaw.keys {h : Hs} (x : HouseLaw h) : h.1.length ≤ 300 := by
  have := x.kl
  unfold allKeys at this
  rw [List.length_append] at this
  (first | lia | omega)
theorem flat_mem {r : Rm} : ∀ {l : List Rm}, r ∈ l → r.2.length ≤ (l.flatMap (·.2)).length
  | x :: l, h => by
    rw [List.flatMap_cons, List.length_append]
    rcases List.mem_cons.mp h with z | z
    · rw [z]; (first | lia | omega)
    · have := flat_mem z; (first | lia | omega)
theorem HouseLaw.within {h : Hs} (x : HouseLaw h) {r : Rm} (m : r ∈ h.2) : r.2.length ≤ 300 := by
  have := x.kl
  unfold allKeys at this
  rw [List.length_append] at this
  have z : r.2.length ≤ (h.2.flatMap (·.2)).length := by
    exact flat_mem m
  (first | lia | omega)
theorem txts {ks : List Str} (h : ∀ k ∈ ks, KindOk k) : ∀ z ∈ ks, TxtOk 4 z := fun z hz => txt_kind (h z hz)
theorem fine_room {r : Rm} (ok : RoomOk r) (h : r.2.length ≤ 300) : Fine 1522 2 (roomData r) := by
  have a := (Fines.strs (m := 4) (txts ok.lk)).mono (n' := 20) (k' := 0) (Nat.le_trans (Nat.mul_le_mul_left _ ok.l4) (by decide)) (Nat.le_refl _)
  have b := (Fines.strs (m := 4) (txts ok.kk)).mono (n' := 1500) (k' := 0) (Nat.le_trans (Nat.mul_le_mul_left _ h) (by decide)) (Nat.le_refl _)
  exact (Fine.tup (Fines.cons (.lst a) (Fines.cons (.lst b) (Fines.nil (n := 0))))).mono (by decide) (by decide)
theorem fines_rooms : ∀ {rs : List Rm}, (∀ r ∈ rs, RoomOk r ∧ r.2.length ≤ 300) → Fines (1523 * rs.length) 2 (rs.map roomData)
  | [], _ => Fines.nil
  | r :: rs, h => by
    have a := h r List.mem_cons_self
    have b := fines_rooms (rs := rs) fun q hq => h q (List.mem_cons_of_mem _ hq)
    rw [List.map_cons, List.length_cons, Nat.mul_succ]
    exact (Fines.cons (fine_room a.1 a.2) b).mono (by (first | lia | omega)) (Nat.le_refl _)
theorem HouseLaw.fines {h : Hs} (x : HouseLaw h) : Fines 92000 2 (h.2.map roomData) :=
  (fines_rooms fun r hr => ⟨x.ok.rs r hr, x.within hr⟩).mono (Nat.le_trans (Nat.mul_le_mul_left _ x.rl) (by decide)) (Nat.le_refl _)
theorem HouseLaw.fine {h : Hs} (x : HouseLaw h) : Fine 95000 4 (houseData h) := by
  have a := (Fines.strs (m := 4) (txts x.ok.kk)).mono (n' := 1500) (k' := 2) (Nat.le_trans (Nat.mul_le_mul_left _ x.keys) (by decide)) (by decide)
  exact (Fine.tup (Fines.cons (.lst a) (Fines.cons (.lst x.fines) (Fines.nil (n := 0))))).mono (by decide) (by decide)
def spSpoilt : Sp := fun vs H Q _ => ∃ (p : Addr) (S : List Addr) (v : V) (h : Hs) (c : Int), vs = [.ref p, v] ∧ PoolS p S H c ∧ HouseAt (hid p S H) v h ∧ HouseLaw h ∧ 0 ≤ c ∧ c + 10 < 1000000 ∧ ∀ v H' c', isD p S 900000 8 v H' → But p H H' → PoolS p S H' c' → c ≤ c' → c' ≤ c + 10 → Q v H'
section
variable {P : Program} {w : World} {K : PySem.W.Frag} {mg : Str → Option Value} {base : Heap}
theorem sc__law_spoilt : FnScope ["pool", "house", "keys", "rooms", "way", "some", "at", "odd"] ["pool", "house"] (defScope st__law_spoilt) := ⟨rfl, rfl, rfl, by decide +kernel, rfl, by decide +kernel, by decide +kernel⟩
theorem ok_spoilt {f fT fS fR : Addr} {fd fdT fdS fdR : FuncData} (F : Fun K "_law_spoilt" "_law_spoilt" st__law_spoilt f fd) (G__law_take : FnOk P w K mg base CX0 1 fT fdT ["pool", "many"] spTake) (c__law_take : Cal K mg "_law_take" ["pool", "many"] fT fdT)
    (G__law_bad_kinds : FnOk P w K mg base CX0 3 fS fdS ["pool", "kinds"] spBadKinds) (c__law_bad_kinds : Cal K mg "_law_bad_kinds" ["pool", "kinds"] fS fdS)
    (G__law_bad_room : FnOk P w K mg base CX0 4 fR fdR ["pool", "room"] spBadRoom) (c__law_bad_room : Cal K mg "_law_bad_room" ["pool", "room"] fR fdR) (m_len : mg "len" = none) (m_tuple : mg "tuple" = none) : FnOk P w K mg base CX0 5 f fd ["pool", "house"] spSpoilt := by
  refine F.ok sc__law_spoilt (fun vs H Q E h => ?_) (fun cdv A outer s H vs Q E hr h => ?_)
  · obtain ⟨p, S, v, h, c, rfl, _⟩ := h
    rfl
  · obtain ⟨p, S, v, hs, c, rfl, PH, hh0, hw, hc, hc1, kk⟩ := h
    have hu := hu_of hr
    obtain ⟨t, a, r, vs, rfl, ht, ha, hrr, hR⟩ := hh0
    obtain ⟨nt, ht⟩ := of_hid ht
    obtain ⟨na, ha⟩ := of_hid ha
    obtain ⟨nr, hrr⟩ := of_hid hrr
    refine ⟨_, (pss_cons (ps_asg (pv 1) (pg_tup rfl (pgs_cons (pg_name (i := 2) sc__law_spoilt.nd rfl (Or.inl rfl)) (pgs_cons (pg_name (i := 3) sc__law_spoilt.nd rfl (Or.inl rfl)) pgs_nil))))
      (pss_cons (ps_set (i := 4) sc__law_spoilt.nd rfl (Or.inl rfl) (pe_call G__law_take (hr.mono (show 1 ≤ 4 by decide)) rfl c__law_take.mg c__law_take.kp c__law_take.b .nil pass0 (pa_cons (pv 0) (pa_cons pe_int pa_nil))))
      (pss_cons (ps_if (pt_cmpR op_eq (pv 4) pe_int (nomark _))
        (pss_one (ps_ret (pe_tup (pa_cons (pe_call G__law_bad_kinds (hr.mono (show 3 ≤ 4 by decide)) rfl c__law_bad_kinds.mg c__law_bad_kinds.kp c__law_bad_kinds.b .nil pass0 (pa_cons (pv 0) (pa_cons (pv 2) pa_nil))) (pa_cons (pv 3) pa_nil))))) pss_nil)
      (pss_cons (ps_cut (ps_if (PW.pt (pw_or (pt_cmpR op_eq (pv 4) pe_int (nomark _)) (pw_or1 (pt_cmpR op_eqD (pv 3) pe_l0 (nomark _)))))
        (pss_cons (ps_set (i := 5) sc__law_spoilt.nd rfl (Or.inl rfl) (pe_lst (pa_cons (pe_lst (pa_cons (pv 2) (pa_cons (pv 3) pa_nil))) (pa_cons (pe_tup (pa_cons (pv 2) pa_nil)) (pa_cons (pe_tup (pa_cons (pv 2) (pa_cons (pv 3) (pa_cons pe_l0 pa_nil)))) (pa_cons (pe_tup (pa_cons (pv 3) (pa_cons (pv 2) pa_nil))) (pa_cons pe_non (pa_cons (pe_tup (pa_cons (pv 2) (pa_cons (pe_callTy call_tuple_of rfl m_tuple (by decide +kernel) (pa_cons (pv 3) pa_nil)) pa_nil))) (pa_cons (pe_tup (pa_cons (pv 2) (pa_cons pe_non pa_nil))) (pa_cons pe_dnewK pa_nil))))))))))
        (pss_one (ps_ret (pe_ix ix_list (pe_op op_cat (pv 5) (pe_lst (pa_cons (pe_tup (pa_cons (pv 2) (pa_cons pe_dnewK pa_nil))) (pa_cons (pv 2) (pa_cons (pe_tup (pa_cons (pv 2) (pa_cons (pe_op op_cat (pv 3) (pe_lst (pa_cons pe_non pa_nil))) pa_nil))) (pa_cons (pe_tup (pa_cons (pv 2) (pa_cons (pe_lst (pa_cons (pv 2) pa_nil)) pa_nil))) pa_nil)))))) (pe_call G__law_take (hr.mono (show 1 ≤ 4 by decide)) rfl c__law_take.mg c__law_take.kp c__law_take.b .nil pass0 (pa_cons (pv 0) (pa_cons pe_int pa_nil))) (fun _ _ => rfl))))) pss_nil))
      (pss_cons (ps_set (i := 6) sc__law_spoilt.nd rfl (Or.inl rfl) (pe_call G__law_take (hr.mono (show 1 ≤ 4 by decide)) rfl c__law_take.mg c__law_take.kp c__law_take.b .nil pass0 (pa_cons (pv 0) (pa_cons (pe_callB call_len_seq rfl m_len PySem.boot_len (pa_cons (pv 3) pa_nil)) pa_nil))))
      (pss_cons (ps_cut (ps_if (pt_cmpR op_eq (pv 4) pe_int (nomark _))
        (@pss_cons _ _ _ _ _ (@ps_set _ _ 7 _ _ _ _ sc__law_spoilt.nd rfl (Or.inl rfl) (@pe_ix _ _ _ _ _ _ _ ix_list (@pe_lst _ _ _ _ (@pa_c2 _ _ _ _ _ (@pe_non _ _ _) (@pa_c2 _ _ _ _ _ (@pe_tup _ _ _ _ _ (@pa_nil _)) (@pa_c2 _ _ _ _ _ (@pe_lst _ _ _ _ (@pa_nil _)) (@pa_c2 _ _ _ _ _ (@pe_str _ _ _ _) (@pa_c2 _ _ _ _ _ (@pe_tup _ _ _ _ _ (@pa_c2 _ _ _ _ _ (@pe_lst _ _ _ _ (@pa_nil _)) (@pa_c2 _ _ _ _ _ (@pe_lst _ _ _ _ (@pa_nil _)) (@pa_nil _) rfl) rfl)) (@pa_c2 _ _ _ _ _ (@pe_tup _ _ _ _ _ (@pa_c2 _ _ _ _ _ (@pe_lst _ _ _ _ (@pa_c2 _ _ _ _ _ (@pe_str _ _ _ _) (@pa_nil _) rfl)) (@pa_c2 _ _ _ _ _ (@pe_non _ _ _) (@pa_nil _) rfl) rfl)) (@pa_c2 _ _ _ _ _ (@pe_tup _ _ _ _ _ (@pa_c2 _ _ _ _ _ (@pe_str _ _ _ _) (@pa_c2 _ _ _ _ _ (@pe_str _ _ _ _) (@pa_nil _) rfl) rfl)) (@pa_c2 _ _ _ _ _ (@pe_dnewK _ _) (@pa_nil _) rfl) rfl) rfl) rfl) rfl) rfl) rfl) rfl)) (pe_call G__law_take (hr.mono (show 1 ≤ 4 by decide)) rfl c__law_take.mg c__law_take.kp c__law_take.b .nil pass0 (pa_cons (pv 0) (pa_cons pe_int pa_nil))) (fun _ _ => rfl)) rfl (by first | exact .inl rfl | exact .inr rfl))
        (pss_one (ps_ret (pe_tup (pa_cons (pv 2) (pa_cons (pe_op op_cat (pe_op op_cat (pe_slice sl_list (pv 3) po_none (po_some (pv 6))) (pe_lst (pa_cons (pv 7) pa_nil))) (pe_slice sl_list (pv 3) (po_some (pv 6)) po_none)) pa_nil)))))) pss_nil))
      (pss_one (ps_ret (pe_tup (pa_cons (pv 2) (pa_cons (pe_op op_cat (pe_op op_cat (pe_slice sl_list (pv 3) po_none (po_some (pv 6))) (pe_lst (pa_cons (pe_call G__law_bad_room hr rfl c__law_bad_room.mg c__law_bad_room.kp c__law_bad_room.b .nil pass0 (pa_cons (pv 0) (pa_cons (pe_ix ix_list (pv 3) (pv 6) (fun _ _ => rfl)) pa_nil))) pa_nil))) (pe_slice sl_list (pv 3) (po_some (pe_op op_add (pv 6) pe_int)) po_none)) pa_nil))))))))))), ?_⟩
    refine asg2 rfl (SqT.of ht) rfl ?_
    refine Mk.set (p := p) (m := 1) (R := isI 10) (mk_take rfl (by decide) (by decide)) PH (by (first | lia | omega)) (by (first | lia | omega)) ?_
    rintro v1 H1 c1 ⟨way, rfl, r0, r1⟩ B1 P1 u1 w1
    have LK0 : isLS p S 300 0 (.ref a) H := ⟨a, hs.1, rfl, na, ha, hw.keys, Nat.zero_le _, txts hw.ok.kk⟩
    have LR0 : isL p S 92000 2 0 (.ref r) H := ⟨r, vs, _, rfl, nr, hrr, see_rooms hR, hw.fines, Nat.zero_le _⟩
    have LK1 := stb_LS _ _ _ B1 LK0
    have LR1 := stb_L _ _ _ B1 LR0
    have Dk : isD p S 1500 1 (.ref a) H1 := D_of_L (L_of_LS LK1)
    have Dr : isD p S 92000 3 (.ref r) H1 := D_of_L LR1
    have hR1 := hR.same (hid_but B1)
    have hl1 : vs.length = hs.2.length := hR.1
    have fin : ∀ {m n k : Nat} {te : TE} {D : Ends} {σ : L2.St} {H2 : Hp} {c2 : Int} (h : D.rt = Q), But p H1 H2 → PoolS p S H2 c2 → c1 ≤ c2 → c2 ≤ c1 + 1 → Mk p S m (isD p S n k) te σ H2 → m ≤ 8 → n ≤ 900000 → k ≤ 8 → tRet te D σ H2 := fun {m n k te D σ H2 c2} h B2 P2 u2 w2 x a b d =>
      Mk.ret x P2 (by (first | lia | omega)) (by (first | lia | omega)) fun v H' c' r B' P' u w => by
        rw [h]
        exact kk v H' c' (D_mono r b d) ((B1.trans B2).trans B') P' (by (first | lia | omega)) (by (first | lia | omega))
    refine ⟨_, rfl, rfl, _, rfl, ite2 (fun _ => ?_) (fun _ => ?_)⟩
    · exact fin rfl (But.refl _ _) P1 (Int.le_refl _) (by (first | lia | omega)) (mk_tup (mkA_cons (m := 7) (m' := 0) (mk_badKinds rfl (mk_var rfl LK1 stb_LS)) (mkA_c0 (mk_var rfl Dr stb_D) mkA_nil)) (by decide)) (by decide) (by decide) (by decide)
    refine ⟨fun σ' H' => σ' = [some (.ref p), some (.ref t), some (.ref a), some (.ref r), some (.int way), none, none, none] ∧ hs.2 ≠ [] ∧ But p H1 H' ∧ PoolS p S H' c1, ?_, ?_⟩
    rotate_left
    · have hRp := hR1.same hid_same
      have hr1 : H1 r = some (.lst vs) := B1 _ _ nr.ne hrr
      refine ⟨_, rfl, rfl, _, rfl, ite2 (fun _ => ?_) (fun _ => ⟨_, rfl, Nat.zero_le _, fun l nl => ?_⟩)⟩
      rotate_left
      · have n2 : r ≠ l := ne_of_none hr1 nl
        refine ⟨.list (hs.2.map roomData), .list [], .lst (by rw [upd_ne n2]; exact hr1) ((sees_rooms hRp).same fun b o e _ => by rw [upd_ne (ne_of_none e nl)]; exact e), .lst upd_same .nil, rooms_lay fun q hq => ⟨(hw.ok.rs q hq).lk, (hw.ok.rs q hq).kk⟩, rfl, ?_, _, rfl, ?_⟩
        · have e1 : (PyData.list []).depth = 1 := rfl
          rw [e1]
          exact Nat.lt_of_le_of_lt (Nat.add_le_add_left (Nat.min_le_right _ _) _) hu
        rw [if_neg Bool.false_ne_true, rooms_nil]
        have B2 : But p H1 (upd H1 l (.lst [])) := but_new nl
        have P2 : PoolS p S (upd H1 l (.lst [])) c1 := pool_new P1 nl
        cases he : hs.2.isEmpty with
        | false => exact iteF ⟨rfl, (fun z => by rw [z] at he; cases he), B2, P2⟩
        | true =>
          refine iteT ?_
          generalize upd H1 l (.lst []) = H2 at *
          refine Mk.set (p := p) (m := 0) (R := isL p S 400000 4 8) ?x5 P2 (by (first | lia | omega)) (by (first | lia | omega)) ?k5
          case x5 =>
            have vk : ∀ {σ : L2.St}, σ[2]? = some (some (.ref a)) → Mk p S 0 (isD p S 1500 3) (tVar 2) σ H2 := fun h => mk_var h (D_mono (stb_D _ _ _ B2 Dk) (Nat.le_refl _) (by decide)) stb_D
            have vr : ∀ {σ : L2.St}, σ[3]? = some (some (.ref r)) → Mk p S 0 (isD p S 92000 3) (tVar 3) σ H2 := fun h => mk_var h (stb_D _ _ _ B2 Dr) stb_D
            have vl : ∀ {σ : L2.St}, σ[3]? = some (some (.ref r)) → Mk p S 0 (isL p S 92000 2 0) (tVar 3) σ H2 := fun h => mk_var h (stb_L _ _ _ B2 LR1) stb_L
            exact Mk.Lm (mk_lst (mkA_c0 (Mk.L (mk_lst (mkA_c0 (vk rfl) (mkA_c0 (vr rfl) mkA_nil)) (by decide))) (mkA_c0 (mk_tup (mkA_c0 (vk rfl) mkA_nil) (by decide)) (mkA_c0 (mk_tup (mkA_c0 (vk rfl) (mkA_c0 (vr rfl) (mkA_c0 (Mk.L (mk_lst (k := 2) mkA_nil (by decide))) mkA_nil))) (by decide))
              (mkA_c0 (mk_tup (mkA_c0 (vr rfl) (mkA_c0 (vk rfl) mkA_nil)) (by decide)) (mkA_c0 cN (mkA_c0 (mk_tup (mkA_c0 (vk rfl) (mkA_c0 (mk_tupleOf (vl rfl)) mkA_nil)) (by decide)) (mkA_c0 (mk_tup (mkA_c0 (vk rfl) (mkA_c0 cN mkA_nil)) (by decide)) (mkA_c0 (Mk.D mk_dnew (Nat.le_refl _) (by decide)) mkA_nil)))))))) (by decide)) (by decide) (Nat.le_refl _)
          case k5 =>
          rintro v5 H5 c5 L5 B5 P5 u5 w5
          refine fin (m := 1) (n := 600000) (k := 4) rfl (B2.trans B5) P5 (by (first | lia | omega)) (by (first | lia | omega)) ?_ (by decide) (by decide) (by decide)
          have B25 := B2.trans B5
          have vk : ∀ {σ : L2.St}, σ[2]? = some (some (.ref a)) → Mk p S 0 (isD p S 1500 3) (tVar 2) σ H5 := fun h => mk_var h (D_mono (stb_D _ _ _ B25 Dk) (Nat.le_refl _) (by decide)) stb_D
          have vk1 : ∀ {σ : L2.St}, σ[2]? = some (some (.ref a)) → Mk p S 0 (isD p S 1500 2) (tVar 2) σ H5 := fun h => mk_var h (D_mono (stb_D _ _ _ B25 Dk) (Nat.le_refl _) (by decide)) stb_D
          have vl : ∀ {σ : L2.St}, σ[3]? = some (some (.ref r)) → Mk p S 0 (isL p S 92000 2 0) (tVar 3) σ H5 := fun h => mk_var h (stb_L _ _ _ B25 LR1) stb_L
          exact Mk.D (mk_ixD (mk_cat0 (lo := 8) (lo' := 4) (mk_var rfl L5 stb_L) (mk_lst (mkA_c0 (mk_tup (mkA_c0 (vk rfl) (mkA_c0 (Mk.D mk_dnew (Nat.le_refl _) (by decide)) mkA_nil)) (by decide)) (mkA_c0 (Mk.D (vk rfl) (Nat.le_refl _) (by decide))
            (mkA_c0 (mk_tup (mkA_c0 (vk rfl) (mkA_c0 (Mk.L (mk_cat0 (vl rfl) (mk_lst (mkA_c0 cN mkA_nil) (by decide)) (by decide))) mkA_nil)) (by decide)) (mkA_c0 (mk_tup (mkA_c0 (vk rfl) (mkA_c0 (Mk.L (mk_lst (mkA_c0 (vk1 rfl) mkA_nil) (by decide))) mkA_nil)) (by decide)) mkA_nil)))) (by decide)) (by decide)) (mk_take rfl (by decide) (by decide)) (by decide)) (by decide) (Nat.le_refl _)
      · have B2 : But p H1 H1 := But.refl _ _
        have P2 := P1
        refine Mk.set (p := p) (m := 0) (R := isL p S 400000 4 8) ?x5 P2 (by (first | lia | omega)) (by (first | lia | omega)) ?k5
        case x5 =>
          have vk : ∀ {σ : L2.St}, σ[2]? = some (some (.ref a)) → Mk p S 0 (isD p S 1500 3) (tVar 2) σ H1 := fun h => mk_var h (D_mono (stb_D _ _ _ B2 Dk) (Nat.le_refl _) (by decide)) stb_D
          have vr : ∀ {σ : L2.St}, σ[3]? = some (some (.ref r)) → Mk p S 0 (isD p S 92000 3) (tVar 3) σ H1 := fun h => mk_var h (stb_D _ _ _ B2 Dr) stb_D
          have vl : ∀ {σ : L2.St}, σ[3]? = some (some (.ref r)) → Mk p S 0 (isL p S 92000 2 0) (tVar 3) σ H1 := fun h => mk_var h (stb_L _ _ _ B2 LR1) stb_L
          exact Mk.Lm (mk_lst (mkA_c0 (Mk.L (mk_lst (mkA_c0 (vk rfl) (mkA_c0 (vr rfl) mkA_nil)) (by decide))) (mkA_c0 (mk_tup (mkA_c0 (vk rfl) mkA_nil) (by decide)) (mkA_c0 (mk_tup (mkA_c0 (vk rfl) (mkA_c0 (vr rfl) (mkA_c0 (Mk.L (mk_lst (k := 2) mkA_nil (by decide))) mkA_nil))) (by decide))
            (mkA_c0 (mk_tup (mkA_c0 (vr rfl) (mkA_c0 (vk rfl) mkA_nil)) (by decide)) (mkA_c0 cN (mkA_c0 (mk_tup (mkA_c0 (vk rfl) (mkA_c0 (mk_tupleOf (vl rfl)) mkA_nil)) (by decide)) (mkA_c0 (mk_tup (mkA_c0 (vk rfl) (mkA_c0 cN mkA_nil)) (by decide)) (mkA_c0 (Mk.D mk_dnew (Nat.le_refl _) (by decide)) mkA_nil)))))))) (by decide)) (by decide) (Nat.le_refl _)
        case k5 =>
        rintro v5 H5 c5 L5 B5 P5 u5 w5
        refine fin (m := 1) (n := 600000) (k := 4) rfl (B2.trans B5) P5 (by (first | lia | omega)) (by (first | lia | omega)) ?_ (by decide) (by decide) (by decide)
        have B25 := B2.trans B5
        have vk : ∀ {σ : L2.St}, σ[2]? = some (some (.ref a)) → Mk p S 0 (isD p S 1500 3) (tVar 2) σ H5 := fun h => mk_var h (D_mono (stb_D _ _ _ B25 Dk) (Nat.le_refl _) (by decide)) stb_D
        have vk1 : ∀ {σ : L2.St}, σ[2]? = some (some (.ref a)) → Mk p S 0 (isD p S 1500 2) (tVar 2) σ H5 := fun h => mk_var h (D_mono (stb_D _ _ _ B25 Dk) (Nat.le_refl _) (by decide)) stb_D
        have vl : ∀ {σ : L2.St}, σ[3]? = some (some (.ref r)) → Mk p S 0 (isL p S 92000 2 0) (tVar 3) σ H5 := fun h => mk_var h (stb_L _ _ _ B25 LR1) stb_L
        exact Mk.D (mk_ixD (mk_cat0 (lo := 8) (lo' := 4) (mk_var rfl L5 stb_L) (mk_lst (mkA_c0 (mk_tup (mkA_c0 (vk rfl) (mkA_c0 (Mk.D mk_dnew (Nat.le_refl _) (by decide)) mkA_nil)) (by decide)) (mkA_c0 (Mk.D (vk rfl) (Nat.le_refl _) (by decide))
          (mkA_c0 (mk_tup (mkA_c0 (vk rfl) (mkA_c0 (Mk.L (mk_cat0 (vl rfl) (mk_lst (mkA_c0 cN mkA_nil) (by decide)) (by decide))) mkA_nil)) (by decide)) (mkA_c0 (mk_tup (mkA_c0 (vk rfl) (mkA_c0 (Mk.L (mk_lst (mkA_c0 (vk1 rfl) mkA_nil) (by decide))) mkA_nil)) (by decide)) mkA_nil)))) (by decide)) (by decide)) (mk_take rfl (by decide) (by decide)) (by decide)) (by decide) (Nat.le_refl _)
    rintro σ' H2 ⟨rfl, hne, B2, P2⟩
    dsimp only
    have hr2 : H2 r = some (.lst vs) := B2 _ _ nr.ne (B1 _ _ nr.ne hrr)
    have vpos : 0 < vs.length := by
      rw [hl1]
      cases hq : hs.2 with
      | nil => exact absurd hq hne
      | cons x y => exact Nat.succ_pos _
    have vle : vs.length ≤ 60 := by rw [hl1]; exact hw.rl
    refine Mk.set (p := p) (m := 1) (R := isI ((vs.length : Nat) : Int)) ?x7 P2 (by (first | lia | omega)) (by (first | lia | omega)) ?k7
    case x7 => exact mk_takeE rfl (fun H1' b Q q' => ⟨_, rfl, r, vs, rfl, .inl (SqL.of (b _ _ nr.ne hr2)), q'⟩) (by (first | lia | omega)) (by (first | lia | omega))
    case k7 =>
    rintro v7 H7 c7 ⟨at0, rfl, a0, a1⟩ B7 P7 u7 w7
    obtain ⟨at', rfl⟩ : ∃ j : Nat, at0 = (j : Int) := ⟨at0.toNat, by (first | lia | omega)⟩
    have hat : at' < vs.length := by (first | lia | omega)
    have B27 := B2.trans B7
    refine ⟨fun σ' H' => σ' = [some (.ref p), some (.ref t), some (.ref a), some (.ref r), some (.int way), none, some (.int (at' : Int)), none] ∧ H' = H7, ?_, ?_⟩
    rotate_left
    · refine ⟨_, rfl, rfl, _, rfl, ite2 (fun _ => ?_) (fun _ => ⟨rfl, rfl⟩)⟩
      refine Mk.set (p := p) (m := 1) (R := isD p S 100 2) ?x8 P7 (by (first | lia | omega)) (by (first | lia | omega)) ?k8
      case x8 =>
        exact Mk.D (mk_ixD (mk_lst (mkA_c0 cN (mkA_c0 (mk_tup (k := 1) mkA_nil (by decide)) (mkA_c0 (Mk.L (mk_lst (k := 1) mkA_nil (by decide))) (mkA_c0 (cS 1 (txt_lit _ _ (by decide +kernel))) (mkA_c0 (mk_tup (mkA_c0 (Mk.L (mk_lst (k := 0) mkA_nil (by decide))) (mkA_c0 (Mk.L (mk_lst (k := 0) mkA_nil (by decide))) mkA_nil)) (by decide))
          (mkA_c0 (mk_tup (mkA_c0 (Mk.L (mk_lst (k := 0) (mkA_c0 (cS 1 (txt_lit _ _ (by decide +kernel))) mkA_nil) (by decide))) (mkA_c0 cN mkA_nil)) (by decide)) (mkA_c0 (mk_tup (k := 1) (mkA_c0 (cS 1 (txt_lit _ _ (by decide +kernel))) (mkA_c0 (cS 1 (txt_lit _ _ (by decide +kernel))) mkA_nil)) (by decide)) (mkA_c0 (Mk.D mk_dnew (Nat.le_refl _) (by decide)) mkA_nil)))))))) (by decide)) (mk_take rfl (by decide) (by decide)) (by decide)) (by decide) (Nat.le_refl _)
      case k8 =>
      rintro v8 H8 c8 D8 B8 P8 u8 w8
      have B28 := B27.trans B8
      refine Mk.ret (p := p) (m := 0) (R := isD p S 200000 4) ?x9 P8 (by (first | lia | omega)) (by (first | lia | omega)) ?k9
      case x9 =>
        have vk : ∀ {σ : L2.St}, σ[2]? = some (some (.ref a)) → Mk p S 0 (isD p S 1500 3) (tVar 2) σ H8 := fun h => mk_var h (D_mono (stb_D _ _ _ B28 Dk) (Nat.le_refl _) (by decide)) stb_D
        have vl : ∀ {σ : L2.St}, σ[3]? = some (some (.ref r)) → Mk p S 0 (isL p S 92000 2 0) (tVar 3) σ H8 := fun h => mk_var h (stb_L _ _ _ B28 LR1) stb_L
        exact Mk.D (mk_tup (mkA_c0 (vk rfl) (mkA_c0 (Mk.L (mk_cat0 (mk_cat0 (mk_slice (vl rfl) mkO_none (mkO_var rfl)) (mk_lst (mkA_c0 (mk_var rfl D8 stb_D) mkA_nil) (by decide)) (by decide)) (mk_slice (vl rfl) (mkO_var rfl) mkO_none) (by decide))) mkA_nil)) (by decide)) (by decide) (Nat.le_refl _)
      rintro v9 H9 c9 D9 B9 P9 u9 w9
      exact kk v9 H9 c9 (D_mono D9 (by decide) (by decide)) ((B1.trans B28).trans B9) P9 (by (first | lia | omega)) (by (first | lia | omega))
    rintro σ' H8 ⟨rfl, rfl⟩
    dsimp only
    refine Mk.ret (p := p) (m := 8) (R := isD p S 300000 7) ?x10 P7 (by (first | lia | omega)) (by (first | lia | omega)) ?k10
    case x10 =>
      have vk : ∀ {σ : L2.St}, σ[2]? = some (some (.ref a)) → Mk p S 0 (isD p S 1500 6) (tVar 2) σ H8 := fun h => mk_var h (D_mono (stb_D _ _ _ B27 Dk) (Nat.le_refl _) (by decide)) stb_D
      have vl : ∀ {σ : L2.St}, σ[3]? = some (some (.ref r)) → Mk p S 0 (isL p S 92000 5 0) (tVar 3) σ H8 := fun h => mk_var h (L_mono (stb_L _ _ _ B27 LR1) (Nat.le_refl _) (by decide)) stb_L
      refine Mk.D (mk_tup (mkA_cons (m := 0) (m' := 8) (vk rfl) (mkA_cons (m := 8) (m' := 0) (Mk.L (mk_cat (m := 8) (m' := 0) (mk_cat (m := 0) (m' := 8) (mk_slice (vl rfl) mkO_none (mkO_var rfl)) (mk_lst (mkA_cons (m := 8) (m' := 0) (n := 60000) ?bad mkA_nil) (by decide)) (by decide)) (mk_slice (vl rfl) (mkO_add rfl fun _ _ q => ⟨_, _, rfl, rfl, q⟩) mkO_none) (by decide))) mkA_nil)) (by decide)) (by decide) (Nat.le_refl _)
      case bad =>
        intro H9 c9 B9 P9 d9 e9 Q9 q9
        have er : hs.2[at']? = some hs.2[at'] := List.getElem?_eq_getElem (by (first | lia | omega))
        have B29 := B27.trans B9
        obtain ⟨tt, aa, bb, ev, g1, g2, g3⟩ := (hR1.same (hid_but B29)).2 at' vs[at'] _ (List.getElem?_eq_getElem hat) er
        have rok := hw.ok.rs _ (List.getElem_mem (by (first | lia | omega) : at' < hs.2.length))
        have rwi := hw.within (List.getElem_mem (by (first | lia | omega) : at' < hs.2.length))
        refine ⟨_, rfl, _, rfl, _, rfl, r, vs, at', vs[at'], rfl, rfl, SqL.of (B29 _ _ nr.ne (B1 _ _ nr.ne hrr)), atI_nat (List.getElem?_eq_getElem hat), p, S, tt, .ref aa, .ref bb, c9, by rw [ev]; rfl, P9, (of_hid g1).2, ⟨aa, _, rfl, (of_hid g2).1, (of_hid g2).2, rok.l4, Nat.zero_le _, txts rok.lk⟩, ⟨bb, _, rfl, (of_hid g3).1, (of_hid g3).2, rwi, Nat.zero_le _, txts rok.kk⟩, d9, e9, q9⟩
    case k10 =>
    rintro v9 H9 c9 D9 B9 P9 u9 w9
    exact kk v9 H9 c9 (D_mono D9 (by decide) (by decide)) ((B1.trans B27).trans B9) P9 (by (first | lia | omega)) (by (first | lia | omega))
end
end K7
set_option Elab.async false
set_option linter.all false
set_option maxRecDepth 100000
set_option maxHeartbeats 4000000
namespace L2
open PySem PySem.Spec PyProof.Rows
theorem turn_twoT {K : PySem.W.Frag} {nl : Nat} {ix : List Nat} {tf : TT} {te : TE} {σ : St} {D : Addr} {ys : List V} {H : Hp} {x : V} {nxt : List V → Hp → Prop} {i j : Nat} (a : Addr) (v1 v2 : V) (hx : x = .ref a) (hs : SqT K H a [v1, v2])
    (hl : (((capt nl ix σ).set i (some v1)).set j (some v2)).drop nl = ix.map fun j => (σ[j]?).join)
    (h : tf (((capt nl ix σ).set i (some v1)).set j (some v2)) H fun b H5 => if b = true then te (((capt nl ix σ).set i (some v1)).set j (some v2)) H5 fun y H6 => H6 D = some (.lst ys) ∧ ys.length < sizeLine ∧ nxt (ys ++ [y]) (upd H6 D (.lst (ys ++ [y]))) else nxt ys H5) :
    CompTurn nl ix (gTup K 2 (gCons (gName i) (gCons (gName j) gNil))) tf te σ D ys H x nxt := by
  subst hx
  unfold CompTurn gTup gCons gName gNil
  exact ⟨a, _, rfl, hs, rfl, v1, [v2], rfl, v2, [], rfl, rfl, ⟨by simp, hl⟩, h⟩
section
variable {X : Cx}
theorem call_reprD (hg : X.A.guards = some []) : CallR X (.builtin "repr") (fun xs H Q => ∃ (x : V) (d : PyData), xs = [x] ∧ See H x d ∧ d.showable = true ∧ d.leavesShort 13 = true ∧ d.bulk ≤ 1000000 ∧ X.A.units + (d.depth + 1) < cLine ∧ Q (.str d.shown) H) := by
  intro pins s σ H xs us Q I r h
  obtain ⟨x, d, rfl, sd, hs, hl, hb, hu, q⟩ := h
  have hz : d.shown.length ≤ sizeLine := PyData.shown_fits_bulk (B := 13) (by decide) (by decide) hl (by (first | lia | omega))
  cases sd with
  | non => exact call_repr hg pins s σ H _ us Q I r ⟨_, _, rfl, .inl rfl, .non, hs, hl, hb, hu, q⟩
  | lst e1 e2 => exact call_repr hg pins s σ H _ us Q I r ⟨_, _, rfl, .inr ⟨_, rfl⟩, .lst e1 e2, hs, hl, hb, hu, q⟩
  | tup e1 e2 => exact call_repr hg pins s σ H _ us Q I r ⟨_, _, rfl, .inr ⟨_, rfl⟩, .tup e1 e2, hs, hl, hb, hu, q⟩
  | dic e1 => exact call_repr hg pins s σ H _ us Q I r ⟨_, _, rfl, .inr ⟨_, rfl⟩, .dic e1, hs, hl, hb, hu, q⟩
  | bl b =>
    obtain ⟨u, rfl, ru⟩ := vals1 r
    cases ru
    refine P.repr_of_bool ⟨.str _, H, I.tok _, ⟨_, rfl⟩, ?_⟩
    cases b <;> exact q
  | int i =>
    obtain ⟨u, rfl, t, rfl⟩ := vals1 r
    exact P.repr_of_int (by simpa [PyData.showable] using hs) ⟨.str _, H, I.tok _, ⟨_, rfl⟩, q⟩
  | str z =>
    obtain ⟨u, rfl, t, rfl⟩ := vals1 r
    refine P.repr_of_str ⟨.str _, H, I.tok _, ⟨_, rfl⟩, ?_⟩ ?_
    · simpa only [PyData.shown] using q
    · simpa only [PyData.shown] using hz
end
end L2
namespace K7
open PySem L2 PyProof.Rows
open Classical in
theorem room_true {r : Rm} (ok : RoomOk r) : roomD (roomData r) = true := by
  obtain ⟨a1, a2⟩ := kinds_texts ok.lk
  obtain ⟨b1, _⟩ := kinds_texts ok.kk
  simp only [roomData, roomD, locksD, kindsD, a1, a2, b1, List.length_map, Bool.true_and, Bool.and_true]
  rw [decide_eq_true ⟨ok.l1, ok.l4⟩, Bool.true_and]
  unfold sortD
  exact decide_eq_true ok.so
theorem house_true {h : Hs} (ok : HouseOk h) : houseD (houseData h) = true := by
  obtain ⟨a1, _⟩ := kinds_texts ok.kk
  simp only [houseData, houseD, kindsD, a1, Bool.true_and, List.all_map, List.all_eq_true]
  exact fun r hr => room_true (ok.rs r hr)
def spReqD : Sp := fun vs H Q _ => ∃ (v : V) (d : PyData), vs = [v] ∧ See H v d ∧ Fine 1000000 12 d ∧ houseD d = true ∧ ∀ H', Same H H' → Q .non H'
def plainB (h : Hs) : Bool := h.2.all fun r => decide (r.1.length = 1)
def spPlain : Sp := fun vs H Q _ => ∃ (v : V) (h : Hs), vs = [v] ∧ HouseAt H v h ∧ HouseLaw h ∧ ∀ H', Same H H' → Q (.bl (plainB h)) H'
section
variable {P : Program} {w : World} {K : PySem.W.Frag} {mg : Str → Option Value} {base : Heap}
theorem sc_require_house : FnScope ["thing"] ["thing"] (defScope st_require_house) := ⟨rfl, rfl, rfl, by decide +kernel, rfl, by decide +kernel, by decide +kernel⟩
theorem sc_is_plain : FnScope ["house"] ["house"] (defScope st_is_plain) := ⟨rfl, rfl, rfl, by decide +kernel, rfl, by decide +kernel, by decide +kernel⟩
theorem nd_is_plain_0 : (["locks", "within"] : List Str).Nodup := by decide +kernel
theorem D_req {f fH : Addr} {fd fdH : FuncData} (F : Fun K "require_house" "require_house" st_require_house f fd) (G_is_house : FnOk P w K mg base CX0 5 fH fdH ["thing"] (spD houseD)) (c_is_house : Cal K mg "is_house" ["thing"] fH fdH) : FnOk P w K mg base CX0 6 f fd ["thing"] spReqD := by
  refine F.ok sc_require_house (fun vs H Q E h => ?_) (fun cdv A outer s H vs Q E hr h => ?_)
  · obtain ⟨v, d, rfl, _⟩ := h
    rfl
  · obtain ⟨v, d, rfl, sd, fi, hd, k⟩ := h
    refine ⟨_, (pss_one (ps_if (pt_not (pt_val (pe_call G_is_house hr rfl c_is_house.mg c_is_house.kp c_is_house.b .nil pass0 (pa_cons (pv 0) pa_nil))))
        pss_never pss_nil)), ?_⟩
    refine ⟨_, rfl, v, d, rfl, sd, fi, fun H1 s1 => ⟨true, by rw [hd], ?_⟩⟩
    exact iteF (k H1 s1)
theorem D_plain {f fQ : Addr} {fd fdQ : FuncData} (F : Fun K "is_plain" "is_plain" st_is_plain f fd) (G_require_house : FnOk P w K mg base CX0 6 fQ fdQ ["thing"] spReqD) (c_require_house : Cal K mg "require_house" ["thing"] fQ fdQ) (m_all : mg "all" = none) (m_len : mg "len" = none) : FnOk P w K mg base CX0 7 f fd ["house"] spPlain := by
  refine F.ok sc_is_plain (fun vs H Q E h => ?_) (fun cdv A outer s H vs Q E hr h => ?_)
  · obtain ⟨v, h, rfl, _⟩ := h
    rfl
  · obtain ⟨v, h, rfl, hh, hw, k⟩ := h
    refine ⟨_, (pss_cons (ps_expr (pe_call G_require_house hr rfl c_require_house.mg c_require_house.kp c_require_house.b .nil pass0 (pa_cons (pv 0) pa_nil)))
      (pss_one (ps_ret (pe_callB (call_all rfl) rfl m_all (by decide +kernel) (pa_cons (pe_lc (outer := defScope (st_is_plain)) (N := ["house"]) (N' := ["locks", "within"]) (nl := 2) (ix := []) rfl rfl rfl (pi_list (pe_ix ix_tup (pv 0) pe_int (fun _ _ => rfl)))
        (fun C fp s₀ H₀ => (pg_tupK (K := K) (n := 2) rfl rfl (pgs_cons (pg_name (i := 0) nd_is_plain_0 rfl (Or.inl rfl) (.inr rfl)) (pgs_cons (pg_name (i := 1) nd_is_plain_0 rfl (Or.inl rfl) (.inr rfl)) pgs_nil)))) (fun C fp s₀ H₀ => pif_nil)
        (fun C fp s₀ H₀ => (pe_cmpR op_eq (pe_callB (call_lenK (K := K) rfl) rfl m_len PySem.boot_len (pa_cons (pv 0) pa_nil)) pe_int (nomark _)))) pa_nil))))), ?_⟩
    refine ⟨_, rfl, v, houseData h, rfl, see_house hh, hw.fine.mono (by decide) (by decide), house_true hw.ok, fun H1 s1 => ?_⟩
    obtain ⟨t, a, r, vs, rfl, ht, ha, hrr, hR⟩ := hh.same s1
    dsimp only [tNext, tRet, tCB, tCons, tNil]
    refine lcomp_eq _ _ _ _ _ _ _ _ _ ?_
    refine ⟨_, rfl, t, _, 1, .ref r, rfl, rfl, SqT.of ht, rfl, r, rfl, ⟨_, SqL.of hrr⟩, ?_⟩
    intro D hD
    have hl := hR.1
    have rl := hw.rl
    refine comp_list (xs := vs) (fun i ys H2 => ys = ((h.2.take i).map fun r => decide (r.1.length = 1)).map V.bl ∧ i ≤ h.2.length ∧ H2 D = some (.lst ys) ∧ Same H1 H2) ⟨rfl, Nat.zero_le _, upd_same, fun b u e => by rw [upd_ne (ne_of_none e hD)]; exact e⟩ (fun i ys H2 ⟨_, _, h, _⟩ => h) (fun i ys H2 ⟨_, _, _, sm⟩ => SqL.of (sm r _ hrr)) ?_ ?_
    · rintro i ys H2 x hx ⟨rfl, hi0, hD2, sm⟩
      have hi : i < vs.length := (List.getElem?_eq_some_iff.mp hx).1
      have hi' : i < h.2.length := by (first | lia | omega)
      have er : h.2[i]? = some h.2[i] := List.getElem?_eq_getElem hi'
      obtain ⟨tt, aa, bb, rfl, g1, g2, g3⟩ := (hR.2 i x _ hx er).same sm
      refine turn_two tt (.ref aa) (.ref bb) rfl (SqT.of g1) rfl ?_
      refine ⟨_, rfl, aa, _, rfl, .inl (SqL.of g2), rfl, hD2, by rw [List.length_map, List.length_map, List.length_take]; exact small6 (by (first | lia | omega)), nx hi ⟨?_, by (first | lia | omega), upd_same, fun b u e => ?_⟩⟩
      · rw [List.take_succ, er, List.map_append, List.map_append]
        simp only [Option.toList_some, List.map_cons, List.map_nil, List.length_map]
        congr 3
        by_cases q : (h.2[i]).1.length = 1
        · rw [q]; rfl
        · rw [decide_eq_false q, decide_eq_false]
          intro z
          injection z with z
          (first | lia | omega)
      · rw [upd_ne (ne_of_none e hD)]
        exact sm b u e
    · rintro ys H2 ⟨rfl, _, hD2, sm⟩
      refine ⟨D, _, rfl, SqL.of hD2, ?_⟩
      have z3 := k H2 (s1.trans sm)
      have e3 : plainB h = (((h.2.take vs.length).map fun r => decide (r.1.length = 1)).all id) := by
        rw [hl, List.take_length, List.all_map]
        rfl
      rw [e3] at z3
      exact z3
end
end K7
set_option Elab.async false
set_option linter.all false
set_option maxRecDepth 100000
set_option maxHeartbeats 4000000
namespace K7
open PySem L2 PyProof.Rows
def Ev (te : TE) (σ : L2.St) (d : PyData) : Prop := ∀ (H : Hp) (Q : VK), (∀ v H', See H' v d → Same H H' → Q v H') → te σ H Q
def EvA (ta : TA) (σ : L2.St) (ds : List PyData) : Prop := ∀ (H : Hp) (Q : List V → Hp → Prop), (∀ vs H', SeeAll H' vs ds → Same H H' → Q vs H') → ta σ H Q
theorem same_new {H : Hp} {l : Addr} {o : HO} (n : H l = none) : Same H (upd H l o) := fun b u e => by rw [upd_ne (ne_of_none e n)]; exact e
section
variable {σ : L2.St} {te : TE} {ta : TA} {d : PyData} {ds : List PyData}
theorem ev_non : Ev (tC .non) σ .none := fun H Q q => q _ H .non (Same.refl _)
theorem ev_int {i : Int} : Ev (tC (.int i)) σ (.int i) := fun H Q q => q _ H (.int i) (Same.refl _)
theorem ev_bl {b : Bool} : Ev (tC (.bl b)) σ (.bool b) := fun H Q q => q _ H (.bl b) (Same.refl _)
theorem ev_str {z : Str} : Ev (tC (.str z)) σ (.str z) := fun H Q q => q _ H (.str z) (Same.refl _)
theorem ev_dnew : Ev tDNewK σ (.dict []) := fun H Q q r hr => q _ _ (.dic (kvs := []) upd_same) (same_new hr)
theorem evA_nil : EvA tNil σ [] := fun H Q q => q [] H .nil (Same.refl _)
theorem evA_cons (x : Ev te σ d) (y : EvA ta σ ds) : EvA (tCons te ta) σ (d :: ds) := fun H Q q =>
  x H _ fun v H1 s1 m1 => y H1 _ fun vs H2 s2 m2 => q _ H2 (.cons (s1.same m2) s2) (m1.trans m2)
theorem evL {H : Hp} {Q : VK} (x : EvA ta σ ds) (hz : ds.length ≤ 1000) (q : ∀ l vs H', H' l = some (.lst vs) → SeeAll H' vs ds → Same H H' → Q (.ref l) H') : tLst ta σ H Q :=
  x H _ fun vs H1 s1 m1 => ⟨by rw [s1.length]; exact Nat.le_trans hz (by decide), fun r hr => q r vs _ upd_same (s1.same (same_new hr)) (m1.trans (same_new hr))⟩
theorem ev_lst (x : EvA ta σ ds) (hz : ds.length ≤ 1000) : Ev (tLst ta) σ (.list ds) := fun H Q q => evL x hz fun l vs H' e s m => q _ H' (.lst e s) m
theorem ev_tup (x : EvA ta σ ds) (hz : ds.length ≤ 1000) : Ev (tTup ta) σ (.tuple ds) := fun H Q q =>
  x H _ fun vs H1 s1 m1 => ⟨by rw [s1.length]; exact Nat.le_trans hz (by decide), fun r hr => q _ _ (.tup upd_same (s1.same (same_new hr))) (m1.trans (same_new hr))⟩
end
theorem ev_call {sp : Sp} {te : TE} {σ : L2.St} {d : PyData} {H : Hp} {Q : VK} (x : Ev te σ d) (k : ∀ v H', See H' v d → Same H H' → sp [v] H' Q E0) : tCall sp [] E0 (tCons te tNil) σ H Q := x H _ fun v H' s m => k v H' s m
def ForW (K : PySem.W.Frag) (l : Addr) (g : TG) (tb : TS) (D : Ends) (σ : L2.St) (H1 : Hp) : Prop := ∃ W : Nat → Nat → L2.St → Hp → Prop, (∃ m, W 0 m σ H1) ∧ ∀ i m σ H, W i m σ H →
  ((Itl K l).stop i H ∧ D.nx σ H) ∨ ((Itl K l).go i H ∧ ∃ N : L2.St → Hp → Prop, (∀ σ' H', N σ' H' → ∃ m', m' < m ∧ W (i + 1) m' σ' H') ∧ ∀ x H', (Itl K l).yld i H x H' → g x σ H' fun σ2 H2 => tb { D with nx := N, ct := N, bk := D.nx } σ2 H2)
theorem ev_for {K : PySem.W.Frag} {ta : TA} {g : TG} {tb : TS} {D : Ends} {σ : L2.St} {H : Hp} {ds : List PyData} (x : EvA ta σ ds) (hz : ds.length ≤ 1000) (k : ∀ l vs H', H' l = some (.lst vs) → SeeAll H' vs ds → Same H H' → ForW K l g tb D σ H') : tFor (iList K (tLst ta)) g tb D σ H :=
  by
    unfold tFor iList
    exact evL x hz fun l vs H' a b c => ⟨l, rfl, ⟨_, SqL.of a⟩, k l vs H' a b c⟩
theorem lc_set {nl : Nat} {ix : List Nat} {wi : TI} {g : TG} {tf : TT} {te tb : TE} {r : R2} {i : Nat} {rest : TS} {D : Ends} {σ : L2.St} {H : Hp} (h : wi σ H fun J H1 => ∀ Dd, H1 Dd = none → CompW nl ix g tf te σ J H1 Dd fun y H2 => tb σ H2 fun z H3 => r y z H3 fun u H4 => rest D (σ.set i (some u)) H4) :
    tSeq (tAsg (tOp r (tLComp nl ix wi g tf te) tb) (gName i)) rest D σ H := h
theorem isD_upd {p D : Addr} {n k : Nat} {y : V} {H : Hp} {o : HO} (x : isD p [D] n k y H) : isD p [D] n k y (upd H D o) := by
  obtain ⟨d, s, f⟩ := x
  refine ⟨d, s.same fun b u e => ?_, f⟩
  obtain ⟨e1, e2⟩ := of_hid e
  refine hid_get e1 ?_
  rw [upd_ne fun z => e1 (.inr (by rw [z]; exact List.mem_singleton.mpr rfl))]
  exact e2
theorem plain_eq : ∀ {rs : List Rm}, (∀ r ∈ rs, RoomOk r) → ((rs.filter fun r => decide (1 < r.1.length)).map roomData).isEmpty = rs.all fun r => decide (r.1.length = 1)
  | [], _ => rfl
  | r :: rs, h => by
    have l1 := (h r List.mem_cons_self).l1
    rw [List.filter_cons, List.all_cons, ← plain_eq fun q hq => h q (List.mem_cons_of_mem _ hq)]
    by_cases q : 1 < r.1.length
    · rw [decide_eq_true q, decide_eq_false (by (first | lia | omega) : ¬ r.1.length = 1)]
      simp
    · rw [decide_eq_false q, decide_eq_true (by (first | lia | omega) : r.1.length = 1)]
      simp
theorem pool_same {p : Addr} {H H' : Hp} {c : Int} (x : PoolAt H p c) (s : Same H H') : PoolAt H' p c := by
  obtain ⟨o, e, i⟩ := x
  exact ⟨o, s _ _ e, i⟩
theorem but_same {p : Addr} {H H' : Hp} (s : Same H H') : But p H H' := fun b u _ e => s b u e
theorem see_house0 {H : Hp} {v : V} (s : See H v (.tuple [.list [], .list []])) : HouseAt H v ([], []) := by
  cases s with
  | tup e sa =>
    cases sa with
    | cons a r =>
      cases r with
      | cons b r2 =>
        cases r2
        cases a with
        | lst ea qa =>
          cases qa
          cases b with
          | lst eb qb =>
            cases qb
            exact ⟨_, _, _, [], rfl, e, ea, eb, ⟨rfl, fun i v r e => by simp at e⟩⟩
theorem law0 : HouseLaw (([], []) : Hs) := ⟨⟨(fun k h => nomatch h), Nat.zero_le _, (fun r h => nomatch h), Nat.zero_le _⟩, Nat.zero_le _, Nat.zero_le _⟩
def isLF (p : Addr) (S : List Addr) (n k : Nat) (f : PyData → Bool) : VR := fun v H => ∃ (l : Addr) (vs : List V) (ds : List PyData), v = .ref l ∧ Out p S l ∧ H l = some (.lst vs) ∧ SeeAll (hid p S H) vs ds ∧ Fines n k ds ∧ ds.all f = true
def isDF (p : Addr) (S : List Addr) (n k : Nat) (f : PyData → Bool) : VR := fun v H => ∃ d, See (hid p S H) v d ∧ Fine n k d ∧ f d = true
theorem stb_LF {p : Addr} {S : List Addr} {n k : Nat} {f : PyData → Bool} : Stb p (isLF p S n k f) := fun v H H' b ⟨l, vs, ds, e, np, h, s, g⟩ => ⟨l, vs, ds, e, np, b _ _ np.ne h, s.same (hid_but b), g⟩
section
variable {p : Addr} {S : List Addr} {m m' n n' k : Nat} {f : PyData → Bool} {te ta tb : TE} {σ : L2.St} {H : Hp} {K : PySem.W.Frag}
theorem mkf_one (x : Mk p S m (isDF p S n k f) te σ H) (hz : n + 1 ≤ 1000000) : Mk p S m (isLF p S (n + 1) k f) (tLst (tCons te tNil)) σ H := by
  intro H1 c a b d e Q q
  refine x H1 c a b d e _ fun v H2 c2 ⟨dd, s, g, hf⟩ b2 p2 u w => ⟨by show 1 ≤ sizeLine; decide, fun r hr => ?_⟩
  exact q _ _ c2 ⟨r, [v], [dd], rfl, pool_ne p2 hr, upd_same, .cons (s.same (hid_but (but_new hr))) .nil, Fines.cons (m := 0) g Fines.nil, by simp [hf]⟩ (b2.trans (but_new hr)) (pool_new p2 hr) u w
theorem mkf_cat (x : Mk p S m (isLF p S n k f) ta σ H) (y : Mk p S m' (isLF p S n' k f) tb σ H) (hz : n + n' ≤ 1000000) : Mk p S (m + m') (isLF p S (n + n') k f) (tOp rCat ta tb) σ H := by
  intro H1 c a b d e Q q
  refine x H1 c a b d (by (first | lia | omega)) _ fun v H2 c2 r2 b2 p2 u w => ?_
  refine y H2 c2 (a.trans b2) p2 (by (first | lia | omega)) (by (first | lia | omega)) _ fun v3 H3 c3 r3 b3 p3 u3 w3 => ?_
  obtain ⟨l, vs, ds, rfl, np, h, s, f1, g⟩ := stb_LF _ _ _ b3 r2
  obtain ⟨l', vs', ds', rfl, np', h', s', f', g'⟩ := r3
  have z := f1.len
  have z' := f'.len
  have y1 := s.length
  have y2 := s'.length
  refine ⟨l, l', vs, vs', rfl, rfl, h, h', Nat.le_trans (by (first | lia | omega)) (show (1000000 : Nat) ≤ sizeLine by decide), fun r hr => ?_⟩
  exact q _ _ c3 ⟨r, _, _, rfl, pool_ne p3 hr, upd_same, (s.append s').same (hid_but (but_new hr)), f1.app f', by rw [List.all_append, g, g']; rfl⟩ ((b2.trans b3).trans (but_new hr)) (pool_new p3 hr) (by (first | lia | omega)) (by (first | lia | omega))
theorem all_flat {ds : List PyData} (h : ds.all f = true) : ∀ i : Nat, (List.replicate i ds).flatten.all f = true
  | 0 => rfl
  | i + 1 => by rw [List.replicate_succ, List.flatten_cons, List.all_append, h, all_flat h i]; rfl
def isIn (lo hi : Int) : VR := fun v _ => ∃ i : Int, v = .int i ∧ lo ≤ i ∧ i < hi
theorem mkf_rep {hi : Nat} (x : Mk p S m (isLF p S n k f) ta σ H) (y : Mk p S m' (isIn 0 hi) tb σ H) (hz : n * hi ≤ 1000000) (h1 : hi ≤ 1000000) : Mk p S (m + m') (isLF p S (n * hi) k f) (tOp rRep ta tb) σ H := by
  intro H1 c a b d e Q q
  refine x H1 c a b d (by (first | lia | omega)) _ fun v H2 c2 r2 b2 p2 u w => ?_
  refine y H2 c2 (a.trans b2) p2 (by (first | lia | omega)) (by (first | lia | omega)) _ fun v3 H3 c3 ⟨i0, e3, i1, i2⟩ b3 p3 u3 w3 => ?_
  obtain ⟨i, rfl⟩ : ∃ j : Nat, i0 = (j : Int) := ⟨i0.toNat, by (first | lia | omega)⟩
  subst e3
  obtain ⟨l, vs, ds, rfl, np, h, s, f1, g⟩ := stb_LF _ _ _ b3 r2
  have z := f1.len
  have y1 := s.length
  have z2 : vs.length * i ≤ n * hi := Nat.mul_le_mul (by (first | lia | omega)) (by (first | lia | omega))
  refine ⟨l, (i : Int), vs, rfl, rfl, h, by (first | lia | omega), by (first | lia | omega), ?_, fun r hr => ?_⟩
  · rw [Int.toNat_natCast]; exact Nat.le_trans (by (first | lia | omega)) (show (1000000 : Nat) ≤ sizeLine by decide)
  · rw [Int.toNat_natCast]
    exact q _ _ c3 ⟨r, _, _, rfl, pool_ne p3 hr, upd_same, (see_flat s i).same (hid_but (but_new hr)), (fines_flat f1 i).mono (Nat.mul_le_mul_left _ (by (first | lia | omega))) (Nat.le_refl _), all_flat g i⟩ ((b2.trans b3).trans (but_new hr)) (pool_new p3 hr) (by (first | lia | omega)) (by (first | lia | omega))
theorem mk_cI {i lo hi : Int} (h : lo ≤ i ∧ i < hi) : Mk p S 0 (isIn lo hi) (tC (.int i)) σ H := mk_c fun _ => ⟨i, rfl, h.1, h.2⟩
theorem mk_addI {i j : Int} {r : R2} (x : Mk p S m (isI j) tb σ H) (hr : ∀ (b : Int) (H : Hp) (Q : VK), Q (.int (i + b)) H → r (.int i) (.int b) H Q) (h0 : 0 ≤ i) : Mk p S m (isIn 0 (i + j)) (tOp r (tC (.int i)) tb) σ H := by
  intro H1 c a b d e Q q
  refine x H1 c a b d e _ fun v H2 c2 ⟨b0, e2, l1, l2⟩ b2 p2 u w => ?_
  subst e2
  exact hr _ _ _ (q _ _ c2 ⟨i + b0, rfl, by (first | lia | omega), by (first | lia | omega)⟩ b2 p2 u w)
theorem mk_ixT {t : Addr} {x y : V} {i : Nat} {R : VR} (h : σ[i]? = some (some (.ref t))) (ht : H t = some (.tup [x, y])) (np : t ≠ p) (r : R x H) (st : Stb p R) : Mk p S 0 R (tOp (rIxT K) (tVar i) (tC (.int 0))) σ H :=
  fun H1 c a b d e Q q => ⟨_, h, t, _, 0, x, rfl, rfl, SqT.of (a _ _ np ht), rfl, q _ _ c (st _ _ _ a r) (But.refl _ _) b (Int.le_refl _) (by (first | lia | omega))⟩
theorem mk_ixT1 {t : Addr} {x y : V} {i : Nat} {R : VR} (h : σ[i]? = some (some (.ref t))) (ht : H t = some (.tup [x, y])) (np : t ≠ p) (r : R y H) (st : Stb p R) : Mk p S 0 R (tOp (rIxT K) (tVar i) (tC (.int 1))) σ H :=
  fun H1 c a b d e Q q => ⟨_, h, t, _, 1, y, rfl, rfl, SqT.of (a _ _ np ht), rfl, q _ _ c (st _ _ _ a r) (But.refl _ _) b (Int.le_refl _) (by (first | lia | omega))⟩
theorem kind_a : KindOk (Str.ofString "a") := ⟨by decide +kernel, by decide +kernel, by decide +kernel⟩
theorem kind_b : KindOk (Str.ofString "b") := ⟨by decide +kernel, by decide +kernel, by decide +kernel⟩
theorem ab_ok : RoomOk (([Str.ofString "a"], [Str.ofString "b"]) : Rm) := ⟨(fun k h => by rw [List.mem_singleton.mp h]; exact kind_a), Nat.le_refl _, by decide, List.pairwise_singleton _ _, (fun k h => by rw [List.mem_singleton.mp h]; exact kind_b), by decide⟩
theorem mk_ab : Mk p S 0 (isDF p S 10 2 roomD) (tTup (tCons (tLst (tCons (tC (.str (Str.ofString "a"))) tNil)) (tCons (tLst (tCons (tC (.str (Str.ofString "b"))) tNil)) tNil))) σ H := by
  intro H1 c a b d e Q q
  refine ⟨by show 1 ≤ sizeLine; decide, fun l1 n1 => ⟨by show 1 ≤ sizeLine; decide, fun l2 n2 => ⟨by show 2 ≤ sizeLine; decide, fun t nt => ?_⟩⟩⟩
  have P1 := pool_new (o := .lst [.str (Str.ofString "a")]) b n1
  have P2 := pool_new (o := .lst [.str (Str.ofString "b")]) P1 n2
  have P3 := pool_new (o := .tup [.ref l1, .ref l2]) P2 nt
  have e1 : (upd (upd H1 l1 (.lst [.str (Str.ofString "a")])) l2 (.lst [.str (Str.ofString "b")])) l1 = some (.lst [.str (Str.ofString "a")]) := by
    rw [upd_ne (ne_of_none (show (upd H1 l1 (.lst [.str (Str.ofString "a")])) l1 = some _ from upd_same) n2)]; exact upd_same
  have e2 : (upd (upd H1 l1 (.lst [.str (Str.ofString "a")])) l2 (.lst [.str (Str.ofString "b")])) l2 = some (.lst [.str (Str.ofString "b")]) := upd_same
  refine q _ _ c ⟨roomData ([Str.ofString "a"], [Str.ofString "b"]), see_room ⟨t, l1, l2, rfl, hid_get (pool_ne P2 nt) upd_same, hid_get (pool_ne b n1) ?_, hid_get (pool_ne P1 n2) ?_⟩, ⟨by decide +kernel, by decide +kernel, by decide +kernel⟩, room_true ab_ok⟩ (((but_new n1).trans (but_new n2)).trans (but_new nt)) P3 (Int.le_refl _) (by (first | lia | omega))
  · rw [upd_ne (ne_of_none e1 nt)]; exact e1
  · rw [upd_ne (ne_of_none e2 nt)]; exact e2
theorem mk_sF {z : Str} (h : KindOk z) : Mk p S 0 (isDF p S 4 0 kindD) (tC (.str z)) σ H := mk_c fun _ => ⟨.str z, .str z, Fine.str (txt_kind h).1 (txt_kind h).2, by
  simp only [kindD, Bool.and_eq_true, decide_eq_true_eq, List.all_eq_true]
  exact ⟨⟨h.1, h.2.1⟩, h.2.2⟩⟩
def isG (p : Addr) (S : List Addr) (n k n' k' : Nat) : VR := fun v H => ∃ (t : Addr) (x y : V), v = .ref t ∧ t ≠ p ∧ H t = some (.tup [x, y]) ∧ isLF p S n k kindD x H ∧ isLF p S n' k' roomD y H
theorem mk_G {k' : Nat} (x : Mk p S m (isLF p S n k kindD) ta σ H) (y : Mk p S m' (isLF p S n' k' roomD) tb σ H) : Mk p S (m + m') (isG p S n k n' k') (tTup (tCons ta (tCons tb tNil))) σ H := by
  intro H1 c a b d e Q q
  refine x H1 c a b d (by (first | lia | omega)) _ fun v H2 c2 r2 b2 p2 u w => ?_
  refine y H2 c2 (a.trans b2) p2 (by (first | lia | omega)) (by (first | lia | omega)) _ fun v3 H3 c3 r3 b3 p3 u3 w3 => ?_
  refine ⟨by show 2 ≤ sizeLine; decide, fun t nt => ?_⟩
  exact q _ _ c3 ⟨t, v, v3, rfl, (pool_ne p3 nt).ne, upd_same, stb_LF _ _ _ (b3.trans (but_new nt)) r2, stb_LF _ _ _ (but_new nt) r3⟩ ((b2.trans b3).trans (but_new nt)) (pool_new p3 nt) (by (first | lia | omega)) (by (first | lia | omega))
theorem G_data {v : V} {k' : Nat} (x : isG p S n k n' k' v H) (h : n + 1 + (n' + 1) ≤ 1000000) (hk : k ≤ 10) (hk' : k' ≤ 10) : ∃ d, See H v d ∧ Fine 1000000 12 d ∧ houseD d = true := by
  obtain ⟨t, x, y, rfl, np, ht, ⟨l, vs, ds, rfl, _, h1, s1, f1, g1⟩, ⟨l', vs', ds', rfl, _, h2, s2, f2, g2⟩⟩ := x
  have a1 : Fine n 11 (.list ds) := (Fine.lst f1).mono (Nat.le_refl _) (by (first | lia | omega))
  have a2 : Fine n' 11 (.list ds') := (Fine.lst f2).mono (Nat.le_refl _) (by (first | lia | omega))
  refine ⟨.tuple [.list ds, .list ds'], .tup ht (.cons (.lst h1 (s1.same hid_same)) (.cons (.lst h2 (s2.same hid_same)) .nil)), (Fine.tup (Fines.cons a1 (Fines.cons a2 (Fines.nil (n := 0))))).mono (by (first | lia | omega)) (Nat.le_refl _), ?_⟩
  simp only [houseD, kindsD, g1, g2, Bool.and_self]
end
end K7
set_option Elab.async false
set_option linter.all false
set_option maxRecDepth 100000
set_option maxHeartbeats 1000000
namespace K7
open PySem L2 PyProof.Rows
abbrev st_law : Stmt := sLaw
def spLaw (K : PySem.W.Frag) : Sp := fun vs H Q _ => ∃ (a : Addr) (ns : List Int), vs = [.ref a] ∧ SqL K H a (ns.map V.int) ∧ ns.length ≤ 63 ∧ ∀ H', Q (.bl true) H'
def noData : List PyData := [.none, .int 0, .bool true, .str (Str.ofString ""), .str (Str.ofString "a"), .tuple [], .list [], .dict [], .tuple [.list []], .list [.list [], .list []], .tuple [.list [], .tuple []], .tuple [.tuple [], .list []], .tuple [.list [], .list [], .list []], .tuple [.list [.list []], .list []]]
theorem noData_no : ∀ d ∈ noData, houseD d = false := by
  intro d hd
  simp only [noData, List.mem_cons, List.not_mem_nil, or_false] at hd
  rcases hd with h | h | h | h | h | h | h | h | h | h | h | h | h | h <;> rw [h] <;> rfl
theorem noData_fine : Fines 1000 3 noData := ⟨by decide +kernel, by decide +kernel, by decide +kernel⟩
theorem gN {i : Nat} {x : V} {σ : L2.St} {H : Hp} {k : L2.St → Hp → Prop} (h : k (σ.set i (some x)) H) : gName i x σ H k := h
section
variable {P : Program} {w : World} {K : PySem.W.Frag} {mg : Str → Option Value} {base : Heap}
theorem sc_law : FnScope ["script", "k", "pool", "house", "thing", "kept", "found", "plain", "great"] ["script"] (defScope st_law) := ⟨rfl, rfl, rfl, by decide +kernel, rfl, by decide +kernel, by decide +kernel⟩
theorem nd_law_0 : (["turn", "pool", "house"] : List Str).Nodup := by decide +kernel
theorem nd_law_1 : (["locks", "keys"] : List Str).Nodup := by decide +kernel
theorem ok_law {f fP fH fT fS fI fL fN : Addr} {fd fdP fdH fdT fdS fdI fdL fdN : FuncData} (F : Fun K "law" "law" sLaw f fd)
    (G__law_pool : FnOk P w K mg base CX0 1 fP fdP ["script", "k"] (spPool K)) (c__law_pool : Cal K mg "_law_pool" ["script", "k"] fP fdP)
    (G__law_house : FnOk P w K mg base CX0 3 fH fdH ["pool", "most"] spDrawn) (c__law_house : Cal K mg "_law_house" ["pool", "most"] fH fdH)
    (G__law_take : FnOk P w K mg base CX0 1 fT fdT ["pool", "many"] spTake) (c__law_take : Cal K mg "_law_take" ["pool", "many"] fT fdT)
    (G__law_spoilt : FnOk P w K mg base CX0 5 fS fdS ["pool", "house"] spSpoilt) (c__law_spoilt : Cal K mg "_law_spoilt" ["pool", "house"] fS fdS)
    (G_is_house : FnOk P w K mg base CX0 5 fI fdI ["thing"] (spD houseD)) (c_is_house : Cal K mg "is_house" ["thing"] fI fdI)
    (G__law_is_house : FnOk P w K mg base CX0 3 fL fdL ["thing"] (spD houseD)) (c__law_is_house : Cal K mg "_law_is_house" ["thing"] fL fdL)
    (G_is_plain : FnOk P w K mg base CX0 7 fN fdN ["house"] spPlain) (c_is_plain : Cal K mg "is_plain" ["house"] fN fdN)
    (m_range : mg "range" = none) (m_len : mg "len" = none) (m_min : mg "min" = none) (m_max : mg "max" = none) (m_isinstance : mg "isinstance" = none) (m_bool : mg "bool" = none) (m_repr : mg "repr" = none) : FnOkG P w K mg base CX0 8 f fd ["script"] (spLaw K) := by
  refine F.okG sc_law (fun vs H Q E h => ?_) (fun cdv A outer s H vs Q E hg0 hr h => ?_)
  · obtain ⟨a, ns, rfl, _⟩ := h
    rfl
  · obtain ⟨a, ns, rfl, hS, hn, k⟩ := h
    have hu := hu_of hr
    have hgd : (A.deeper (envOfC "law" (defScope sLaw) s.heap.objs.size f cdv)).guards = some [] := hg0
    have deep : ∀ {n : Nat}, n ≤ 12 → (A.deeper (envOfC "law" (defScope sLaw) s.heap.objs.size f cdv)).units + (n + 1) < cLine := fun {n} h => Nat.lt_of_le_of_lt (Nat.add_le_add_left (Nat.le_trans (Nat.succ_le_succ h) (by decide : 13 ≤ 64)) _) hr.units
    refine ⟨_, (pss_cons (ps_cut (ps_for PassesOwn.never rfl (pi_range1 rfl m_range (pa_cons (pe_callB (call_max2 rfl) rfl m_max (by decide +kernel) (pa_cons pe_int (pa_cons (pe_callB (call_min2 rfl) rfl m_min (by decide +kernel) (pa_cons pe_int (pa_cons (pe_callB call_len_seq rfl m_len PySem.boot_len (pa_cons (pv 0) pa_nil)) pa_nil))) pa_nil))) pa_nil)) (pg_name (i := 1) sc_law.nd rfl (Or.inl rfl))
        (pss_cons (ps_set (i := 2) sc_law.nd rfl (Or.inr rfl) (pe_call G__law_pool (hr.mono (show 1 ≤ 7 by decide)) rfl c__law_pool.mg c__law_pool.kp c__law_pool.b .nil pass0 (pa_cons (pv 0) (pa_cons (pv 1) pa_nil))))
        (pss_cons (ps_set (i := 3) sc_law.nd rfl (Or.inr rfl) (pe_call G__law_house (hr.mono (show 3 ≤ 7 by decide)) rfl c__law_house.mg c__law_house.kp c__law_house.b .nil pass0 (pa_cons (pv 2) (pa_cons pe_int pa_nil))))
        (pss_cons (ps_cut (ps_for PassesOwn.never rfl (pi_list (pe_op op_cat (pe_lst (pa_cons (pv 3) pa_nil)) (pe_lc (tg := .Name "turn" _) (outer := defScope (st_law)) (N := ["script", "k", "pool", "house", "thing", "kept", "found", "plain", "great"]) (N' := ["turn", "pool", "house"]) (nl := 1) (ix := [2, 3]) rfl rfl rfl (pi_range1 rfl m_range (pa_cons pe_int pa_nil))
        (fun C fp s₀ H₀ => (pg_name (i := 0) nd_law_0 rfl (Or.inl rfl) (.inr rfl))) (fun C fp s₀ H₀ => pif_nil)
        (fun C fp s₀ H₀ => (pe_call G__law_spoilt (hr.mono (show 5 ≤ 7 by decide)) rfl c__law_spoilt.mg c__law_spoilt.kp c__law_spoilt.b .nil pass0 (pa_cons (pv 1) (pa_cons (pv 2) pa_nil))))))) (pg_name (i := 4) sc_law.nd rfl (Or.inl rfl))
          (pss_cons (ps_set (i := 5) sc_law.nd rfl (Or.inl rfl) (pe_callB (call_reprD hgd) rfl m_repr (by decide +kernel) (pa_cons (pv 4) pa_nil)))
          (pss_cons (ps_set (i := 6) sc_law.nd rfl (Or.inl rfl) (pe_call G_is_house (hr.mono (show 5 ≤ 7 by decide)) rfl c_is_house.mg c_is_house.kp c_is_house.b .nil pass0 (pa_cons (pv 4) pa_nil)))
          (pss_one (ps_if (PW.pt (pw_or (pt_not (pt_val (pe_callB call_isinst rfl m_isinstance (by decide +kernel) (pa_cons (pv 6) (pa_cons (pe_bltn (v := .ty "bool") (u := .type "bool") rfl m_bool (by decide +kernel) rfl) pa_nil))))) (pw_or (pt_cmpR op_ne (pv 6) (pe_call G__law_is_house (hr.mono (show 3 ≤ 7 by decide)) rfl c__law_is_house.mg c__law_is_house.kp c__law_is_house.b .nil pass0 (pa_cons (pv 4) pa_nil)) (nomark _)) (pw_or1 (pt_cmpR op_ne (pe_callB (call_reprD hgd) rfl m_repr (by decide +kernel) (pa_cons (pv 4) pa_nil)) (pv 5) (nomark _))))))
            (pss_one (ps_ret pe_bl)) pss_nil))))))
        (pss_cons (ps_set (i := 6) sc_law.nd rfl (Or.inl rfl) (pe_call G_is_plain hr rfl c_is_plain.mg c_is_plain.kp c_is_plain.b .nil pass0 (pa_cons (pv 3) pa_nil)))
        (pss_cons (ps_set (i := 7) sc_law.nd rfl (Or.inl rfl) (pe_cmpR op_eqD (pe_lc (outer := defScope (st_law)) (N := ["script", "k", "pool", "house", "thing", "kept", "found", "plain", "great"]) (N' := ["locks", "keys"]) (nl := 2) (ix := []) rfl rfl rfl (pi_list (pe_ix ix_tup (pv 3) pe_int (fun _ _ => rfl)))
        (fun C fp s₀ H₀ => (pg_tupK (K := K) (n := 2) rfl rfl (pgs_cons (pg_name (i := 0) nd_law_1 rfl (Or.inl rfl) (.inr rfl)) (pgs_cons (pg_name (i := 1) nd_law_1 rfl (Or.inl rfl) (.inr rfl)) pgs_nil)))) (fun C fp s₀ H₀ => (pif_one (pt_cmpR op_gt (pe_callB (call_lenK (K := K) rfl) rfl m_len PySem.boot_len (pa_cons (pv 0) pa_nil)) pe_int (nomark _))))
        (fun C fp s₀ H₀ => pe_int)) pe_l0 (nomark _)))
        (pss_cons (ps_if (PW.pt (pw_or (pt_cmpR op_isNotB (pe_call G_is_house (hr.mono (show 5 ≤ 7 by decide)) rfl c_is_house.mg c_is_house.kp c_is_house.b .nil pass0 (pa_cons (pv 3) pa_nil)) pe_bl (nomark _)) (pw_or (pt_not (pt_val (pe_callB call_isinst rfl m_isinstance (by decide +kernel) (pa_cons (pv 6) (pa_cons (pe_bltn (v := .ty "bool") (u := .type "bool") rfl m_bool (by decide +kernel) rfl) pa_nil))))) (pw_or1 (pt_cmpR op_ne (pv 6) (pv 7) (nomark _))))))
          (pss_one (ps_ret pe_bl)) pss_nil)
        (pss_one (ps_cut (ps_if (pt_cmpR op_eq (pv 1) pe_int (nomark _))
          (pss_cons (ps_set (i := 8) sc_law.nd rfl (Or.inl rfl) (pe_tup (pa_cons (pe_op op_cat (pe_op op_rep (pe_ix ix_tup (pv 3) pe_int (fun _ _ => rfl)) pe_int) (pe_op op_rep (pe_lst (pa_cons pe_str pa_nil)) pe_int)) (pa_cons (pe_op op_cat (pe_ix ix_tup (pv 3) pe_int (fun _ _ => rfl)) (pe_op op_rep (pe_lst (pa_cons pe_kab pa_nil)) (pe_op op_add pe_int (pe_call G__law_take (hr.mono (show 1 ≤ 7 by decide)) rfl c__law_take.mg c__law_take.kp c__law_take.b .nil pass0 (pa_cons (pv 2) (pa_cons pe_int pa_nil)))))) pa_nil))))
          (pss_one (ps_if (PW.pt (pw_or (pt_cmpR op_isNotB (pe_call G_is_house (hr.mono (show 5 ≤ 7 by decide)) rfl c_is_house.mg c_is_house.kp c_is_house.b .nil pass0 (pa_cons (pv 8) pa_nil)) pe_bl (nomark _)) (pw_or1 (pt_cmpR op_isNotB (pe_call G_is_house (hr.mono (show 5 ≤ 7 by decide)) rfl c_is_house.mg c_is_house.kp c_is_house.b .nil pass0 (pa_cons (pe_tup (pa_cons (pe_ix ix_tup (pv 8) pe_int (fun _ _ => rfl)) (pa_cons (pe_op op_cat (pe_ix ix_tup (pv 8) pe_int (fun _ _ => rfl)) (pe_lst (pa_cons pe_ll pa_nil))) pa_nil))) pa_nil)) pe_bl (nomark _)))))
            (pss_one (ps_ret pe_bl)) pss_nil))) pss_nil)))))))))))
      (@pss_cons _ _ _ _ _ (@ps_cut _ _ _ (@ps_for _ _ _ _ _ _ _ _ PassesOwn.never rfl (@pi_list _ _ _ _ (@pe_lst _ _ _ _ (@pa_c2 _ _ _ _ _ (@pe_non _ _ _) (@pa_c2 _ _ _ _ _ (@pe_int _ _ _ _) (@pa_c2 _ _ _ _ _ (@pe_bl _ _ _ _) (@pa_c2 _ _ _ _ _ (@pe_str _ _ _ _) (@pa_c2 _ _ _ _ _ (@pe_str _ _ _ _) (@pa_c2 _ _ _ _ _ (@pe_tup _ _ _ _ _ (@pa_nil _)) (@pa_c2 _ _ _ _ _ (@pe_lst _ _ _ _ (@pa_nil _)) (@pa_c2 _ _ _ _ _ (@pe_dnewK _ _) (@pa_c2 _ _ _ _ _ (@pe_tup _ _ _ _ _ (@pa_c2 _ _ _ _ _ (@pe_lst _ _ _ _ (@pa_nil _)) (@pa_nil _) rfl)) (@pa_c2 _ _ _ _ _ (@pe_lst _ _ _ _ (@pa_c2 _ _ _ _ _ (@pe_lst _ _ _ _ (@pa_nil _)) (@pa_c2 _ _ _ _ _ (@pe_lst _ _ _ _ (@pa_nil _)) (@pa_nil _) rfl) rfl)) (@pa_c2 _ _ _ _ _ (@pe_tup _ _ _ _ _ (@pa_c2 _ _ _ _ _ (@pe_lst _ _ _ _ (@pa_nil _)) (@pa_c2 _ _ _ _ _ (@pe_tup _ _ _ _ _ (@pa_nil _)) (@pa_nil _) rfl) rfl)) (@pa_c2 _ _ _ _ _ (@pe_tup _ _ _ _ _ (@pa_c2 _ _ _ _ _ (@pe_tup _ _ _ _ _ (@pa_nil _)) (@pa_c2 _ _ _ _ _ (@pe_lst _ _ _ _ (@pa_nil _)) (@pa_nil _) rfl) rfl)) (@pa_c2 _ _ _ _ _ (@pe_tup _ _ _ _ _ (@pa_c2 _ _ _ _ _ (@pe_lst _ _ _ _ (@pa_nil _)) (@pa_c2 _ _ _ _ _ (@pe_lst _ _ _ _ (@pa_nil _)) (@pa_c2 _ _ _ _ _ (@pe_lst _ _ _ _ (@pa_nil _)) (@pa_nil _) rfl) rfl) rfl)) (@pa_c2 _ _ _ _ _ (@pe_tup _ _ _ _ _ (@pa_c2 _ _ _ _ _ (@pe_lst _ _ _ _ (@pa_c2 _ _ _ _ _ (@pe_lst _ _ _ _ (@pa_nil _)) (@pa_nil _) rfl)) (@pa_c2 _ _ _ _ _ (@pe_lst _ _ _ _ (@pa_nil _)) (@pa_nil _) rfl) rfl)) (@pa_nil _) rfl) rfl) rfl) rfl) rfl) rfl) rfl) rfl) rfl) rfl) rfl) rfl) rfl) rfl))) (pg_name (i := 4) sc_law.nd rfl (Or.inl rfl))
        (pss_one (ps_if (pt_cmpR op_isNotB (pe_call G_is_house (hr.mono (show 5 ≤ 7 by decide)) rfl c_is_house.mg c_is_house.kp c_is_house.b .nil pass0 (pa_cons (pv 4) pa_nil)) pe_bl (nomark _))
          (pss_one (ps_ret pe_bl)) pss_nil)) (fun _ => rfl)))
      (pss_one (ps_ret (pe_and (pe_cmpR op_isB (pe_call G_is_house (hr.mono (show 5 ≤ 7 by decide)) rfl c_is_house.mg c_is_house.kp c_is_house.b .nil pass0 (pa_cons pe_ll pa_nil)) pe_bl (nomark _)) (pe_one (pe_cmpR op_isB (pe_call G_is_plain hr rfl c_is_plain.mg c_is_plain.kp c_is_plain.b .nil pass0 (pa_cons pe_ll pa_nil)) pe_bl (nomark _)))))))), ?_⟩
    refine ⟨fun σ' H' => ∃ (x1 x2 x3 x4 x5 x6 x7 x8 : Option V), σ' = [some (.ref a), x1, x2, x3, x4, x5, x6, x7, x8], ?_, ?_⟩
    · rintro σ H2 ⟨x1, x2, x3, x4, x5, x6, x7, x8, rfl⟩
      dsimp only
      refine ⟨fun σ' H' => ∃ (y4 : Option V), σ' = [some (.ref a), x1, x2, x3, y4, x5, x6, x7, x8], ?_, ?_⟩
      · rintro σ H3 ⟨y4, rfl⟩
        have ev0 : ∀ {σ : L2.St}, Ev (tTup (tCons (tLst tNil) (tCons (tLst tNil) tNil))) σ (.tuple [.list [], .list []]) := ev_tup (evA_cons (ev_lst evA_nil (by decide)) (evA_cons (ev_lst evA_nil (by decide)) evA_nil)) (by decide)
        dsimp only [tRet, tAndV, tOp]
        refine ev_call ev0 fun v H4 s4 m4 => ?_
        refine ⟨v, _, rfl, s4, ⟨rfl, by decide, by decide⟩, fun H5 m5 => ⟨_, _, rfl, rfl, _, rfl, ?_⟩⟩
        refine iteT ?_
        refine ev_call ev0 fun v H6 s6 m6 => ?_
        refine ⟨v, _, rfl, see_house0 s6, law0, fun H7 m7 => ⟨_, _, rfl, rfl, ?_⟩⟩
        exact k _
      · refine ev_for (ds := noData) ?_ (by decide) fun l ws H3 hl sw m3 => ?_
        · exact evA_cons ev_non (evA_cons ev_int (evA_cons ev_bl (evA_cons ev_str (evA_cons ev_str (evA_cons (ev_tup evA_nil (by decide)) (evA_cons (ev_lst evA_nil (by decide)) (evA_cons ev_dnew
            (evA_cons (ev_tup (evA_cons (ev_lst evA_nil (by decide)) evA_nil) (by decide)) (evA_cons (ev_lst (evA_cons (ev_lst evA_nil (by decide)) (evA_cons (ev_lst evA_nil (by decide)) evA_nil)) (by decide))
            (evA_cons (ev_tup (evA_cons (ev_lst evA_nil (by decide)) (evA_cons (ev_tup evA_nil (by decide)) evA_nil)) (by decide)) (evA_cons (ev_tup (evA_cons (ev_tup evA_nil (by decide)) (evA_cons (ev_lst evA_nil (by decide)) evA_nil)) (by decide))
            (evA_cons (ev_tup (evA_cons (ev_lst evA_nil (by decide)) (evA_cons (ev_lst evA_nil (by decide)) (evA_cons (ev_lst evA_nil (by decide)) evA_nil))) (by decide))
            (evA_cons (ev_tup (evA_cons (ev_lst (evA_cons (ev_lst evA_nil (by decide)) evA_nil) (by decide)) (evA_cons (ev_lst evA_nil (by decide)) evA_nil)) (by decide)) evA_nil)))))))))))))
        refine for_list (xs := ws) (fun i σ' H' => (∃ (y4 : Option V), σ' = [some (.ref a), x1, x2, x3, y4, x5, x6, x7, x8]) ∧ Same H3 H') ⟨⟨_, rfl⟩, Same.refl _⟩ (fun i σ H' _ ⟨_, sm⟩ => SqL.of (sm _ _ hl)) ?_ ?_
        · rintro i x σ H4 hx ⟨⟨y4, rfl⟩, sm⟩
          obtain ⟨d, hd, sx⟩ := sw.get hx
          have dm := List.mem_of_getElem? hd
          refine ⟨_, rfl, x, d, rfl, sx.same sm, (noData_fine.mem dm).mono (by decide) (by decide), fun H5 m5 => ⟨_, _, rfl, rfl, false, by rw [noData_no d dm]; rfl, ?_⟩⟩
          exact iteF ⟨⟨_, rfl⟩, sm.trans m5⟩
        · rintro σ H4 ⟨h, _⟩
          exact h
    · have mx : ∃ m : Nat, (if (if ((ns.map V.int).length : Int) < 12 then ((ns.map V.int).length : Int) else 12) > 1 then (if ((ns.map V.int).length : Int) < 12 then ((ns.map V.int).length : Int) else 12) else 1) = (m : Int) ∧ m ≤ 12 := by
        refine ⟨((if (if ((ns.map V.int).length : Int) < 12 then ((ns.map V.int).length : Int) else 12) > 1 then (if ((ns.map V.int).length : Int) < 12 then ((ns.map V.int).length : Int) else 12) else 1) : Int).toNat, ?_, ?_⟩ <;> split <;> split <;> (first | lia | omega)
      obtain ⟨m, em, hm⟩ := mx
      refine ⟨_, rfl, a, _, rfl, .inl hS, 12, _, rfl, 1, _, rfl, (m : Int), congrArg (fun z => [V.int z]) em, by (first | lia | omega), by (first | lia | omega), ?_⟩
      rw [Int.toNat_natCast]
      refine for_range (fun i σ' H' => (∃ (x1 x2 x3 x4 x5 x6 x7 x8 : Option V), σ' = [some (.ref a), x1, x2, x3, x4, x5, x6, x7, x8]) ∧ Same H H') ⟨⟨none, none, none, none, none, none, none, none, rfl⟩, Same.refl H⟩ ?_ ?_
      rotate_left
      · rintro σ' H' ⟨h, _⟩
        exact h
      rintro i σ H2 hi ⟨⟨x1, x2, x3, x4, x5, x6, x7, x8, rfl⟩, sm⟩
      refine ⟨_, rfl, _, rfl, a, i, ns, congrArg (fun z => [V.ref a, V.int z]) (show (0 + (i : Int)) = (i : Int) by (first | lia | omega)), sm.seq hS, by (first | lia | omega), hn, fun p c o np hpo c0 c1 => ?_⟩
      have s2 : Same H2 (upd H2 p o) := same_new np
      refine ⟨_, rfl, p, 60, c, rfl, ⟨o, upd_same, hpo⟩, by decide, c0, by (first | lia | omega), fun v h c4 H4 hh ok few len nk pl4 g1 g2 b4 => ?_⟩
      have hw : HouseLaw h := ⟨ok, len, nk⟩
      have s4 : Same H2 H4 := fun b u e => b4 b u (ne_of_none e np) (s2 b u e)
      have back : ∀ {H' : Hp}, But p H4 H' → Same H H' := fun {H'} B b u e => B b u (ne_of_none (sm b u e) np) (s4 b u (sm b u e))
      refine ⟨fun σ' H' => ∃ (y4 y5 y6 : Option V) (c' : Int), σ' = [some (.ref a), some (.int (0 + i)), some (.ref p), some v, y4, y5, y6, x7, x8] ∧ But p H4 H' ∧ PoolAt H' p c' ∧ 0 ≤ c' ∧ c' ≤ 20000, ?_, ?_⟩
      rotate_left
      · refine ⟨_, rfl, by show 1 ≤ sizeLine; decide, fun l0 n0 => ?_⟩
        have B5 : But p H4 (upd H4 l0 (.lst [v])) := but_new n0
        have h0 : (upd H4 l0 (.lst [v])) l0 = some (.lst [v]) := upd_same
        have PS4 : PoolS p [] H4 c4 := ⟨pl4, fun b hb => nomatch hb⟩
        have nl0 := (pool_ne PS4 n0).ne
        have pl5 := (pool_new (o := .lst [v]) PS4 n0).1
        generalize upd H4 l0 (.lst [v]) = H5 at *
        refine lcomp_eq _ _ _ _ _ _ _ _ _ ?_
        refine ⟨8, rfl, by decide, by decide, ?_⟩
        intro D hD
        have PS5 : PoolS p [] H5 c4 := ⟨pl5, fun b hb => nomatch hb⟩
        have nDp := (pool_ne PS5 hD).ne
        refine comp_range (n := 8) (fun j ys H' => ∃ c', ys.length = j ∧ (∀ y ∈ ys, isD p [D] 900000 8 y H') ∧ H' D = some (.lst ys) ∧ PoolAt H' p c' ∧ c4 ≤ c' ∧ c' ≤ c4 + 10 * j ∧ But p H5 H') ⟨c4, rfl, (fun _ h => nomatch h), upd_same, (pool_new PS5 hD).1, Int.le_refl _, by (first | lia | omega), but_new hD⟩ (fun j ys H' ⟨_, _, _, h, _⟩ => h) ?_ ?_
        · rintro j ys H6 hj ⟨c6, hl, hy, hD6, pl6, u6, w6, B6⟩
          refine turn_name rfl ?_
          have PS : PoolS p [D] H6 c6 := ⟨pl6, fun b hb => by rw [List.mem_singleton.mp hb, hD6]; simp⟩
          have hAt : HouseAt (hid p [D] H6) v h := hh.but pl4 fun b u nb e => hid_get (by
            rintro (z | z)
            · exact nb z
            · have e5 := B5 b u nb e
              rw [List.mem_singleton.mp z, hD] at e5
              cases e5) (B6 b u nb (B5 b u nb e))
          refine ⟨_, rfl, _, rfl, p, [D], v, h, c6, rfl, PS, hAt, hw, by (first | lia | omega), by (first | lia | omega), fun y H7 c7 D7 B7 P7 u7 w7 => ?_⟩
          refine ⟨B7 D _ nDp hD6, by rw [hl]; exact small6 (by (first | lia | omega)), nx hj ⟨c7, by simp [hl], ?_, upd_same, ?_, by (first | lia | omega), by (first | lia | omega), ?_⟩⟩
          · intro z hz
            rcases List.mem_append.mp hz with q | q
            · exact isD_upd (stb_D _ _ _ B7 (hy z q))
            · rw [List.mem_singleton.mp q]; exact isD_upd D7
          · obtain ⟨o7, e7, i7⟩ := P7.1
            exact ⟨o7, by rw [upd_ne (Ne.symm nDp)]; exact e7, i7⟩
          · intro b u nb e
            rw [upd_ne fun z => by rw [z, hD] at e; cases e]
            exact B7 b u nb (B6 b u nb e)
        · rintro ys H6 ⟨c6, hl, hy, hD6, pl6, u6, w6, B6⟩
          have h06 := B6 l0 _ nl0 h0
          refine ⟨l0, D, [v], ys, rfl, rfl, h06, hD6, by rw [hl]; show 1 + 8 ≤ sizeLine; decide, fun L nL => ⟨L, rfl, ⟨_, SqL.of upd_same⟩, ?_⟩⟩
          have B7 : But p H6 (upd H6 L (.lst ([v] ++ ys))) := but_new nL
          have pl7 : PoolAt (upd H6 L (.lst ([v] ++ ys))) p c6 := pool_same pl6 (same_new nL)
          have hL7 : (upd H6 L (.lst ([v] ++ ys))) L = some (.lst ([v] ++ ys)) := upd_same
          have hv7 : HouseAt (upd H6 L (.lst ([v] ++ ys))) v h := hh.but pl4 (B5.trans (B6.trans B7))
          have things : ∀ x ∈ [v] ++ ys, ∃ d, See (upd H6 L (.lst ([v] ++ ys))) x d ∧ Fine 900000 8 d := fun x hx => by
            rcases List.mem_append.mp hx with q | q
            · rw [List.mem_singleton.mp q]
              exact ⟨_, see_house hv7, hw.fine.mono (by decide) (by decide)⟩
            · obtain ⟨d, s, f⟩ := stb_D _ _ _ B7 (hy x q)
              exact ⟨d, s.same hid_same, f⟩
          generalize upd H6 L (.lst ([v] ++ ys)) = H7 at *
          refine for_list (xs := [v] ++ ys) (fun j σ' H' => (∃ (y4 y5 y6 : Option V), σ' = [some (.ref a), some (.int (0 + i)), some (.ref p), some v, y4, y5, y6, x7, x8]) ∧ Same H7 H') ⟨⟨_, _, _, rfl⟩, Same.refl _⟩ (fun j σ H' _ ⟨_, sm⟩ => SqL.of (sm _ _ hL7)) ?_ ?_
          · rintro j x σ H8 hx ⟨⟨y4, y5, y6, rfl⟩, sm8⟩
            obtain ⟨d, sd7, fd7⟩ := things x (List.mem_of_getElem? hx)
            obtain ⟨sh1, sh2⟩ := okD_short d fd7.ok
            have sd8 := sd7.same sm8
            have fb := Nat.le_trans fd7.bulk (show 900000 ≤ 1000000 by decide)
            have fu := deep (Nat.le_trans fd7.dep (show 8 ≤ 12 by decide))
            have ff : Fine 1000000 12 d := fd7.mono (by decide) (by decide)
            refine ⟨_, rfl, x, d, rfl, sd8, sh2, sh1, fb, fu, ?_⟩
            refine ⟨_, rfl, x, d, rfl, sd8, ff, fun H9 m9 => ?_⟩
            refine ⟨_, rfl, _, _, _, true, rfl, .bl _, kit_same K _, true, rfl, iteF ?_⟩
            refine ⟨_, rfl, _, rfl, x, d, rfl, sd8.same m9, ff, fun H10 m10 => ⟨rfl, false, by simp, iteF ?_⟩⟩
            refine ⟨_, rfl, x, d, rfl, (sd8.same m9).same m10, sh2, sh1, fb, fu, _, rfl, rfl, false, by simp, iteF ?_⟩
            exact ⟨⟨_, _, _, rfl⟩, sm8.trans (m9.trans m10)⟩
          · rintro σ H8 ⟨⟨y4, y5, y6, rfl⟩, sm8⟩
            exact ⟨y4, y5, y6, c6, rfl, B5.trans (B6.trans (B7.trans (but_same sm8))), pool_same pl7 sm8, by (first | lia | omega), by (first | lia | omega)⟩
      rintro σ H5 ⟨y4, y5, y6, c5, rfl, B5, pl5, c50, c51⟩
      dsimp only
      have hh5 := hh.but pl4 B5
      refine ⟨_, rfl, v, h, rfl, hh5, hw, fun H6 m6 => ?_⟩
      obtain ⟨t, aK, r, vs, rfl, ht, hK', hrr, hR⟩ := hh5.same m6
      have hvl := hR.1
      have rl := hw.rl
      have hat6 : HouseAt H6 (.ref t) h := hh5.same m6
      refine gN ?_
      dsimp only
      refine lc_set ?_
      refine ⟨_, rfl, t, _, 1, .ref r, rfl, rfl, SqT.of ht, rfl, r, rfl, ⟨_, SqL.of hrr⟩, ?_⟩
      intro D hD
      refine comp_list (xs := vs) (fun j ys H' => ys = (((h.2.take j).filter fun q => decide (1 < q.1.length)).map roomData).map (fun _ => V.int 1) ∧ j ≤ h.2.length ∧ H' D = some (.lst ys) ∧ Same H6 H') ⟨rfl, Nat.zero_le _, upd_same, same_new hD⟩ (fun j ys H' ⟨_, _, h, _⟩ => h) (fun j ys H' ⟨_, _, _, sm⟩ => SqL.of (sm r _ hrr)) ?_ ?_
      · rintro j ys H7 x hx ⟨rfl, hj0, hD7, sm7⟩
        have hj : j < vs.length := (List.getElem?_eq_some_iff.mp hx).1
        have hj' : j < h.2.length := by (first | lia | omega)
        have er : h.2[j]? = some h.2[j] := List.getElem?_eq_getElem hj'
        obtain ⟨tt, aa, bb, rfl, q1, q2, q3⟩ := (hR.2 j x _ hx er).same sm7
        have et : (h.2.take (j + 1)).filter (fun q => decide (1 < q.1.length)) = (h.2.take j).filter (fun q => decide (1 < q.1.length)) ++ (if 1 < (h.2[j]).1.length then [h.2[j]] else []) := by
          rw [List.take_succ, er, List.filter_append]
          by_cases hq : 1 < (h.2[j]).1.length <;> simp [hq]
        have lf : ((h.2.take j).filter fun q => decide (1 < q.1.length)).length ≤ j := Nat.le_trans (List.length_filter_le _ _) (by rw [List.length_take]; (first | lia | omega))
        refine turn_twoT tt (.ref aa) (.ref bb) rfl (SqT.of q1) rfl ?_
        refine ⟨_, rfl, aa, _, rfl, .inl (SqL.of q2), _, _, rfl, rfl, _, rfl, ?_⟩
        refine ite2 (fun h1 => ?_) (fun h1 => ?_)
        · have g1 := of_decide_eq_true h1
          rw [List.length_map] at g1
          have g1' : 1 < (h.2[j]).1.length := by (first | lia | omega)
          refine ⟨hD7, by rw [List.length_map, List.length_map]; exact small6 (by (first | lia | omega)), nx hj ⟨?_, by (first | lia | omega), upd_same, fun b u e => ?_⟩⟩
          · rw [et, if_pos g1', List.map_append, List.map_append]
            rfl
          · rw [upd_ne (ne_of_none e hD)]
            exact sm7 b u e
        · have g1 : ¬ (1 : Int) < (((h.2[j]).1.map V.str).length : Int) := fun q => h1 (decide_eq_true q)
          rw [List.length_map] at g1
          refine nx hj ⟨?_, by (first | lia | omega), hD7, sm7⟩
          rw [et, if_neg (by (first | lia | omega)), List.append_nil]
      · rintro ys H7 ⟨rfl, _, hD7, sm7⟩
        refine ⟨Nat.zero_le _, fun l nl => ?_⟩
        have nDl : D ≠ l := ne_of_none hD7 nl
        rw [hvl, List.take_length] at hD7
        have s8 : Same H7 (upd H7 l (.lst [])) := same_new nl
        have hat8 : HouseAt (upd H7 l (.lst [])) (.ref t) h := (hat6.same sm7).same s8
        refine ⟨.list (((h.2.filter fun q => decide (1 < q.1.length)).map roomData).map fun _ => PyData.int 1), .list [], .lst (by rw [upd_ne nDl]; exact hD7) (SeesAll.ones _), .lst upd_same .nil, (ones_lay _).1, rfl, ?_, ?_⟩
        · have e1 : (PyData.list []).depth = 1 := rfl
          rw [e1]
          exact Nat.lt_of_le_of_lt (Nat.add_le_add_left (Nat.min_le_right _ _) _) hu
        rw [if_neg Bool.false_ne_true, ones_nil, plain_eq hw.ok.rs]
        have B8 : But p H4 (upd H7 l (.lst [])) := B5.trans (but_same (m6.trans (sm7.trans s8)))
        have pl8 : PoolAt (upd H7 l (.lst [])) p c5 := pool_same pl5 (m6.trans (sm7.trans s8))
        generalize upd H7 l (.lst []) = H8 at *
        refine ⟨_, rfl, .ref t, houseData h, rfl, see_house hat8, hw.fine.mono (by decide) (by decide), fun H9 m9 => ⟨_, _, rfl, rfl, false, by rw [house_true hw.ok]; rfl, iteF ?_⟩⟩
        refine ⟨_, rfl, _, _, _, true, rfl, .bl _, kit_same K _, true, rfl, iteF ?_⟩
        refine ⟨_, rfl, _, rfl, rfl, false, by simp [plainB], iteF ?_⟩
        have B9 : But p H4 H9 := B8.trans (but_same m9)
        have pl9 := pool_same pl8 m9
        have hat9 := hat8.same m9
        refine ⟨fun σ' H' => (∃ (x1 x2 x3 x4 x5 x6 x7 x8 : Option V), σ' = [some (.ref a), x1, x2, x3, x4, x5, x6, x7, x8]) ∧ Same H H', fun σ' H' h => h, ?_⟩
        refine ⟨_, rfl, rfl, _, rfl, ite2 (fun _ => ?_) (fun _ => ⟨⟨_, _, _, _, _, _, _, _, rfl⟩, back B9⟩)⟩
        have PS9 : PoolS p [] H9 c5 := ⟨pl9, fun b hb => nomatch hb⟩
        obtain ⟨t', aK', r', vs', et, ht9, hk9, hr9, hR9⟩ := hat9.but pl9 (H' := hid p [] H9) fun b u nb e => hid_get (by
          rintro (z | z)
          · exact nb z
          · exact nomatch z) e
        cases et
        have LK : isLF p [] 1500 0 kindD (.ref aK') H9 := ⟨aK', _, _, rfl, (of_hid hk9).1, (of_hid hk9).2, SeeAll.strs h.1, (Fines.strs (m := 4) (txts hw.ok.kk)).mono (Nat.le_trans (Nat.mul_le_mul_left _ hw.keys) (by decide)) (Nat.le_refl _), (kinds_texts hw.ok.kk).1⟩
        have LR : isLF p [] 92000 2 roomD (.ref r') H9 := ⟨r', vs', _, rfl, (of_hid hr9).1, (of_hid hr9).2, see_rooms hR9, hw.fines, by rw [List.all_map, List.all_eq_true]; exact fun q hq => room_true (hw.ok.rs q hq)⟩
        have nt : t ≠ p := (of_hid ht9).1.ne
        have ht9' := (of_hid ht9).2
        refine Mk.set (p := p) (S := []) (m := 1) (R := isG p [] (1500 * 10 + (4 + 1) * 302) 0 (92000 + (10 + 1) * 961) 2) ?g PS9 c50 (by (first | lia | omega)) ?k
        case g =>
          refine mk_G (m := 0) (m' := 1) (mkf_cat (m := 0) (m' := 0) (mkf_rep (m := 0) (m' := 0) (hi := 10) (mk_ixT rfl ht9' nt LK stb_LF) (mk_cI (by decide)) (by decide) (by decide)) (mkf_rep (m := 0) (m' := 0) (hi := 302) (mkf_one (mk_sF kind_a) (by decide)) (mk_cI (by decide)) (by decide) (by decide)) (by decide))
            (mkf_cat (m := 0) (m' := 1) (mk_ixT1 rfl ht9' nt LR stb_LF) (mkf_rep (m := 0) (m' := 1) (hi := 961) (mkf_one mk_ab (by decide)) (mk_addI (i := 61) (j := 900) (mk_take rfl (by decide) (by decide)) (fun b H Q q => ⟨_, _, rfl, rfl, q⟩) (by decide)) (by decide) (by decide)) (by decide))
        case k =>
        rintro v10 H10 c10 G10 B10 P10 u10 w10
        obtain ⟨d10, sd10, fd10, hd10⟩ := G_data G10 (by decide) (by decide) (by decide)
        obtain ⟨t8, x8', y8, rfl, nt8, ht8, ⟨lx, ux, dx, rfl, ox, hx8, sx8, fx8, gx8⟩, ⟨ly, uy, dy, rfl, oy, hy8, sy8, fy8, gy8⟩⟩ := G10
        refine ⟨_, rfl, _, d10, rfl, sd10, fd10, fun H11 m11 => ⟨_, _, rfl, rfl, false, by rw [hd10]; rfl, iteF ?_⟩⟩
        have ht11 := m11 _ _ ht8
        refine ⟨_, rfl, t8, _, 0, _, rfl, rfl, SqT.of ht11, rfl, _, rfl, t8, _, 1, _, rfl, rfl, SqT.of ht11, rfl, Nat.zero_le _, fun l1 n1 => ⟨Nat.zero_le _, fun l2 n2 => ⟨by show 2 ≤ sizeLine; decide, fun t3 n3 => ⟨by show 1 ≤ sizeLine; decide, fun l4 n4 => ?_⟩⟩⟩⟩
        have m1 : Same H11 (upd H11 l1 (.lst [])) := same_new n1
        have e1 : (upd H11 l1 (.lst [])) l1 = some (.lst []) := upd_same
        generalize upd H11 l1 (.lst []) = G1 at *
        have m2 : Same G1 (upd G1 l2 (.lst [])) := same_new n2
        have e2 : (upd G1 l2 (.lst [])) l2 = some (.lst []) := upd_same
        generalize upd G1 l2 (.lst []) = G2 at *
        have m3 : Same G2 (upd G2 t3 (.tup [.ref l1, .ref l2])) := same_new n3
        have e3 : (upd G2 t3 (.tup [.ref l1, .ref l2])) t3 = some (.tup [.ref l1, .ref l2]) := upd_same
        generalize upd G2 t3 (.tup [.ref l1, .ref l2]) = G3 at *
        have m4 : Same G3 (upd G3 l4 (.lst [.ref t3])) := same_new n4
        have e4 : (upd G3 l4 (.lst [.ref t3])) l4 = some (.lst [.ref t3]) := upd_same
        generalize upd G3 l4 (.lst [.ref t3]) = G4 at *
        have m14 : Same H11 G4 := m1.trans (m2.trans (m3.trans m4))
        have yl := sy8.length
        have yf := fy8.len
        refine ⟨ly, l4, uy, [.ref t3], rfl, rfl, m14 _ _ (m11 _ _ hy8), e4, Nat.le_trans (show uy.length + 1 ≤ 1000000 by (first | lia | omega)) (by decide), fun l5 n5 => ⟨by show 2 ≤ sizeLine; decide, fun t6 n6 => ?_⟩⟩
        have m5 : Same G4 (upd G4 l5 (.lst (uy ++ [.ref t3]))) := same_new n5
        have e5 : (upd G4 l5 (.lst (uy ++ [.ref t3]))) l5 = some (.lst (uy ++ [.ref t3])) := upd_same
        generalize upd G4 l5 (.lst (uy ++ [.ref t3])) = G5 at *
        have m6' : Same G5 (upd G5 t6 (.tup [.ref lx, .ref l5])) := same_new n6
        have e6 : (upd G5 t6 (.tup [.ref lx, .ref l5])) t6 = some (.tup [.ref lx, .ref l5]) := upd_same
        generalize upd G5 t6 (.tup [.ref lx, .ref l5]) = G6 at *
        have m46 : Same G4 G6 := m5.trans m6'
        have mAll : Same H10 G6 := m11.trans (m14.trans m46)
        have s3 : See G6 (.ref t3) (.tuple [.list [], .list []]) := .tup (m46 _ _ (m4 _ _ e3)) (.cons (.lst (m46 _ _ (m4 _ _ (m3 _ _ (m2 _ _ e1)))) .nil) (.cons (.lst (m46 _ _ (m4 _ _ (m3 _ _ e2))) .nil) .nil))
        have f3 : Fine 6 2 (.tuple [.list [], .list []]) := ⟨by decide +kernel, by decide +kernel, by decide +kernel⟩
        have fy9 := fy8.app (Fines.cons (m := 0) f3 Fines.nil)
        refine ⟨.ref t6, .tuple [.list dx, .list (dy ++ [.tuple [.list [], .list []]])], rfl, .tup e6 (.cons (.lst (mAll _ _ hx8) ((sx8.same hid_same).same mAll)) (.cons (.lst (m6' _ _ e5) (((sy8.same hid_same).same mAll).append (.cons s3 .nil))) .nil)), ?_, fun H12 m12 => ⟨_, _, rfl, rfl, false, ?_, iteF ?_⟩⟩
        · have a1 : Fine (1500 * 10 + (4 + 1) * 302) 11 (.list dx) := (Fine.lst fx8).mono (Nat.le_refl _) (by decide)
          exact (Fine.tup (Fines.cons a1 (Fines.cons ((Fine.lst fy9).mono (Nat.le_refl _) (show 2 + 1 ≤ 11 by decide)) (Fines.nil (n := 0))))).mono (by decide) (Nat.le_refl _)
        · rw [room_no (List.mem_append.mpr (.inr (List.mem_singleton.mpr rfl))) (by simp [roomD, locksD])]
          rfl
        · exact ⟨⟨_, _, _, _, _, _, _, _, rfl⟩, back ((B9.trans B10).trans (but_same (mAll.trans m12)))⟩
end
end K7
set_option Elab.async false
set_option linter.all false
set_option maxRecDepth 100000
set_option maxHeartbeats 4000000
namespace K7
open PySem L2 PyProof.Rows
theorem all_mk {l : PySem.W.OpenLaw} {w : World} {K : PySem.W.Frag} {h : Heap} {mg : Str → Option Value} {fa f1 f2 f3 f4 f5 f6 f7 f8 f9 f10 f11 f12 f13 f14 f15 f16 f17 f18 f19 f20 : Addr} (X : K.In h) (G : h.Ns mainGlobals mg) (hfa : mg "law" = some (.ref fa))
    {od1 an1 od2 an2 od3 an3 od4 an4 od5 an5 od6 an6 od7 an7 od8 an8 od9 an9 od10 an10 od11 an11 od12 an12 od13 an13 od14 an14 od15 an15 od16 an16 od17 an17 od18 an18 od19 an19 od20 an20 : Option Addr} {sl1 sl2 sl3 sl4 sl5 sl6 sl7 sl8 sl9 sl10 sl11 sl12 sl13 sl14 sl15 sl16 sl17 sl18 sl19 sl20 : Array (Option Value)} {oc1 kV1 dc1 pm1 cd1 ct1 oc2 kV2 dc2 pm2 cd2 ct2 oc3 kV3 dc3 pm3 cd3 ct3 oc4 kV4 dc4 pm4 cd4 ct4 oc5 kV5 dc5 pm5 cd5 ct5 oc6 kV6 dc6 pm6 cd6 ct6 oc7 kV7 dc7 pm7 cd7 ct7 oc8 kV8 dc8 pm8 cd8 ct8 oc9 kV9 dc9 pm9 cd9 ct9 oc10 kV10 dc10 pm10 cd10 ct10 oc11 kV11 dc11 pm11 cd11 ct11 oc12 kV12 dc12 pm12 cd12 ct12 oc13 kV13 dc13 pm13 cd13 ct13 oc14 kV14 dc14 pm14 cd14 ct14 oc15 kV15 dc15 pm15 cd15 ct15 oc16 kV16 dc16 pm16 cd16 ct16 oc17 kV17 dc17 pm17 cd17 ct17 oc18 kV18 dc18 pm18 cd18 ct18 oc19 kV19 dc19 pm19 cd19 ct19 oc20 kV20 dc20 pm20 cd20 ct20 : Value} {t_LETTERS t_MOST_LETTERS t_MOST_LOCKS : Tok}
    (a1 : PySem.W.nsIn K mainGlobals "is_kind" = some (some (.ref f1))) (l1 : K.lookup f1 = some ⟨oc1, od1, .func (PySem.W.fnOf "is_kind" "is_kind" (defArgs sKind) (defBody sKind) (defScope sKind) .none kV1 dc1 pm1 an1 cd1 ct1), sl1⟩) (c1 : PySem.W.codeIn K cd1 "is_kind" = true) (k1 : PySem.W.keepIn K (.ref f1) = true)
    (a2 : PySem.W.nsIn K mainGlobals "are_kinds" = some (some (.ref f2))) (l2 : K.lookup f2 = some ⟨oc2, od2, .func (PySem.W.fnOf "are_kinds" "are_kinds" (defArgs sKinds) (defBody sKinds) (defScope sKinds) .none kV2 dc2 pm2 an2 cd2 ct2), sl2⟩) (c2 : PySem.W.codeIn K cd2 "are_kinds" = true) (k2 : PySem.W.keepIn K (.ref f2) = true)
    (a3 : PySem.W.nsIn K mainGlobals "are_locks" = some (some (.ref f3))) (l3 : K.lookup f3 = some ⟨oc3, od3, .func (PySem.W.fnOf "are_locks" "are_locks" (defArgs sLocks) (defBody sLocks) (defScope sLocks) .none kV3 dc3 pm3 an3 cd3 ct3), sl3⟩) (c3 : PySem.W.codeIn K cd3 "are_locks" = true) (k3 : PySem.W.keepIn K (.ref f3) = true)
    (a4 : PySem.W.nsIn K mainGlobals "is_room" = some (some (.ref f4))) (l4 : K.lookup f4 = some ⟨oc4, od4, .func (PySem.W.fnOf "is_room" "is_room" (defArgs sRoom) (defBody sRoom) (defScope sRoom) .none kV4 dc4 pm4 an4 cd4 ct4), sl4⟩) (c4 : PySem.W.codeIn K cd4 "is_room" = true) (k4 : PySem.W.keepIn K (.ref f4) = true)
    (a5 : PySem.W.nsIn K mainGlobals "is_house" = some (some (.ref f5))) (l5 : K.lookup f5 = some ⟨oc5, od5, .func (PySem.W.fnOf "is_house" "is_house" (defArgs sHouse) (defBody sHouse) (defScope sHouse) .none kV5 dc5 pm5 an5 cd5 ct5), sl5⟩) (c5 : PySem.W.codeIn K cd5 "is_house" = true) (k5 : PySem.W.keepIn K (.ref f5) = true)
    (a6 : PySem.W.nsIn K mainGlobals "require_house" = some (some (.ref f6))) (l6 : K.lookup f6 = some ⟨oc6, od6, .func (PySem.W.fnOf "require_house" "require_house" (defArgs st_require_house) (defBody st_require_house) (defScope st_require_house) .none kV6 dc6 pm6 an6 cd6 ct6), sl6⟩) (c6 : PySem.W.codeIn K cd6 "require_house" = true) (k6 : PySem.W.keepIn K (.ref f6) = true)
    (a7 : PySem.W.nsIn K mainGlobals "is_plain" = some (some (.ref f7))) (l7 : K.lookup f7 = some ⟨oc7, od7, .func (PySem.W.fnOf "is_plain" "is_plain" (defArgs st_is_plain) (defBody st_is_plain) (defScope st_is_plain) .none kV7 dc7 pm7 an7 cd7 ct7), sl7⟩) (c7 : PySem.W.codeIn K cd7 "is_plain" = true) (k7 : PySem.W.keepIn K (.ref f7) = true)
    (a8 : PySem.W.nsIn K mainGlobals "_law_pool" = some (some (.ref f8))) (l8 : K.lookup f8 = some ⟨oc8, od8, .func (PySem.W.fnOf "_law_pool" "_law_pool" (defArgs sPool) (defBody sPool) (defScope sPool) .none kV8 dc8 pm8 an8 cd8 ct8), sl8⟩) (c8 : PySem.W.codeIn K cd8 "_law_pool" = true) (k8 : PySem.W.keepIn K (.ref f8) = true)
    (a9 : PySem.W.nsIn K mainGlobals "_law_take" = some (some (.ref f9))) (l9 : K.lookup f9 = some ⟨oc9, od9, .func (PySem.W.fnOf "_law_take" "_law_take" (defArgs sTake) (defBody sTake) (defScope sTake) .none kV9 dc9 pm9 an9 cd9 ct9), sl9⟩) (c9 : PySem.W.codeIn K cd9 "_law_take" = true) (k9 : PySem.W.keepIn K (.ref f9) = true)
    (a10 : PySem.W.nsIn K mainGlobals "_law_kinds" = some (some (.ref f10))) (l10 : K.lookup f10 = some ⟨oc10, od10, .func (PySem.W.fnOf "_law_kinds" "_law_kinds" (defArgs sMade) (defBody sMade) (defScope sMade) .none kV10 dc10 pm10 an10 cd10 ct10), sl10⟩) (c10 : PySem.W.codeIn K cd10 "_law_kinds" = true) (k10 : PySem.W.keepIn K (.ref f10) = true)
    (a11 : PySem.W.nsIn K mainGlobals "_law_some" = some (some (.ref f11))) (l11 : K.lookup f11 = some ⟨oc11, od11, .func (PySem.W.fnOf "_law_some" "_law_some" (defArgs sSome) (defBody sSome) (defScope sSome) .none kV11 dc11 pm11 an11 cd11 ct11), sl11⟩) (c11 : PySem.W.codeIn K cd11 "_law_some" = true) (k11 : PySem.W.keepIn K (.ref f11) = true)
    (a12 : PySem.W.nsIn K mainGlobals "_law_house" = some (some (.ref f12))) (l12 : K.lookup f12 = some ⟨oc12, od12, .func (PySem.W.fnOf "_law_house" "_law_house" (defArgs sDrawn) (defBody sDrawn) (defScope sDrawn) .none kV12 dc12 pm12 an12 cd12 ct12), sl12⟩) (c12 : PySem.W.codeIn K cd12 "_law_house" = true) (k12 : PySem.W.keepIn K (.ref f12) = true)
    (a13 : PySem.W.nsIn K mainGlobals "_law_is_kind" = some (some (.ref f13))) (l13 : K.lookup f13 = some ⟨oc13, od13, .func (PySem.W.fnOf "_law_is_kind" "_law_is_kind" (defArgs st__law_is_kind) (defBody st__law_is_kind) (defScope st__law_is_kind) .none kV13 dc13 pm13 an13 cd13 ct13), sl13⟩) (c13 : PySem.W.codeIn K cd13 "_law_is_kind" = true) (k13 : PySem.W.keepIn K (.ref f13) = true)
    (a14 : PySem.W.nsIn K mainGlobals "_law_are_keys" = some (some (.ref f14))) (l14 : K.lookup f14 = some ⟨oc14, od14, .func (PySem.W.fnOf "_law_are_keys" "_law_are_keys" (defArgs st__law_are_keys) (defBody st__law_are_keys) (defScope st__law_are_keys) .none kV14 dc14 pm14 an14 cd14 ct14), sl14⟩) (c14 : PySem.W.codeIn K cd14 "_law_are_keys" = true) (k14 : PySem.W.keepIn K (.ref f14) = true)
    (a15 : PySem.W.nsIn K mainGlobals "_law_is_house" = some (some (.ref f15))) (l15 : K.lookup f15 = some ⟨oc15, od15, .func (PySem.W.fnOf "_law_is_house" "_law_is_house" (defArgs st__law_is_house) (defBody st__law_is_house) (defScope st__law_is_house) .none kV15 dc15 pm15 an15 cd15 ct15), sl15⟩) (c15 : PySem.W.codeIn K cd15 "_law_is_house" = true) (k15 : PySem.W.keepIn K (.ref f15) = true)
    (a16 : PySem.W.nsIn K mainGlobals "_law_sign" = some (some (.ref f16))) (l16 : K.lookup f16 = some ⟨oc16, od16, .func (PySem.W.fnOf "_law_sign" "_law_sign" (defArgs st__law_sign) (defBody st__law_sign) (defScope st__law_sign) .none kV16 dc16 pm16 an16 cd16 ct16), sl16⟩) (c16 : PySem.W.codeIn K cd16 "_law_sign" = true) (k16 : PySem.W.keepIn K (.ref f16) = true)
    (a17 : PySem.W.nsIn K mainGlobals "_law_bad_kinds" = some (some (.ref f17))) (l17 : K.lookup f17 = some ⟨oc17, od17, .func (PySem.W.fnOf "_law_bad_kinds" "_law_bad_kinds" (defArgs st__law_bad_kinds) (defBody st__law_bad_kinds) (defScope st__law_bad_kinds) .none kV17 dc17 pm17 an17 cd17 ct17), sl17⟩) (c17 : PySem.W.codeIn K cd17 "_law_bad_kinds" = true) (k17 : PySem.W.keepIn K (.ref f17) = true)
    (a18 : PySem.W.nsIn K mainGlobals "_law_bad_room" = some (some (.ref f18))) (l18 : K.lookup f18 = some ⟨oc18, od18, .func (PySem.W.fnOf "_law_bad_room" "_law_bad_room" (defArgs st__law_bad_room) (defBody st__law_bad_room) (defScope st__law_bad_room) .none kV18 dc18 pm18 an18 cd18 ct18), sl18⟩) (c18 : PySem.W.codeIn K cd18 "_law_bad_room" = true) (k18 : PySem.W.keepIn K (.ref f18) = true)
    (a19 : PySem.W.nsIn K mainGlobals "_law_spoilt" = some (some (.ref f19))) (l19 : K.lookup f19 = some ⟨oc19, od19, .func (PySem.W.fnOf "_law_spoilt" "_law_spoilt" (defArgs st__law_spoilt) (defBody st__law_spoilt) (defScope st__law_spoilt) .none kV19 dc19 pm19 an19 cd19 ct19), sl19⟩) (c19 : PySem.W.codeIn K cd19 "_law_spoilt" = true) (k19 : PySem.W.keepIn K (.ref f19) = true)
    (a20 : PySem.W.nsIn K mainGlobals "law" = some (some (.ref f20))) (l20 : K.lookup f20 = some ⟨oc20, od20, .func (PySem.W.fnOf "law" "law" (defArgs sLaw) (defBody sLaw) (defScope sLaw) .none kV20 dc20 pm20 an20 cd20 ct20), sl20⟩) (c20 : PySem.W.codeIn K cd20 "law" = true) (k20 : PySem.W.keepIn K (.ref f20) = true)
    (g_LETTERS : PySem.W.nsIn K mainGlobals "LETTERS" = some (some (.str lettersS t_LETTERS)))
    (g_MOST_LETTERS : PySem.W.nsIn K mainGlobals "MOST_LETTERS" = some (some (.int 4 t_MOST_LETTERS)))
    (g_MOST_LOCKS : PySem.W.nsIn K mainGlobals "MOST_LOCKS" = some (some (.int 4 t_MOST_LOCKS)))
    (z_isinstance : PySem.W.nsIn K mainGlobals "isinstance" = some none)
    (z_str : PySem.W.nsIn K mainGlobals "str" = some none)
    (z_len : PySem.W.nsIn K mainGlobals "len" = some none)
    (z_all : PySem.W.nsIn K mainGlobals "all" = some none)
    (z_list : PySem.W.nsIn K mainGlobals "list" = some none)
    (z_tuple : PySem.W.nsIn K mainGlobals "tuple" = some none)
    (z_sorted : PySem.W.nsIn K mainGlobals "sorted" = some none)
    (z_range : PySem.W.nsIn K mainGlobals "range" = some none)
    (z_min : PySem.W.nsIn K mainGlobals "min" = some none)
    (z_max : PySem.W.nsIn K mainGlobals "max" = some none)
    (z_sum : PySem.W.nsIn K mainGlobals "sum" = some none)
    (z_dict : PySem.W.nsIn K mainGlobals "dict" = some none)
    (z_enumerate : PySem.W.nsIn K mainGlobals "enumerate" = some none)
    (z_bool : PySem.W.nsIn K mainGlobals "bool" = some none)
    (z_repr : PySem.W.nsIn K mainGlobals "repr" = some none)
    : ∃ fd : FuncData, (∀ (s : Shared) (v : Value), BindsTo s fd ⟨[v], []⟩ [("script", v)]) ∧ ∀ base : Heap, K.In base → base.Ns mainGlobals mg → FnOkG l.prog w K mg base CX0 8 fa fd ["script"] (spLaw K) := by
  have e := hfa.symm.trans (PySem.W.mg_of X G a20)
  cases e
  have F_is_kind := fun_mk (st := sKind) l1 c1 k1
  have c_is_kind : Cal K mg "is_kind" ["thing"] f1 _ := ⟨PySem.W.mg_of X G a1, k1, F_is_kind.binds fun _ _ _ _ _ _ us hl => match us, hl with | [_], _ => rfl⟩
  have F_are_kinds := fun_mk (st := sKinds) l2 c2 k2
  have c_are_kinds : Cal K mg "are_kinds" ["thing"] f2 _ := ⟨PySem.W.mg_of X G a2, k2, F_are_kinds.binds fun _ _ _ _ _ _ us hl => match us, hl with | [_], _ => rfl⟩
  have F_are_locks := fun_mk (st := sLocks) l3 c3 k3
  have c_are_locks : Cal K mg "are_locks" ["thing"] f3 _ := ⟨PySem.W.mg_of X G a3, k3, F_are_locks.binds fun _ _ _ _ _ _ us hl => match us, hl with | [_], _ => rfl⟩
  have F_is_room := fun_mk (st := sRoom) l4 c4 k4
  have c_is_room : Cal K mg "is_room" ["thing"] f4 _ := ⟨PySem.W.mg_of X G a4, k4, F_is_room.binds fun _ _ _ _ _ _ us hl => match us, hl with | [_], _ => rfl⟩
  have F_is_house := fun_mk (st := sHouse) l5 c5 k5
  have c_is_house : Cal K mg "is_house" ["thing"] f5 _ := ⟨PySem.W.mg_of X G a5, k5, F_is_house.binds fun _ _ _ _ _ _ us hl => match us, hl with | [_], _ => rfl⟩
  have F_require_house := fun_mk (st := st_require_house) l6 c6 k6
  have c_require_house : Cal K mg "require_house" ["thing"] f6 _ := ⟨PySem.W.mg_of X G a6, k6, F_require_house.binds fun _ _ _ _ _ _ us hl => match us, hl with | [_], _ => rfl⟩
  have F_is_plain := fun_mk (st := st_is_plain) l7 c7 k7
  have c_is_plain : Cal K mg "is_plain" ["house"] f7 _ := ⟨PySem.W.mg_of X G a7, k7, F_is_plain.binds fun _ _ _ _ _ _ us hl => match us, hl with | [_], _ => rfl⟩
  have F__law_pool := fun_mk (st := sPool) l8 c8 k8
  have c__law_pool : Cal K mg "_law_pool" ["script", "k"] f8 _ := ⟨PySem.W.mg_of X G a8, k8, F__law_pool.binds fun _ _ _ _ _ _ us hl => match us, hl with | [_, _], _ => rfl⟩
  have F__law_take := fun_mk (st := sTake) l9 c9 k9
  have c__law_take : Cal K mg "_law_take" ["pool", "many"] f9 _ := ⟨PySem.W.mg_of X G a9, k9, F__law_take.binds fun _ _ _ _ _ _ us hl => match us, hl with | [_, _], _ => rfl⟩
  have F__law_kinds := fun_mk (st := sMade) l10 c10 k10
  have c__law_kinds : Cal K mg "_law_kinds" ["pool", "many"] f10 _ := ⟨PySem.W.mg_of X G a10, k10, F__law_kinds.binds fun _ _ _ _ _ _ us hl => match us, hl with | [_, _], _ => rfl⟩
  have F__law_some := fun_mk (st := sSome) l11 c11 k11
  have c__law_some : Cal K mg "_law_some" ["pool", "kinds", "many"] f11 _ := ⟨PySem.W.mg_of X G a11, k11, F__law_some.binds fun _ _ _ _ _ _ us hl => match us, hl with | [_, _, _], _ => rfl⟩
  have F__law_house := fun_mk (st := sDrawn) l12 c12 k12
  have c__law_house : Cal K mg "_law_house" ["pool", "most"] f12 _ := ⟨PySem.W.mg_of X G a12, k12, F__law_house.binds fun _ _ _ _ _ _ us hl => match us, hl with | [_, _], _ => rfl⟩
  have F__law_is_kind := fun_mk (st := st__law_is_kind) l13 c13 k13
  have c__law_is_kind : Cal K mg "_law_is_kind" ["thing"] f13 _ := ⟨PySem.W.mg_of X G a13, k13, F__law_is_kind.binds fun _ _ _ _ _ _ us hl => match us, hl with | [_], _ => rfl⟩
  have F__law_are_keys := fun_mk (st := st__law_are_keys) l14 c14 k14
  have c__law_are_keys : Cal K mg "_law_are_keys" ["thing"] f14 _ := ⟨PySem.W.mg_of X G a14, k14, F__law_are_keys.binds fun _ _ _ _ _ _ us hl => match us, hl with | [_], _ => rfl⟩
  have F__law_is_house := fun_mk (st := st__law_is_house) l15 c15 k15
  have c__law_is_house : Cal K mg "_law_is_house" ["thing"] f15 _ := ⟨PySem.W.mg_of X G a15, k15, F__law_is_house.binds fun _ _ _ _ _ _ us hl => match us, hl with | [_], _ => rfl⟩
  have F__law_sign := fun_mk (st := st__law_sign) l16 c16 k16
  have c__law_sign : Cal K mg "_law_sign" ["pool"] f16 _ := ⟨PySem.W.mg_of X G a16, k16, F__law_sign.binds fun _ _ _ _ _ _ us hl => match us, hl with | [_], _ => rfl⟩
  have F__law_bad_kinds := fun_mk (st := st__law_bad_kinds) l17 c17 k17
  have c__law_bad_kinds : Cal K mg "_law_bad_kinds" ["pool", "kinds"] f17 _ := ⟨PySem.W.mg_of X G a17, k17, F__law_bad_kinds.binds fun _ _ _ _ _ _ us hl => match us, hl with | [_, _], _ => rfl⟩
  have F__law_bad_room := fun_mk (st := st__law_bad_room) l18 c18 k18
  have c__law_bad_room : Cal K mg "_law_bad_room" ["pool", "room"] f18 _ := ⟨PySem.W.mg_of X G a18, k18, F__law_bad_room.binds fun _ _ _ _ _ _ us hl => match us, hl with | [_, _], _ => rfl⟩
  have F__law_spoilt := fun_mk (st := st__law_spoilt) l19 c19 k19
  have c__law_spoilt : Cal K mg "_law_spoilt" ["pool", "house"] f19 _ := ⟨PySem.W.mg_of X G a19, k19, F__law_spoilt.binds fun _ _ _ _ _ _ us hl => match us, hl with | [_, _], _ => rfl⟩
  have F_law := fun_mk (st := sLaw) l20 c20 k20
  have hg_LETTERS := PySem.W.mg_of X G g_LETTERS
  have hg_MOST_LETTERS := PySem.W.mg_of X G g_MOST_LETTERS
  have hg_MOST_LOCKS := PySem.W.mg_of X G g_MOST_LOCKS
  have m_isinstance := PySem.W.mg_none_of X G z_isinstance
  have m_str := PySem.W.mg_none_of X G z_str
  have m_len := PySem.W.mg_none_of X G z_len
  have m_all := PySem.W.mg_none_of X G z_all
  have m_list := PySem.W.mg_none_of X G z_list
  have m_tuple := PySem.W.mg_none_of X G z_tuple
  have m_sorted := PySem.W.mg_none_of X G z_sorted
  have m_range := PySem.W.mg_none_of X G z_range
  have m_min := PySem.W.mg_none_of X G z_min
  have m_max := PySem.W.mg_none_of X G z_max
  have m_sum := PySem.W.mg_none_of X G z_sum
  have m_dict := PySem.W.mg_none_of X G z_dict
  have m_enumerate := PySem.W.mg_none_of X G z_enumerate
  have m_bool := PySem.W.mg_none_of X G z_bool
  have m_repr := PySem.W.mg_none_of X G z_repr
  refine ⟨PySem.W.fnOf "law" "law" (defArgs sLaw) (defBody sLaw) (defScope sLaw) .none kV20 dc20 pm20 an20 cd20 ct20, fun s v => .of_eq rfl, fun base _ _ => ?_⟩
  have Gl : Glb mg := ⟨m_isinstance, m_str, m_len, m_all, ⟨_, hg_LETTERS⟩, ⟨_, hg_MOST_LETTERS⟩⟩
  have GT : FnOk l.prog w K mg base CX0 1 _ _ ["pool", "many"] spTake := ok_take F__law_take
  have GS : FnOk l.prog w K mg base CX0 2 _ _ ["pool", "kinds", "many"] spSome := ok_some F__law_some F__law_take c__law_take m_range m_len
  have GP : FnOk l.prog w K mg base CX0 1 _ _ ["script", "k"] (spPool K) := ok_pool F__law_pool m_len
  have G1 : FnOk l.prog w K mg base CX0 1 _ _ ["thing"] (spD kindD) := D_kind F_is_kind Gl
  have GK : FnOk l.prog w K mg base CX0 2 _ _ ["thing"] (spD kindsD) := D_kinds F_are_kinds G1 c_is_kind Gl m_list
  have GL : FnOk l.prog w K mg base CX0 3 _ _ ["thing"] (spD locksD) := D_locks F_are_locks GK c_are_kinds m_len m_sorted ⟨_, hg_MOST_LOCKS⟩
  have GR : FnOk l.prog w K mg base CX0 4 _ _ ["thing"] (spD roomD) := D_room F_is_room GL c_are_locks GK c_are_kinds m_isinstance m_len m_tuple
  have GH : FnOk l.prog w K mg base CX0 5 _ _ ["thing"] (spD houseD) := D_house F_is_house GR c_is_room GK c_are_kinds m_isinstance m_len m_tuple m_list m_all
  have GQ : FnOk l.prog w K mg base CX0 6 _ _ ["thing"] spReqD := D_req F_require_house GH c_is_house
  have GN : FnOk l.prog w K mg base CX0 7 _ _ ["house"] spPlain := D_plain F_is_plain GQ c_require_house m_all m_len
  have GM : FnOk l.prog w K mg base CX0 2 _ _ ["pool", "many"] spMade := ok_made F__law_kinds GT c__law_take m_range m_len
  have GD : FnOk l.prog w K mg base CX0 3 _ _ ["pool", "most"] spDrawn := ok_drawn F__law_house GT c__law_take GM c__law_kinds GS c__law_some m_range m_len m_min m_sorted m_sum
  have G2 : FnOk l.prog w K mg base CX0 1 _ _ ["thing"] (spD kindD) := L_kind F__law_is_kind m_isinstance m_str m_len
  have G3 : FnOk l.prog w K mg base CX0 2 _ _ ["thing"] (spD kindsD) := L_keys F__law_are_keys G2 c__law_is_kind m_isinstance m_list
  have G4 : FnOk l.prog w K mg base CX0 3 _ _ ["thing"] (spD houseD) := L_house F__law_is_house G3 c__law_are_keys m_isinstance m_len m_list m_sorted m_tuple
  have G5 : FnOk l.prog w K mg base CX0 2 _ _ ["pool"] spSign := ok_sign F__law_sign GT c__law_take m_len
  have G6 : FnOk l.prog w K mg base CX0 3 _ _ ["pool", "kinds"] spBadKinds := ok_badKinds F__law_bad_kinds GT c__law_take G5 c__law_sign m_len m_dict m_enumerate m_tuple
  have G7 : FnOk l.prog w K mg base CX0 4 _ _ ["pool", "room"] spBadRoom := ok_badRoom F__law_bad_room GT c__law_take G6 c__law_bad_kinds m_sorted
  have G8 : FnOk l.prog w K mg base CX0 5 _ _ ["pool", "house"] spSpoilt := ok_spoilt F__law_spoilt GT c__law_take G6 c__law_bad_kinds G7 c__law_bad_room m_len m_tuple
  exact ok_law F_law GP c__law_pool GD c__law_house GT c__law_take G8 c__law_spoilt GH c_is_house G4 c__law_is_house GN c_is_plain m_range m_len m_min m_max m_isinstance m_bool m_repr
theorem walk {l : PySem.W.OpenLaw} {q : Program} {loose : List Str} {XP : (Str → Option Value) → Heap → Prop} {YP : World → Heap → Prop} {d : DefRec} {K : Params → PySem.W.Frag} (hn : l.most = some 63) (hdf : d.params.defaults = [])
    (hY : ∀ (w : World) (h : Heap), YP w h → (K w.params).In h)
    (F : ∀ (w : World) (mg : Str → Option Value) (fa : Addr) (h : Heap), (K w.params).In h → h.Ns mainGlobals mg → mg d.name = some (.ref fa) →
      ∃ fd : FuncData, (∀ (s : Shared) (u : Value), BindsTo s fd ⟨[u], []⟩ [("script", u)]) ∧ ∀ base : Heap, (K w.params).In base → base.Ns mainGlobals mg → FnOkG l.prog w (K w.params) mg base CX0 8 fa fd ["script"] (spLaw (K w.params))) :
    PySem.W.WalkO q loose XP YP l.row.toRowW d [] (fun f vs => PySem.call f vs) :=
  L2.walk_ofG (n := 63) (k := 8) (x := "script") (CX := fun _ => CX0) (sp := fun w => spLaw (K w.params)) hn (by decide) hdf ⟨rfl, by decide, by decide⟩ hY F (fun _ _ a ns hl _ hS => ⟨a, ns, rfl, hS, hl, fun _ => rfl⟩) fun _ _ _ _ _ z => z
end K7
open PySem PySem.W PyProof.Rows
set_option maxRecDepth 100000 in
set_option maxHeartbeats 0 in
theorem PySem.Challenge.cw_keyrooms_k01_what_is_a_house_holds : PySem.Challenge.rw_keyrooms_k01_what_is_a_house.Holds := by
  w_on; o_law; k_head; (case hw => w_witness2)
  k_fill
  refine K7.walk (l := PySem.Challenge.rw_keyrooms_k01_what_is_a_house) rfl rfl (fun w h Y => PySem.W.kIn_of Y) ?F
  case F =>
    intro w mg fa h KX G hmg
    refine' K7.all_mk KX G hmg ?a1 ?l1 ?c1 ?k1 ?a2 ?l2 ?c2 ?k2 ?a3 ?l3 ?c3 ?k3 ?a4 ?l4 ?c4 ?k4 ?a5 ?l5 ?c5 ?k5 ?a6 ?l6 ?c6 ?k6 ?a7 ?l7 ?c7 ?k7 ?a8 ?l8 ?c8 ?k8 ?a9 ?l9 ?c9 ?k9 ?a10 ?l10 ?c10 ?k10 ?a11 ?l11 ?c11 ?k11 ?a12 ?l12 ?c12 ?k12 ?a13 ?l13 ?c13 ?k13 ?a14 ?l14 ?c14 ?k14 ?a15 ?l15 ?c15 ?k15 ?a16 ?l16 ?c16 ?k16 ?a17 ?l17 ?c17 ?k17 ?a18 ?l18 ?c18 ?k18 ?a19 ?l19 ?c19 ?k19 ?a20 ?l20 ?c20 ?k20 ?g_LETTERS ?g_MOST_LETTERS ?g_MOST_LOCKS ?z_isinstance ?z_str ?z_len ?z_all ?z_list ?z_tuple ?z_sorted ?z_range ?z_min ?z_max ?z_sum ?z_dict ?z_enumerate ?z_bool ?z_repr
    (case a1 => k_is)
    (case l1 => k_is)
    (case c1 => k_is)
    (case k1 => k_is)
    (case a2 => k_is)
    (case l2 => k_is)
    (case c2 => k_is)
    (case k2 => k_is)
    (case a3 => k_is)
    (case l3 => k_is)
    (case c3 => k_is)
    (case k3 => k_is)
    (case a4 => k_is)
    (case l4 => k_is)
    (case c4 => k_is)
    (case k4 => k_is)
    (case a5 => k_is)
    (case l5 => k_is)
    (case c5 => k_is)
    (case k5 => k_is)
    (case a6 => k_is)
    (case l6 => k_is)
    (case c6 => k_is)
    (case k6 => k_is)
    (case a7 => k_is)
    (case l7 => k_is)
    (case c7 => k_is)
    (case k7 => k_is)
    (case a8 => k_is)
    (case l8 => k_is)
    (case c8 => k_is)
    (case k8 => k_is)
    (case a9 => k_is)
    (case l9 => k_is)
    (case c9 => k_is)
    (case k9 => k_is)
    (case a10 => k_is)
    (case l10 => k_is)
    (case c10 => k_is)
    (case k10 => k_is)
    (case a11 => k_is)
    (case l11 => k_is)
    (case c11 => k_is)
    (case k11 => k_is)
    (case a12 => k_is)
    (case l12 => k_is)
    (case c12 => k_is)
    (case k12 => k_is)
    (case a13 => k_is)
    (case l13 => k_is)
    (case c13 => k_is)
    (case k13 => k_is)
    (case a14 => k_is)
    (case l14 => k_is)
    (case c14 => k_is)
    (case k14 => k_is)
    (case a15 => k_is)
    (case l15 => k_is)
    (case c15 => k_is)
    (case k15 => k_is)
    (case a16 => k_is)
    (case l16 => k_is)
    (case c16 => k_is)
    (case k16 => k_is)
    (case a17 => k_is)
    (case l17 => k_is)
    (case c17 => k_is)
    (case k17 => k_is)
    (case a18 => k_is)
    (case l18 => k_is)
    (case c18 => k_is)
    (case k18 => k_is)
    (case a19 => k_is)
    (case l19 => k_is)
    (case c19 => k_is)
    (case k19 => k_is)
    (case a20 => k_is)
    (case l20 => k_is)
    (case c20 => k_is)
    (case k20 => k_is)
    (case g_LETTERS => k_is)
    (case g_MOST_LETTERS => k_is)
    (case g_MOST_LOCKS => k_is)
    (case z_isinstance => k_is)
    (case z_str => k_is)
    (case z_len => k_is)
    (case z_all => k_is)
    (case z_list => k_is)
    (case z_tuple => k_is)
    (case z_sorted => k_is)
    (case z_range => k_is)
    (case z_min => k_is)
    (case z_max => k_is)
    (case z_sum => k_is)
    (case z_dict => k_is)
    (case z_enumerate => k_is)
    (case z_bool => k_is)
    (case z_repr => k_is)
