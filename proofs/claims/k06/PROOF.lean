import PyProof.Rows.All
import Wide.All
import OpenK.AllK
import Wide.FinOn
import Lean
import PyProof.EqAt
import PyProof.EqKinds
import PyProof.TupleCall
import PyProof.Rows.SetFrom
import PyProof.SetRoads
import KE.KDictSum
import PyProof.DictCompW
import KE.KEqDict
import KE.KxText
import PyProof.WalksEnum
import PyProof.EnumMake
import KE.KDictLaws
import PyProof.Rows.SortStr
import PyProof.ReprBulk
import KE.KRevSl
import PyProof.AttrMissHeap
import KE.KDictOf
import PyProof.ZipIter
import PyProof.ListRange
import PySem.Challenge.RW_keyrooms_k06_whole_houses_named_anew
set_option Elab.async false
set_option linter.all false
set_option maxRecDepth 100000
namespace L2
open PySem PySem.Spec PyProof.Rows
abbrev Key := Sum Int Str
def keyIs : Key → Value → Bool
  | .inl k, v => Value.isInt k v
  | .inr x, v => Value.isStrOf x v
def keyH (w : World) : Key → Int
  | .inl k => hashInt k
  | .inr x => hashStr w x
theorem keyIs_shape : ∀ {k : Key} {v : Value}, keyIs k v = true → (∃ i t, k = Sum.inl i ∧ v = Value.int i t) ∨ (∃ x t, k = Sum.inr x ∧ v = Value.str x t)
  | .inl i, v, h => by
    obtain ⟨t, e⟩ := Value.isInt_shape (k := i) (v := v) h
    exact .inl ⟨i, t, rfl, e⟩
  | .inr x, v, h => by
    obtain ⟨t, e⟩ := Value.isStrOf_shape (x := x) (v := v) h
    exact .inr ⟨x, t, rfl, e⟩
theorem keyIs_int (i : Int) (t : Tok) : keyIs (.inl i) (.int i t) = true := by simp [keyIs, Value.isInt]
theorem keyIs_str (x : Str) (t : Tok) : keyIs (.inr x) (.str x t) = true := by simp [keyIs, Value.isStrOf]
theorem key_ll (a b : Int) : decide ((Sum.inl a : Key) = Sum.inl b) = (a == b) := by
  by_cases e : a = b
  · subst e; simp
  · have h : ¬ (Sum.inl a : Key) = Sum.inl b := fun q => e (Sum.inl.inj q)
    rw [decide_eq_false h]
    exact (beq_eq_false_iff_ne.mpr e).symm
theorem key_rr (a b : Str) : decide ((Sum.inr a : Key) = Sum.inr b) = decide (a = b) := by
  by_cases e : a = b
  · subst e; simp
  · have h : ¬ (Sum.inr a : Key) = Sum.inr b := fun q => e (Sum.inr.inj q)
    rw [decide_eq_false h, decide_eq_false e]
theorem key_lr (a : Int) (b : Str) : decide ((Sum.inl a : Key) = Sum.inr b) = false := decide_eq_false (fun q => nomatch q)
theorem key_rl (a : Str) (b : Int) : decide ((Sum.inr a : Key) = Sum.inl b) = false := decide_eq_false (fun q => nomatch q)
def mixKind (prog : Program) (w : World) : PySem.KeyKind prog w Key where
  is := keyIs
  hash := keyH w
  inj := fun v a b ha hb => by
    rcases keyIs_shape ha with ⟨i, t, rfl, rfl⟩ | ⟨x, t, rfl, rfl⟩
    · rcases keyIs_shape hb with ⟨j, u, rfl, e⟩ | ⟨y, u, rfl, e⟩
      · injection e with e1 _; rw [e1]
      · exact nomatch e
    · rcases keyIs_shape hb with ⟨j, u, rfl, e⟩ | ⟨y, u, rfl, e⟩
      · exact nomatch e
      · injection e with e1 _; rw [e1]
  byValue := fun k v h => by
    rcases keyIs_shape h with ⟨i, t, rfl, rfl⟩ | ⟨x, t, rfl, rfl⟩ <;> rfl
  pyHash := fun hv h => by
    rcases keyIs_shape hv with ⟨i, t, rfl, rfl⟩ | ⟨x, t, rfl, rfl⟩
    · exact wpAny_pyHash_int h
    · exact wpAny_pyHash_str h
  eqBool := fun hu hv h => by
    rcases keyIs_shape hu with ⟨i, t, rfl, rfl⟩ | ⟨x, t, rfl, rfl⟩
    · rcases keyIs_shape hv with ⟨j, u, rfl, rfl⟩ | ⟨y, u, rfl, rfl⟩
      · rw [key_ll] at h; exact wpAny_eqBool_int h
      · rw [key_lr] at h; exact SeqAt.EqAt.int_str i t y u _ _ _ _ h
    · rcases keyIs_shape hv with ⟨j, u, rfl, rfl⟩ | ⟨y, u, rfl, rfl⟩
      · rw [key_rl] at h; exact SeqAt.EqAt.str_int x t j u _ _ _ _ h
      · rw [key_rr] at h; exact wpAny_eqBool_str h
  «strs» := fun k x t v h => by
    rcases keyIs_shape h with ⟨i, u, rfl, e⟩ | ⟨y, u, rfl, e⟩
    · exact nomatch e
    · injection e with e1 _
      subst e1
      cases v <;> rfl
theorem mixKind_int (prog : Program) (w : World) (i : Int) (t : Tok) : (mixKind prog w).is (.inl i) (.int i t) = true := keyIs_int i t
theorem mixKind_str (prog : Program) (w : World) (x : Str) (t : Tok) : (mixKind prog w).is (.inr x) (.str x t) = true := keyIs_str x t
end L2
namespace L2
open PySem PySem.Spec PyProof.Rows
inductive V where
  | non | bl (b : Bool) | int (i : Int) | str (x : Str) | byt (b : Array UInt8) | flt (b : UInt64) | ref (a : Addr) | ty (n : String)
  deriving DecidableEq
def RelV : V → Value → Prop
  | .non, u => u = Value.none
  | .bl b, u => u = Value.bool b
  | .int i, u => ∃ t, u = Value.int i t
  | .str x, u => ∃ t, u = Value.str x t
  | .byt b, u => ∃ t, u = Value.bytes b t
  | .flt b, u => ∃ t, u = Value.float b t
  | .ref a, u => u = Value.ref a
  | .ty n, u => u = Value.type n
abbrev Vals : List V → List Value → Prop := Paired RelV
theorem Vals.length {xs : List V} {us : List Value} (r : Vals xs us) : xs.length = us.length := Paired.length r
theorem Vals.get : ∀ {xs : List V} {us : List Value} {i : Nat} {x : V}, Vals xs us → xs[i]? = some x → ∃ u, us[i]? = some u ∧ RelV x u
  | _, _, _, _, .nil, e => by simp at e
  | _, _, 0, _, .cons r _, e => by simp at e; subst e; exact ⟨_, rfl, r⟩
  | _, _, i + 1, x, .cons _ t, e => by
    obtain ⟨u, h1, h2⟩ := Vals.get (i := i) (x := x) t (by simpa using e)
    exact ⟨u, by simpa using h1, h2⟩
theorem Vals.set {x : V} {u : Value} (r : RelV x u) : ∀ {xs : List V} {us : List Value} (i : Nat), Vals xs us → Vals (xs.set i x) (us.set i u)
  | _, _, _, .nil => .nil
  | _, _, 0, .cons _ t => .cons r t
  | _, _, i + 1, .cons q t => .cons q (Vals.set r i t)
theorem Vals.append : ∀ {xs ys : List V} {us ws : List Value}, Vals xs us → Vals ys ws → Vals (xs ++ ys) (us ++ ws)
  | _, _, _, _, .nil, s => s
  | _, _, _, _, .cons r t, s => .cons r (Vals.append t s)
theorem Vals.take : ∀ {xs : List V} {us : List Value} (n : Nat), Vals xs us → Vals (xs.take n) (us.take n)
  | _, _, 0, _ => .nil
  | _, _, _ + 1, .nil => .nil
  | _, _, n + 1, .cons r t => .cons r (Vals.take n t)
theorem Vals.drop : ∀ {xs : List V} {us : List Value} (n : Nat), Vals xs us → Vals (xs.drop n) (us.drop n)
  | _, _, 0, r => r
  | _, _, _ + 1, .nil => .nil
  | _, _, n + 1, .cons _ t => Vals.drop n t
def RelO : Option V → Option Value → Prop
  | some v, some u => RelV v u
  | none, none => True
  | _, _ => False
def KV {κ : Type} : List (κ × V) → List (κ × Value) → Prop := Paired fun (p : κ × V) (q : κ × Value) => p.1 = q.1 ∧ RelV p.2 q.2
def kV : Key → V
  | .inl i => .int i
  | .inr x => .str x
inductive HO where
  | lst (xs : List V)
  | tup (xs : List V)
  | dK (kvs : List (Key × V)) | dT (kvs : List (List Key × V))
  | set (S : Int → Bool) (n : Nat)
  | ins (C dx : Addr) (fs : List (Str × V))
  | own (x : Addr)
  | xd (fs : List (Str × V))
  | met (f x : Addr)
  | rng (lo hi : Int)
  | frz (o : Obj) (u : HO)
  | tbl (ps : Array Value)
  | ext (φ : Heap → Prop)
abbrev Hp := Addr → Option HO
def upd (H : Hp) (a : Addr) (o : HO) : Hp := fun b => if b = a then some o else H b
theorem upd_same {H : Hp} {a : Addr} {o : HO} : upd H a o a = some o := by unfold upd; rw [if_pos rfl]
theorem upd_ne {H : Hp} {a b : Addr} {o : HO} (h : b ≠ a) : upd H a o b = H b := by unfold upd; rw [if_neg h]
theorem ne_of {H : Hp} {a b : Addr} {o u : HO} (h : H a = some o) (h' : H b = some u) (d : o ≠ u) : a ≠ b := by
  intro e; subst e; rw [h] at h'; exact d (Option.some.inj h')
theorem ne_of_none {H : Hp} {a b : Addr} {o : HO} (h : H a = some o) (h' : H b = none) : a ≠ b := by
  intro e; subst e; rw [h] at h'; cases h'
section
variable (P : Program) (w : World)
def ObjOk (H : Hp) (h : Heap) (a : Addr) : HO → Prop
  | .lst xs => xs.length ≤ sizeLine ∧ ∃ (its : List Value) (n : Nat), Vals xs its ∧ h.get? a = some { cls := .type "list", data := .seq its.toArray n }
  | .tup xs => xs.length ≤ sizeLine ∧ ∃ its : List Value, Vals xs its ∧ IsTup h a its.toArray
  | .dK kvs => kvs.length ≤ sizeLine ∧ (a == sysModules) = false ∧ ∃ vs, KV kvs vs ∧ h.DictOf (mixKind P w) a vs
  | .dT kvs => kvs.length ≤ sizeLine ∧ (a == sysModules) = false ∧ ∃ xs : List (List Key × Addr × Value),
      Paired (fun (p : List Key × V) (q : List Key × Addr × Value) => p.1 = q.1 ∧ H q.2.1 = some (.tup (p.1.map kV)) ∧ RelV p.2 q.2.2) kvs xs ∧
      ∃ o es ep, h.get? a = some o ∧ o.ExactDict ∧ o.data = .dict es ep ∧ es.toList = xs.map (entryOfKey (tupleKind (mixKind P w))) ∧ (xs.map (·.1)).Nodup
  | .set S n => h.SetOf (intKind P w) a S n
  | .ins C dx fs => H dx = some (.own a) ∧ fs.length ≤ 1000 ∧ dx ≠ a ∧ h.get? a = some (PySem.W.instObj C dx) ∧
      ∃ mA, h.Ns1 dx mA ∧ (∀ f, RelO (fs.lookup f) (mA f)) ∧ PySem.Within mA (fs.map (·.1))
  | .own _ => ∃ o, h.get? a = some o
  | .xd fs => ∃ mA, h.Ns1 a mA ∧ ∀ f, RelO (fs.lookup f) (mA f)
  | .rng lo hi => ∃ t u v, h.get? a = some { cls := .type "range", data := .fields #[.int lo t, .int hi u, .int 1 v] }
  | .frz o u => h.get? a = some o ∧ ObjOk H h a u
  | .tbl ps => h.get? a = some { cls := .none, data := .fields ps }
  | .met f x => h.get? a = some (PySem.W.methodObj (.ref f) (.ref x))
  | .ext φ => φ h ∧ (∃ o, h.get? a = some o) ∧ ∀ h1 h2 : Heap, φ h1 → (∀ o, h1.get? a = some o → h2.get? a = some o) → φ h2
def HOk (H : Hp) (h : Heap) : Prop := ∀ a o, H a = some o → ObjOk P w H h a o
end
section
variable {P : Program} {w : World} {H H' : Hp} {h h' : Heap} {a : Addr} {o : HO}
theorem ObjOk.lt (x : ObjOk P w H h a o) : a < h.objs.size := by
  cases o with
  | lst xs => obtain ⟨_, _, _, _, e⟩ := x; exact Heap.lt_size e
  | tup xs => obtain ⟨_, _, _, p⟩ := x; exact p.lt
  | dK kvs => obtain ⟨_, _, _, _, o, _, _, e, _⟩ := x; exact Heap.lt_size e
  | dT kvs => obtain ⟨_, _, _, _, o, _, _, e, _⟩ := x; exact Heap.lt_size e
  | set S n => obtain ⟨o, _, _, _, e, _⟩ := x; exact Heap.lt_size e
  | ins C dx fs => obtain ⟨_, _, _, e, _⟩ := x; exact Heap.lt_size e
  | own y => obtain ⟨_, e⟩ := x; exact Heap.lt_size e
  | xd fs => obtain ⟨_, ⟨_, _, _, e, _⟩, _⟩ := x; exact Heap.lt_size e
  | rng lo hi => obtain ⟨_, _, _, e⟩ := x; exact Heap.lt_size e
  | frz ob u => obtain ⟨e, _⟩ := x; exact Heap.lt_size e
  | tbl ps => exact Heap.lt_size (show h.get? a = some _ from x)
  | met f y => exact Heap.lt_size (show h.get? a = some _ from x)
  | ext φ => obtain ⟨_, ⟨_, e⟩, _⟩ := x; exact Heap.lt_size e
theorem Paired.mapP {α β : Type} {F G : α → β → Prop} : ∀ {l₁ : List α} {l₂ : List β}, Paired F l₁ l₂ → (∀ a b, F a b → G a b) → Paired G l₁ l₂
  | _, _, .nil, _ => .nil
  | _, _, .cons r t, f => .cons (f _ _ r) (Paired.mapP t f)
theorem ObjOk.stay (x : ObjOk P w H h a o) (k : ∀ b u, (b = a ∨ H b = some (.own a)) → h.get? b = some u → h'.get? b = some u)
    (ho : ∀ b, H b = some (.own a) → H' b = some (.own a)) (ht : ∀ b xs, H b = some (.tup xs) → H' b = some (.tup xs)) : ObjOk P w H' h' a o := by
  induction o with
  | lst xs => obtain ⟨z, its, n, r, e⟩ := x; exact ⟨z, its, n, r, k _ _ (.inl rfl) e⟩
  | tup xs => obtain ⟨z, its, r, ob, e, c⟩ := x; exact ⟨z, its, r, ob, k _ _ (.inl rfl) e, c⟩
  | dK kvs => obtain ⟨z, y, vs, r, ob, es, ep, e, c⟩ := x; exact ⟨z, y, vs, r, ob, es, ep, k _ _ (.inl rfl) e, c⟩
  | dT kvs =>
    obtain ⟨z, y, xs, r, ob, es, ep, e, c⟩ := x
    exact ⟨z, y, xs, Paired.mapP r fun p q z => ⟨z.1, ht _ _ z.2.1, z.2.2⟩, ob, es, ep, k _ _ (.inl rfl) e, c⟩
  | set S n => obtain ⟨ob, es, ep, t, e, c⟩ := x; exact ⟨ob, es, ep, t, k _ _ (.inl rfl) e, c⟩
  | ins C dx fs =>
    obtain ⟨d, z, ne, e, mA, ⟨od, es, ep, e2, c⟩, r⟩ := x
    exact ⟨ho _ d, z, ne, k _ _ (.inl rfl) e, mA, ⟨od, es, ep, k _ _ (.inr d) e2, c⟩, r⟩
  | own y => obtain ⟨ob, e⟩ := x; exact ⟨ob, k _ _ (.inl rfl) e⟩
  | xd fs => obtain ⟨mA, ⟨od, es, ep, e, c⟩, r⟩ := x; exact ⟨mA, ⟨od, es, ep, k _ _ (.inl rfl) e, c⟩, r⟩
  | rng lo hi => obtain ⟨t, u, v, e⟩ := x; exact ⟨t, u, v, k _ _ (.inl rfl) e⟩
  | frz ob u ih => obtain ⟨e, q⟩ := x; exact ⟨k _ _ (.inl rfl) e, ih q⟩
  | tbl ps =>
    have e : h.get? a = some { cls := .none, data := .fields ps } := x
    show h'.get? a = some { cls := .none, data := .fields ps }
    exact k a _ (.inl rfl) e
  | met f y =>
    have e : h.get? a = some (PySem.W.methodObj (.ref f) (.ref y)) := x
    show h'.get? a = some (PySem.W.methodObj (.ref f) (.ref y))
    exact k a _ (.inl rfl) e
  | ext φ => obtain ⟨p, ⟨o, e⟩, st⟩ := x; exact ⟨st _ _ p fun o q => k _ _ (.inl rfl) q, ⟨o, k _ _ (.inl rfl) e⟩, st⟩
theorem HOk.lt (x : HOk P w H h) (e : H a = some o) : a < h.objs.size := (x a o e).lt
theorem HOk.fresh (x : HOk P w H h) (e : h.objs.size ≤ a) : H a = none := by
  cases q : H a with
  | none => rfl
  | some u => exact absurd (Nat.lt_of_lt_of_le (x.lt q) e) (Nat.lt_irrefl _)
theorem HOk.kept (x : HOk P w H h) (k : ∀ b u, h.get? b = some u → h'.get? b = some u) : HOk P w H h' := fun a o e =>
  (x a o e).stay (fun b u _ q => k b u q) (fun _ q => q) fun _ _ q => q
theorem HOk.laid (x : HOk P w H h) (k : ∀ b u, h.get? b = some u → h'.get? b = some u) (hp : h.objs.size ≤ a) (new : ObjOk P w (upd H a o) h' a o) : HOk P w (upd H a o) h' := fun b u e => by
  have hn := x.fresh hp
  by_cases hb : b = a
  · subst hb; rw [upd_same] at e; cases e; exact new
  · rw [upd_ne hb] at e
    exact (x b u e).stay (fun c v _ q => k c v q) (fun c q => by rw [upd_ne (ne_of_none q hn)]; exact q) fun c xs q => by rw [upd_ne (ne_of_none q hn)]; exact q
end
def Rd (H : Hp) (a : Addr) (u : HO) : Prop := H a = some u ∨ ∃ o, H a = some (.frz o u)
theorem Rd.of {H : Hp} {a : Addr} {u : HO} (h : H a = some u) : Rd H a u := .inl h
theorem Rd.ok {P : Program} {w : World} {H : Hp} {h : Heap} {a : Addr} {u : HO} (r : Rd H a u) (x : HOk P w H h) : ObjOk P w H h a u := by
  rcases r with r | ⟨o, r⟩
  · exact x a u r
  · obtain ⟨_, q⟩ := x a _ r
    exact q
def Mut : Option HO → Prop
  | some (.lst _) => True
  | some (.dK _) => True
  | some (.dT _) => True
  | some (.set _ _) => True
  | some (.ins _ _ _) => True
  | some (.ext _) => True
  | _ => False
section
variable {P : Program} {w : World} {H : Hp} {h h' : Heap} {x e : Addr} {o' : HO}
theorem HOk.write (ok : HOk P w H h) (mu : Mut (H x)) (he : e = x ∨ H e = some (.own x)) (k : ∀ b u, b ≠ e → h.get? b = some u → h'.get? b = some u) (heo : ∃ u, h'.get? e = some u)
    (new : ObjOk P w (upd H x o') h' x o') : HOk P w (upd H x o') h' := fun b u q => by
  have nown : ∀ c y, H c = some (.own y) → c ≠ x := fun c y r z => by subst z; rw [r] at mu; exact mu
  have ntup : ∀ c xs, H c = some (.tup xs) → c ≠ x := fun c xs r z => by subst z; rw [r] at mu; exact mu
  by_cases hb : b = x
  · subst hb; rw [upd_same] at q; cases q; exact new
  · rw [upd_ne hb] at q
    by_cases hbe : b = e
    · have q' : H b = some (.own x) := by
        rcases he with z | z
        · exact absurd (hbe.trans z) hb
        · rw [hbe]; exact z
      rw [q] at q'; cases q'
      obtain ⟨v, hv⟩ := heo
      exact ⟨v, by rw [hbe]; exact hv⟩
    · refine (ok b u q).stay (fun c v hc r => k c v ?_ r) (fun c r => by rw [upd_ne (nown c b r)]; exact r) fun c xs r => by rw [upd_ne (ntup c xs r)]; exact r
      rcases hc with rfl | hc
      · exact hbe
      · rintro rfl
        rcases he with z | z
        · exact nown c b hc z
        · rw [hc] at z; cases z; exact hb rfl
end
structure Un (fs ex : List Addr) (H H' : Hp) (h h' : Heap) : Prop where
  keep : ∀ b o, h.get? b = some o → H b = none → b ∉ fs → b ∉ ex → h'.get? b = some o
  slot : ∀ b o, h.get? b = some o → H b = none → b ∈ fs → b ∉ ex → ∃ sl, h'.get? b = some { o with slots := sl }
  free : ∀ b o, h.get? b = some o → H b = none → b ∉ ex → H' b = none
  there : ∀ b o, h.get? b = some o → b ∉ ex → ∃ o', h'.get? b = some o'
  tups : ∀ b xs, H b = some (.tup xs) → H' b = some (.tup xs)
  frzs : ∀ b o u, H b = some (.frz o u) → H' b = some (.frz o u)
  tbls : ∀ b ps, H b = some (.tbl ps) → ∃ more, H' b = some (.tbl (ps ++ more))
section
variable {fs fs' ex ex' : List Addr} {H H1 H2 : Hp} {h h1 h2 h' : Heap} {a x e : Addr} {o : HO}
theorem Un.any (u : Un fs ex H H1 h h1) {b : Addr} {ob : Obj} (q : h.get? b = some ob) (n : H b = none) (hx : b ∉ ex) : ∃ sl, h1.get? b = some { ob with slots := sl } := by
  by_cases hb : b ∈ fs
  · exact u.slot b ob q n hb hx
  · exact ⟨ob.slots, u.keep b ob q n hb hx⟩
theorem Un.kept (k : ∀ b u, h.get? b = some u → h'.get? b = some u) : Un fs ex H H h h' :=
  ⟨fun b ob q _ _ _ => k b ob q, fun b ob q _ _ _ => ⟨ob.slots, k b ob q⟩, fun _ _ _ n _ => n, fun b ob q _ => ⟨ob, k b ob q⟩, fun _ _ q => q, fun _ _ _ q => q, fun _ ps q => ⟨#[], by rw [q]; simp⟩⟩
theorem Un.refl : Un fs ex H H h h := Un.kept fun _ _ q => q
theorem Un.laid (k : ∀ b u, h.get? b = some u → h'.get? b = some u) (hp : h.objs.size ≤ a) (hn : H a = none) : Un fs ex H (upd H a o) h h' where
  keep := fun b u q _ _ _ => k b u q
  slot := fun b u q _ _ _ => ⟨u.slots, k b u q⟩
  free := fun b u q n _ => by rw [upd_ne (Nat.ne_of_lt (Nat.lt_of_lt_of_le (Heap.lt_size q) hp))]; exact n
  there := fun b u q _ => ⟨u, k b u q⟩
  tups := fun b xs q => by rw [upd_ne (ne_of_none q hn)]; exact q
  frzs := fun b u xs q => by rw [upd_ne (ne_of_none q hn)]; exact q
  tbls := fun b ps q => ⟨#[], by rw [upd_ne (ne_of_none q hn), q]; simp⟩
theorem Un.write (mu : Mut (H x)) (he : e = x ∨ H e = some (.own x)) (k : ∀ b u, b ≠ e → h.get? b = some u → h'.get? b = some u) (heo : ∃ u, h'.get? e = some u) : Un fs ex H (upd H x o) h h' := by
  have hx : ∀ b, H b = none → b ≠ x := fun b n z => by subst z; rw [n] at mu; exact mu
  have hb : ∀ b, H b = none → b ≠ e := fun b n z => by
    subst z
    rcases he with r | r
    · exact hx b n r
    · rw [n] at r; cases r
  have hm : ∀ b u, H b = some u → ¬ Mut (some u) → b ≠ x := fun b u q nm z => by subst z; rw [q] at mu; exact nm mu
  refine ⟨fun b u q n _ _ => k b u (hb b n) q, fun b u q n _ _ => ⟨u.slots, k b u (hb b n) q⟩, fun b u q n _ => by rw [upd_ne (hx b n)]; exact n, fun b u q _ => ?_,
    fun b xs q => by rw [upd_ne (hm b _ q fun z => z)]; exact q, fun b u xs q => by rw [upd_ne (hm b _ q fun z => z)]; exact q, fun b ps q => ⟨#[], by rw [upd_ne (hm b _ q fun z => z), q]; simp⟩⟩
  by_cases hbe : b = e
  · subst hbe; exact heo
  · exact ⟨u, k b u hbe q⟩
end
def trk (h : Heap) (H : Hp) : List Addr := (List.range h.objs.size).filter fun a => (H a).isSome
def hidT (h : Heap) (H : Hp) : Heap := PySem.W.hideAll h (trk h H)
theorem hidT_size (h : Heap) (H : Hp) : (hidT h H).objs.size = h.objs.size := PySem.W.hideAll_size _ _
theorem hidT_get {h : Heap} {H : Hp} {b : Addr} {o : Obj} (e : h.get? b = some o) (n : H b = none) : (hidT h H).get? b = some o :=
  PySem.W.hideAll_get _ e fun hm => by
    have q : (H b).isSome = true := (List.mem_filter.mp hm).2
    rw [n] at q; simp at q
theorem of_hidT {h : Heap} {H : Hp} {b : Addr} {o : Obj} (e : (hidT h H).get? b = some o) : h.get? b = some o ∧ H b = none := by
  have e' : h.get? b = some o := PySem.W.of_hideAll (trk h H) e
  refine ⟨e', ?_⟩
  cases q : H b with
  | none => rfl
  | some x =>
    have hm : b ∈ trk h H := List.mem_filter.mpr ⟨List.mem_range.mpr (Heap.lt_size e'), by simp [q]⟩
    have z : (hidT h H).get? b = none := PySem.W.hideAll_none (trk h H) hm
    rw [z] at e; cases e
def allNews (g h : Heap) (L : Addr) : List (Addr × Obj) := (List.range h.objs.size).filterMap fun a => if a = L ∨ (g.get? a).isSome = true then none else (h.get? a).map fun o => (a, o)
def rest (g h : Heap) (L d : Addr) : List (Addr × Obj) := (allNews g h L).filter fun p => decide (p.1 ≠ d)
end L2
namespace L2
open PySem PySem.Spec PyProof.Rows
structure Mod (K : PySem.W.Frag) (mg : Str → Option Value) (base : Heap) : Prop where
  kin : K.In base
  glob : base.Ns mainGlobals mg
  blt : ∃ mb, base.Ns builtinsNs mb ∧ ∀ x : Str, x ≠ "__name__" → mb x = bootBuiltins x
  nolimit : base.NoLimit
structure Cx where
  prog : Program
  w : World
  K : PySem.W.Frag
  mg : Str → Option Value
  base : Heap
  A : Around
  N : List Str
  s₀ : Shared
  H₀ : Hp
  env : Env
  outer : List Env
  stack : List Env
  ex : List Addr
  fn : Str → Bool
  calm : Bool
  pn : List (Addr × Obj)
  xe : Value → Shared → Prop
def frs (l : List Env) : List Addr := l.filterMap (·.frame)
abbrev Cx.fs (X : Cx) : List Addr := frs X.outer
def Vis (sc : Scope) (x : Str) : Prop := sc.names.lookup x = some .local ∨ sc.names.lookup x = some .cell ∨ sc.names.lookup x = some .free
def Loc (sc : Scope) (x : Str) : Prop := sc.names.lookup x = some .local ∨ sc.names.lookup x = some .cell
def Look (env : Env) (h : Heap) (m : Str → Option Value) (x : Str) (u : Value) : Prop :=
  (env.kindOf x = some .local ∧ m x = some u) ∨ ((env.kindOf x = some .cell ∨ env.kindOf x = some .free) ∧ ∃ c, env.cells.lookup x = some c ∧ h.IsCell c (some u))
structure Cx.Ok (X : Cx) : Prop where
  mod : Mod X.K X.mg X.base
  kind : X.env.scope.kind = .function
  glob : X.env.globals = mainGlobals
  blt : X.env.builtins = builtinsNs
  above : X.s₀.heap.objs.size ≤ X.env.locals
  inj : ∀ x y c, X.env.cells.lookup x = some c → X.env.cells.lookup y = some c → x = y
  has : ∀ x, (X.env.kindOf x = some .cell ∨ X.env.kindOf x = some .free) → ∃ c, X.env.cells.lookup x = some c
  cab : ∀ x c, X.fn x = true → X.env.cells.lookup x = some c → X.s₀.heap.objs.size ≤ c
  hd : X.calm = true → X.A.handled = none
  frames : X.A.frames = some X.stack
  stk : X.stack = X.outer ∨ (X.stack = X.env :: X.outer ∧ X.env.frame = some X.env.locals)
  exf : ∀ b ∈ X.ex, b ≠ X.env.locals ∧ ∀ x c, X.env.cells.lookup x = some c → c ≠ b
  bs : ∀ b o, X.base.get? b = some o → X.s₀.heap.get? b = some o ∧ X.H₀ b = none
  bsz : X.base.objs.size ≤ X.s₀.heap.objs.size
  noex : ∀ b o, X.base.get? b = some o → b ∉ X.ex
  exfs : ∀ b ∈ X.ex, b ∉ X.fs
  funs : X.s₀.heap.FunFrames X.base X.outer
  frf : ∀ b ∈ X.fs, X.H₀ b = none
structure Inv (X : Cx) (pins : List (Addr × Obj)) (σ : List (Option V)) (H : Hp) (s : Shared) : Prop where
  ok : X.Ok
  os : s.os = X.s₀.os
  bare : AllBare s.gens
  base : Un X.fs X.ex X.H₀ H X.s₀.heap s.heap
  loc : ∃ m, s.heap.Ns X.env.locals m ∧ ∀ (i : Nat) (x : Str) (v : V), X.N[i]? = some x → σ[i]? = some (some v) → Vis X.env.scope x → ∃ u, RelV v u ∧ Look X.env s.heap m x u
  cell : ∀ x c, X.env.cells.lookup x = some c → ∃ v, s.heap.IsCell c v
  free : H X.env.locals = none
  freeC : ∀ x c, X.env.cells.lookup x = some c → H c = none
  pin : ∀ p ∈ X.pn ++ pins, s.heap.get? p.1 = some p.2 ∧ H p.1 = none ∧ p.1 ≠ X.env.locals ∧ p.1 ∉ X.fs ∧ ∀ v, p.2.data ≠ .cell v
  hok : HOk X.prog X.w H s.heap
  len : σ.length = X.N.length
section
variable {X : Cx} {pins : List (Addr × Obj)} {σ : List (Option V)} {H H' : Hp} {s : Shared} {h' : Heap}
theorem Cx.Ok.nofr (ok : X.Ok) {b : Addr} {o : Obj} (e : X.base.get? b = some o) : b ∉ X.fs := fun hb => by
  have := (ok.funs.mem hb).1
  rw [e] at this; cases this
theorem Inv.bs (I : Inv X pins σ H s) : ∀ b o, X.base.get? b = some o → s.heap.get? b = some o ∧ H b = none := fun b o e =>
  ⟨I.base.keep b o (I.ok.bs b o e).1 (I.ok.bs b o e).2 (I.ok.nofr e) (I.ok.noex b o e), I.base.free b o (I.ok.bs b o e).1 (I.ok.bs b o e).2 (I.ok.noex b o e)⟩
theorem Inv.bk (I : Inv X pins σ H s) : ∀ b o, X.base.get? b = some o → s.heap.get? b = some o := fun b o e => (I.bs b o e).1
theorem Inv.mod (I : Inv X pins σ H s) : Mod X.K X.mg X.base := I.ok.mod
theorem Inv.kIn (I : Inv X pins σ H s) : X.K.In s.heap := I.ok.mod.kin.keeps I.bk
theorem Inv.fr (I : Inv X pins σ H s) : ∃ m, Fr X.base X.env.locals s.heap m :=
  let ⟨m, hn, _⟩ := I.loc
  ⟨m, hn, I.bk, Nat.le_trans I.ok.bsz I.ok.above⟩
theorem Inv.lt (I : Inv X pins σ H s) : X.env.locals < s.heap.objs.size := let ⟨_, hn, _⟩ := I.loc; hn.lt
theorem Inv.sz (I : Inv X pins σ H s) : X.s₀.heap.objs.size ≤ s.heap.objs.size := Nat.le_trans I.ok.above (Nat.le_of_lt I.lt)
theorem Inv.nofs (I : Inv X pins σ H s) {a : Addr} (h : s.heap.objs.size ≤ a) : a ∉ X.fs := fun hb => by
  obtain ⟨_, o, ho, _⟩ := I.ok.funs.mem hb
  exact absurd (Nat.lt_of_lt_of_le (Heap.lt_size ho) (Nat.le_trans I.sz h)) (Nat.lt_irrefl _)
theorem Inv.cne (I : Inv X pins σ H s) : ∀ x c, X.env.cells.lookup x = some c → c ≠ X.env.locals := fun x c e z => by
  obtain ⟨v, o, ho, hd⟩ := I.cell x c e
  obtain ⟨m, ⟨o', es, ep, ho', hd', _⟩, _⟩ := I.loc
  rw [z, ho'] at ho; cases ho; rw [hd'] at hd; cases hd
theorem Inv.funs (I : Inv X pins σ H s) : s.heap.FunFrames X.base X.outer := by
  have all : ∀ (l : List Env), (∀ b ∈ frs l, b ∈ X.fs) → X.s₀.heap.FunFrames X.base l → s.heap.FunFrames X.base l := by
    intro l
    induction l with
    | nil => intro _ _; trivial
    | cons env r ih =>
      intro hs hl
      obtain ⟨hk, ⟨L, o, hf, hn, ho, hd⟩, hr⟩ := hl
      have hL : L ∈ X.fs := hs L (by unfold frs; rw [List.filterMap_cons, hf]; exact List.mem_cons_self)
      obtain ⟨sl, e⟩ := I.base.slot L o ho (I.ok.frf L hL) hL fun z => I.ok.exfs L z hL
      exact ⟨hk, ⟨L, _, hf, hn, e, hd⟩, ih (fun b hb => hs b (by unfold frs; rw [List.filterMap_cons, hf]; exact List.mem_cons_of_mem _ hb)) hr⟩
  exact all X.outer (fun _ hb => hb) I.ok.funs
theorem Inv.stack (I : Inv X pins σ H s) : s.heap.FunFrames X.base X.stack := by
  rcases I.ok.stk with e | ⟨e, hf⟩
  · rw [e]; exact I.funs
  · rw [e]
    obtain ⟨m, hn, _⟩ := I.loc
    refine .cons (by rw [I.ok.kind]; decide) hf hn ?_ I.funs
    exact Heap.get?_none_of_le (Nat.le_trans I.ok.bsz I.ok.above)
theorem Inv.stkSub (I : Inv X pins σ H s) : ∀ b ∈ frs X.stack, b ∈ X.env.locals :: X.fs := fun b hb => by
  rcases I.ok.stk with e | ⟨e, hf⟩
  · rw [e] at hb; exact List.mem_cons_of_mem _ hb
  · rw [e] at hb
    unfold frs at hb
    rw [List.filterMap_cons, hf] at hb
    exact hb
theorem Inv.stkFree (I : Inv X pins σ H s) : ∀ b ∈ frs X.stack, H b = none := fun b hb => by
  rcases List.mem_cons.mp (I.stkSub b hb) with e | hb
  · rw [e]; exact I.free
  · obtain ⟨_, o, ho, _⟩ := I.ok.funs.mem hb
    exact I.base.free b o ho (I.ok.frf b hb) fun z => I.ok.exfs b z hb
theorem Inv.step {g' : Array GenState} {t' : Nat} {d' : Drawn} {ch : List Addr} (I : Inv X pins σ H s)
    (hch : ∀ b ∈ ch, (b ∈ X.ex ∨ X.s₀.heap.objs.size ≤ b) ∧ b ≠ X.env.locals ∧ (∀ x c, X.env.cells.lookup x = some c → c ≠ b) ∧ ∀ p ∈ X.pn ++ pins, p.1 ≠ b)
    (keep : ∀ b o, b ≠ X.env.locals → b ∉ X.fs → b ∉ ch → s.heap.get? b = some o → H b = none → h'.get? b = some o)
    (slot : ∀ b o, b ≠ X.env.locals → b ∈ X.fs → b ∉ ch → s.heap.get? b = some o → H b = none → ∃ sl, h'.get? b = some { o with slots := sl }) (free : ∀ b o, b ∉ ch → s.heap.get? b = some o → H b = none → H' b = none)
    (there : ∀ b o, b ∉ ch → s.heap.get? b = some o → ∃ o', h'.get? b = some o')
    (tups : ∀ b xs, H b = some (.tup xs) → H' b = some (.tup xs)) (frzs : ∀ b o u, H b = some (.frz o u) → H' b = some (.frz o u)) (tbls : ∀ b ps, H b = some (.tbl ps) → ∃ more, H' b = some (.tbl (ps ++ more)))
    (ns : ∀ m, s.heap.Ns X.env.locals m → h'.Ns X.env.locals m) (hok : HOk X.prog X.w H' h') (hg : AllBare g') :
    Inv X pins σ H' { s with heap := h', gens := g', drawn := d', toks := t' } := by
  have neL : ∀ b o, X.s₀.heap.get? b = some o → b ≠ X.env.locals := fun b o e => Nat.ne_of_lt (Nat.lt_of_lt_of_le (Heap.lt_size e) I.ok.above)
  have neC : ∀ b o, X.s₀.heap.get? b = some o → b ∉ X.ex → b ∉ ch := fun b o e hx hb => by
    rcases (hch b hb).1 with z | z
    · exact hx z
    · exact absurd (Nat.lt_of_lt_of_le (Heap.lt_size e) z) (Nat.lt_irrefl _)
  have cellK : ∀ x c, X.env.cells.lookup x = some c → ∀ v, s.heap.IsCell c v → h'.IsCell c v := fun x c e v ⟨o, ho, hd⟩ => by
    have nch : c ∉ ch := fun z => (hch c z).2.2.1 x c e rfl
    by_cases hc : c ∈ X.fs
    · obtain ⟨sl, q⟩ := slot c o (I.cne x c e) hc nch ho (I.freeC x c e)
      exact ⟨_, q, hd⟩
    · exact ⟨o, keep c o (I.cne x c e) hc nch ho (I.freeC x c e), hd⟩
  refine ⟨I.ok, I.os, hg, ⟨fun b o e n hb hx => ?_, fun b o e n hb hx => ?_, fun b o e n hx => ?_, fun b o e hx => ?_, fun b xs e => tups b xs (I.base.tups b xs e), fun b o xs e => frzs b o xs (I.base.frzs b o xs e), fun b ps e => ?_⟩, ?_, fun x c e => ?_, ?_, fun x c e => ?_, fun p hp => ?_, hok, I.len⟩
  · exact keep b o (neL b o e) hb (neC b o e hx) (I.base.keep b o e n hb hx) (I.base.free b o e n hx)
  · obtain ⟨sl, e1⟩ := I.base.slot b o e n hb hx
    obtain ⟨sl', e2⟩ := slot b _ (neL b o e) hb (neC b o e hx) e1 (I.base.free b o e n hx)
    exact ⟨sl', e2⟩
  · obtain ⟨o', e1⟩ := I.base.there b o e hx
    exact free b o' (neC b o e hx) e1 (I.base.free b o e n hx)
  · obtain ⟨o', e1⟩ := I.base.there b o e hx
    exact there b o' (neC b o e hx) e1
  · obtain ⟨m1, e1⟩ := I.base.tbls b ps e
    obtain ⟨m2, e2⟩ := tbls b _ e1
    exact ⟨m1 ++ m2, by rw [e2, Array.append_assoc]⟩
  · obtain ⟨m, hn, hl⟩ := I.loc
    refine ⟨m, ns m hn, fun i x v e1 e2 e3 => ?_⟩
    obtain ⟨u, r, l⟩ := hl i x v e1 e2 e3
    refine ⟨u, r, ?_⟩
    rcases l with l | ⟨k, c, e, z⟩
    · exact .inl l
    · exact .inr ⟨k, c, e, cellK x c e _ z⟩
  · obtain ⟨v, z⟩ := I.cell x c e
    exact ⟨v, cellK x c e v z⟩
  · obtain ⟨m, ⟨o, _, _, ho, _⟩, _⟩ := I.loc
    exact free _ o (fun z => (hch _ z).2.1 rfl) ho I.free
  · obtain ⟨v, o, ho, hd⟩ := I.cell x c e
    exact free c o (fun z => (hch c z).2.2.1 x c e rfl) ho (I.freeC x c e)
  · obtain ⟨e, n, ne, nf, d⟩ := I.pin p hp
    have nch : p.1 ∉ ch := fun z => (hch p.1 z).2.2.2 p hp rfl
    exact ⟨keep p.1 p.2 ne nf nch e n, free p.1 p.2 nch e n, ne, nf, d⟩
theorem Inv.un {t' : Nat} (I : Inv X pins σ H s) (u : Un X.fs [] H H' s.heap h') (hok : HOk X.prog X.w H' h') : Inv X pins σ H' { s with heap := h', toks := t' } := by
  obtain ⟨m, ⟨o, es, ep, ho, r⟩, _⟩ := id I.loc
  obtain ⟨sl, hL⟩ := u.any ho I.free (by simp)
  exact I.step (g' := s.gens) (d' := s.drawn) (ch := []) (fun _ z => nomatch z) (fun b o _ hb _ e n => u.keep b o e n hb (by simp)) (fun b o _ hb _ e n => u.slot b o e n hb (by simp)) (fun b o _ e n => u.free b o e n (by simp)) (fun b o _ e => u.there b o e (by simp)) u.tups u.frzs u.tbls (fun m' hm => by
    obtain ⟨o', es', ep', ho', r'⟩ := hm
    rw [ho] at ho'; cases ho'
    exact ⟨_, es', ep', hL, r'⟩) hok I.bare
theorem Inv.call {g' : Array GenState} {t' : Nat} {d' : Drawn} {ch : List Addr} (I : Inv X pins σ H s) (u : Un (frs X.stack) ch H H' s.heap h') (hok : HOk X.prog X.w H' h') (hg : AllBare g')
    (hch : ∀ b ∈ ch, (b ∈ X.ex ∨ X.s₀.heap.objs.size ≤ b) ∧ b ≠ X.env.locals ∧ (∀ x c, X.env.cells.lookup x = some c → c ≠ b) ∧ ∀ p ∈ X.pn ++ pins, p.1 ≠ b) :
    Inv X pins σ H' { s with heap := h', gens := g', drawn := d', toks := t' } := by
  obtain ⟨m, ⟨o, es, ep, ho, r⟩, _⟩ := id I.loc
  obtain ⟨sl, hL⟩ := u.any ho I.free fun z => (hch _ z).2.1 rfl
  exact I.step (ch := ch) hch (fun b o hL hb hc e n => u.keep b o e n (fun z => (List.mem_cons.mp (I.stkSub b z)).elim hL hb) hc) (fun b o _ _ hc e n => u.any e n hc) (fun b o hc e n => u.free b o e n hc) (fun b o hc e => u.there b o e hc) u.tups u.frzs u.tbls (fun m' hm => by
    obtain ⟨o', es', ep', ho', r'⟩ := hm
    rw [ho] at ho'; cases ho'
    exact ⟨_, es', ep', hL, r'⟩) hok hg
theorem Inv.turned {t' : Nat} {it : Addr} (I : Inv X pins σ H s) (k : ∀ b o, b ≠ it → s.heap.get? b = some o → h'.get? b = some o) (hn : H it = none) (hL : it ≠ X.env.locals)
    (h1 : it ∈ X.ex ∨ X.s₀.heap.objs.size ≤ it) (h2 : ∀ x c, X.env.cells.lookup x = some c → c ≠ it) (h3 : ∀ p ∈ X.pn ++ pins, p.1 ≠ it) : Inv X pins σ H { s with heap := h', toks := t' } := by
  have nit : ∀ b u, H b = some u → b ≠ it := fun b u e z => by rw [z, hn] at e; cases e
  refine I.step (g' := s.gens) (d' := s.drawn) (ch := [it]) (fun b hb => ?_) (fun b o _ _ hc e _ => k b o (fun z => hc (by simp [z])) e) (fun b o _ _ hc e _ => ⟨o.slots, k b o (fun z => hc (by simp [z])) e⟩) (fun _ _ _ _ n => n)
    (fun b o hc e => ⟨o, k b o (fun z => hc (by simp [z])) e⟩) (fun _ _ e => e) (fun _ _ _ e => e) (fun b ps e => ⟨#[], by rw [e]; simp⟩) (fun m hm => ?_) (fun b u e => ?_) I.bare
  · have e : b = it := by simpa using hb
    subst e
    exact ⟨h1, hL, h2, h3⟩
  · obtain ⟨o, es, ep, ho, r⟩ := hm
    exact ⟨o, es, ep, k _ o (Ne.symm hL) ho, r⟩
  · refine (I.hok b u e).stay (fun c v hc q => k c v ?_ q) (fun _ q => q) fun _ _ q => q
    rcases hc with z | z
    · rw [z]; exact nit b u e
    · exact nit c _ z
theorem Inv.tok (I : Inv X pins σ H s) (t : Nat) : Inv X pins σ H { s with toks := t } := I.un (h' := s.heap) (t' := t) Un.refl I.hok
theorem Inv.kept {t' : Nat} (I : Inv X pins σ H s) (k : ∀ b u, s.heap.get? b = some u → h'.get? b = some u) : Inv X pins σ H { s with heap := h', toks := t' } := I.un (Un.kept k) (I.hok.kept k)
theorem Inv.laid {a : Addr} {o : HO} {t' : Nat} (I : Inv X pins σ H s) (k : ∀ b u, s.heap.get? b = some u → h'.get? b = some u) (hp : s.heap.objs.size ≤ a) (new : ObjOk X.prog X.w (upd H a o) h' a o) :
    Inv X pins σ (upd H a o) { s with heap := h', toks := t' } := I.un (Un.laid k hp (I.hok.fresh hp)) (I.hok.laid k hp new)
theorem Inv.write {x e : Addr} {o : HO} {t' : Nat} (I : Inv X pins σ H s) (mu : Mut (H x)) (he : e = x ∨ H e = some (.own x)) (k : ∀ b u, b ≠ e → s.heap.get? b = some u → h'.get? b = some u) (heo : ∃ u, h'.get? e = some u)
    (new : ObjOk X.prog X.w (upd H x o) h' x o) : Inv X pins σ (upd H x o) { s with heap := h', toks := t' } := I.un (Un.write mu he k heo) (I.hok.write mu he k heo new)
theorem Inv.weak {σ' : List (Option V)} (I : Inv X pins σ H s) (hl : σ'.length = σ.length) (w : ∀ (i : Nat) v, σ'[i]? = some (some v) → σ[i]? = some (some v)) : Inv X pins σ' H s :=
  ⟨I.ok, I.os, I.bare, I.base, let ⟨m, hn, hl'⟩ := I.loc; ⟨m, hn, fun i x v e1 e2 e3 => hl' i x v e1 (w i v e2) e3⟩, I.cell, I.free, I.freeC, I.pin, I.hok, hl.trans I.len⟩
theorem Inv.pins_of {pins' : List (Addr × Obj)} (I : Inv X pins σ H s) (h : ∀ p ∈ pins', s.heap.get? p.1 = some p.2 ∧ H p.1 = none ∧ p.1 ≠ X.env.locals ∧ p.1 ∉ X.fs ∧ ∀ v, p.2.data ≠ .cell v) : Inv X pins' σ H s :=
  ⟨I.ok, I.os, I.bare, I.base, I.loc, I.cell, I.free, I.freeC, fun p hp => (List.mem_append.mp hp).elim (fun z => I.pin p (List.mem_append_left _ z)) (h p), I.hok, I.len⟩
theorem nodup_ix {N : List Str} (hN : N.Nodup) {i j : Nat} {x : Str} (a : N[i]? = some x) (b : N[j]? = some x) : i = j := by
  obtain ⟨h1, e1⟩ := List.getElem?_eq_some_iff.mp a
  obtain ⟨h2, e2⟩ := List.getElem?_eq_some_iff.mp b
  exact (List.getElem_inj hN).mp (e1.trans e2.symm)
theorem store_ok2 {M : Model} {A : Around} {E : Value → Shared → Prop} {i : Nat} {x : Str} {v : V} {u : Value} {Q : Unit → Shared → Prop} (I : Inv X pins σ H s) (hN : X.N.Nodup) (hi : X.N[i]? = some x) (hx : Loc X.env.scope x) (r : RelV v u)
    (h : ∀ s', Inv X pins (σ.set i (some v)) H s' → (∃ a, Heap.SameBut a s.heap s'.heap ∧ (a = X.env.locals ∨ X.env.cells.lookup x = some a)) → Q () s') (hf : X.fn x = true ∨ X.env.scope.names.lookup x = some .local := by first | exact .inl rfl | exact .inr rfl | assumption) : wpAny M A (storeName X.env x u) Q E s := by
  obtain ⟨m, hn, hl⟩ := id I.loc
  have hcls : (X.env.scope.kind == .class || (X.env.scope.kind == .module && X.env.locals != X.env.globals)) = false := by rw [I.ok.kind]; rfl
  have hiσ : i < σ.length := by rw [I.len]; exact (List.getElem?_eq_some_iff.mp hi).1
  have cne := I.cne
  have tracked : ∀ {a : Addr} {h' : Heap}, (∃ o, s.heap.get? a = some o ∧ H a = none) → Heap.SameBut a s.heap h' → HOk X.prog X.w H h' := fun {a h'} ha hs b ob e => by
    obtain ⟨_, _, hfree⟩ := ha
    refine (I.hok b ob e).stay (fun c w' hc q => (hs.2 c ?_).trans q) (fun _ q => q) fun _ _ q => q
    rintro rfl
    rcases hc with rfl | hc
    · rw [hfree] at e; cases e
    · rw [hfree] at hc; cases hc
  rcases hx with hk | hk
  · refine wpAny_storeName_local hk hn (fun h' hn' hs => ?_) hcls
    obtain ⟨oL, _, _, hoL, _⟩ := id hn
    refine h _ ⟨I.ok, I.os, I.bare, ⟨fun b o e n hb hx => ?_, fun b o e n hb hx => ?_, I.base.free, fun b o e hx => ?_, I.base.tups, I.base.frzs, I.base.tbls⟩, ⟨_, hn', fun j y v' e1 e2 e3 => ?_⟩, fun y c e => ?_, I.free, I.freeC, fun p hp => ?_, tracked ⟨oL, hoL, I.free⟩ hs, by simpa using I.len⟩ ⟨_, hs, .inl rfl⟩
    · exact (hs.2 b (Nat.ne_of_lt (Nat.lt_of_lt_of_le (Heap.lt_size e) I.ok.above))).trans (I.base.keep b o e n hb hx)
    · obtain ⟨sl, e1⟩ := I.base.slot b o e n hb hx
      exact ⟨sl, (hs.2 b (Nat.ne_of_lt (Nat.lt_of_lt_of_le (Heap.lt_size e) I.ok.above))).trans e1⟩
    · obtain ⟨o', e1⟩ := I.base.there b o e hx
      exact ⟨o', (hs.2 b (Nat.ne_of_lt (Nat.lt_of_lt_of_le (Heap.lt_size e) I.ok.above))).trans e1⟩
    · by_cases hj : j = i
      · subst hj
        rw [hi] at e1; cases e1
        rw [List.getElem?_set_self hiσ] at e2
        cases e2
        exact ⟨u, r, .inl ⟨hk, by simp⟩⟩
      · rw [List.getElem?_set_ne (Ne.symm hj)] at e2
        obtain ⟨u', r', q⟩ := hl j y v' e1 e2 e3
        refine ⟨u', r', ?_⟩
        rcases q with ⟨k, e⟩ | ⟨k, c, e, z⟩
        · refine .inl ⟨k, ?_⟩
          have : y ≠ x := fun e => hj (nodup_ix hN e1 (e ▸ hi))
          simp [this, e]
        · exact .inr ⟨k, c, e, z.sameBut hs (cne y c e)⟩
    · obtain ⟨w', z⟩ := I.cell y c e
      exact ⟨w', z.sameBut hs (cne y c e)⟩
    · obtain ⟨e, n, ne, nf, d⟩ := I.pin p hp
      exact ⟨(hs.2 p.1 ne).trans e, n, ne, nf, d⟩
  · have hfn : X.fn x = true := by
      rcases hf with z | z
      · exact z
      · rw [z] at hk; cases hk
    obtain ⟨c, hc⟩ := I.ok.has x (.inl hk)
    obtain ⟨w', z⟩ := I.cell x c hc
    refine wpAny_storeName_cell I.ok.kind hk hc z (fun h' hc' hs => ?_)
    obtain ⟨oc, hoc, hocd⟩ := id z
    refine h { s with heap := h' } ⟨I.ok, I.os, I.bare, ⟨fun b o e n hb hx => ?_, fun b o e n hb hx => ?_, I.base.free, fun b o e hx => ?_, I.base.tups, I.base.frzs, I.base.tbls⟩, ⟨m, hn.sameBut hs (Ne.symm (cne x c hc)), fun j y v' e1 e2 e3 => ?_⟩, fun y c' e => ?_, I.free, I.freeC, fun p hp => ?_, tracked ⟨oc, hoc, I.freeC x c hc⟩ hs, by simpa using I.len⟩ ⟨c, hs, .inr hc⟩
    · exact (hs.2 b (Nat.ne_of_lt (Nat.lt_of_lt_of_le (Heap.lt_size e) (I.ok.cab x c hfn hc)))).trans (I.base.keep b o e n hb hx)
    · obtain ⟨sl, e1⟩ := I.base.slot b o e n hb hx
      exact ⟨sl, (hs.2 b (Nat.ne_of_lt (Nat.lt_of_lt_of_le (Heap.lt_size e) (I.ok.cab x c hfn hc)))).trans e1⟩
    · obtain ⟨o', e1⟩ := I.base.there b o e hx
      exact ⟨o', (hs.2 b (Nat.ne_of_lt (Nat.lt_of_lt_of_le (Heap.lt_size e) (I.ok.cab x c hfn hc)))).trans e1⟩
    · by_cases hj : j = i
      · subst hj
        rw [hi] at e1; cases e1
        rw [List.getElem?_set_self hiσ] at e2
        cases e2
        exact ⟨u, r, .inr ⟨.inl hk, c, hc, hc'⟩⟩
      · rw [List.getElem?_set_ne (Ne.symm hj)] at e2
        obtain ⟨u', r', q⟩ := hl j y v' e1 e2 e3
        refine ⟨u', r', ?_⟩
        rcases q with q | ⟨k, c', e, z'⟩
        · exact .inl q
        · refine .inr ⟨k, c', e, z'.sameBut hs ?_⟩
          rintro rfl
          exact hj (nodup_ix hN e1 (I.ok.inj _ _ _ e hc ▸ hi))
    · by_cases hcc : c' = c
      · subst hcc; exact ⟨_, hc'⟩
      · obtain ⟨w2, z2⟩ := I.cell y c' e
        exact ⟨w2, z2.sameBut hs hcc⟩
    · obtain ⟨e, n, ne, nf, d⟩ := I.pin p hp
      refine ⟨(hs.2 p.1 ?_).trans e, n, ne, nf, d⟩
      intro q
      rw [q, hoc] at e
      have q' : oc = p.2 := Option.some.inj e
      exact d w' (by rw [← q']; exact hocd)
theorem store_ok {M : Model} {A : Around} {E : Value → Shared → Prop} {i : Nat} {x : Str} {v : V} {u : Value} {Q : Unit → Shared → Prop} (I : Inv X pins σ H s) (hN : X.N.Nodup) (hi : X.N[i]? = some x) (hx : Loc X.env.scope x) (r : RelV v u)
    (h : ∀ s', Inv X pins (σ.set i (some v)) H s' → Q () s') (hf : X.fn x = true ∨ X.env.scope.names.lookup x = some .local := by first | exact .inl rfl | exact .inr rfl | assumption) : wpAny M A (storeName X.env x u) Q E s :=
  store_ok2 I hN hi hx r (fun s' I' _ => h s' I') hf
theorem Inv.call' {s' : Shared} {ch : List Addr} (I : Inv X pins σ H s) (ho : s'.os = s.os) (u : Un (frs X.stack) ch H H' s.heap s'.heap) (hok : HOk X.prog X.w H' s'.heap) (hg : AllBare s'.gens)
    (hch : ∀ b ∈ ch, (b ∈ X.ex ∨ X.s₀.heap.objs.size ≤ b) ∧ b ≠ X.env.locals ∧ (∀ x c, X.env.cells.lookup x = some c → c ≠ b) ∧ ∀ p ∈ X.pn ++ pins, p.1 ≠ b) : Inv X pins σ H' s' := by
  obtain ⟨h', g', d', t', o'⟩ := s'
  have e : o' = s.os := ho
  subst e
  exact I.call (g' := g') (t' := t') (d' := d') u hok hg hch
end
abbrev XK := Value → Option Addr → Hp → Prop
abbrev St := List (Option V)
abbrev VK := V → Hp → Prop
abbrev TE := St → Hp → VK → Prop
abbrev TT := St → Hp → (Bool → Hp → Prop) → Prop
abbrev TA := St → Hp → (List V → Hp → Prop) → Prop
structure Ends where
  nx : St → Hp → Prop
  rt : VK
  bk : St → Hp → Prop := fun _ _ => False
  ct : St → Hp → Prop := fun _ _ => False
abbrev TS := Ends → St → Hp → Prop
def EP (X : Cx) (pins : List (Addr × Obj)) (σ : St) (Q : VK) (u : Value) (s' : Shared) : Prop := ∃ v H', Inv X pins σ H' s' ∧ RelV v u ∧ Q v H'
def TP (X : Cx) (pins : List (Addr × Obj)) (σ : St) (Q : Bool → Hp → Prop) (b : Bool) (s' : Shared) : Prop := ∃ H', Inv X pins σ H' s' ∧ Q b H'
def AP (X : Cx) (pins : List (Addr × Obj)) (σ : St) (Q : List V → Hp → Prop) (us : List Value) (s' : Shared) : Prop := ∃ vs H', Inv X pins σ H' s' ∧ Vals vs us ∧ Q vs H'
def SP (X : Cx) (pins : List (Addr × Obj)) (D : Ends) (f : Flow) (s' : Shared) : Prop :=
  match f with
  | .next => ∃ σ' H', Inv X pins σ' H' s' ∧ D.nx σ' H'
  | .brk => ∃ σ' H', Inv X pins σ' H' s' ∧ D.bk σ' H'
  | .cont => ∃ σ' H', Inv X pins σ' H' s' ∧ D.ct σ' H'
  | .ret u => ∃ v σ' H', Inv X pins σ' H' s' ∧ RelV v u ∧ D.rt v H'
def PE (X : Cx) (e : Expr) (t : TE) : Prop :=
  ∀ (pins : List (Addr × Obj)) (s : Shared) (σ : St) (H : Hp) (Q : VK), Inv X pins σ H s → t σ H Q → wpAny (model X.prog X.w) X.A (eval e X.env) (EP X pins σ Q) X.xe s
def PT (X : Cx) (e : Expr) (t : TT) : Prop :=
  ∀ (pins : List (Addr × Obj)) (s : Shared) (σ : St) (H : Hp) (Q : Bool → Hp → Prop), Inv X pins σ H s → t σ H Q → wpAny (model X.prog X.w) X.A (isTrue e X.env (eval e X.env)) (TP X pins σ Q) X.xe s
def PW (X : Cx) (e : Expr) (t : TT) : Prop :=
  ∀ (whole : Sem Value) (pins : List (Addr × Obj)) (s : Shared) (σ : St) (H : Hp) (Q : Bool → Hp → Prop), Inv X pins σ H s → t σ H Q → wpAny (model X.prog X.w) X.A (isTrue e X.env whole) (TP X pins σ Q) X.xe s
theorem PW.pt {X : Cx} {e : Expr} {t : TT} (h : PW X e t) : PT X e t := h _
def PA (X : Cx) (es : List Expr) (t : TA) : Prop :=
  ∀ (pos : Pos) (pins : List (Addr × Obj)) (s : Shared) (σ : St) (H : Hp) (Q : List V → Hp → Prop), Inv X pins σ H s → t σ H Q → wpAny (model X.prog X.w) X.A (spliced (backTo pos (starEach es X.env))) (AP X pins σ Q) X.xe s
def PS (X : Cx) (st : Stmt) (t : TS) : Prop :=
  ∀ (pins : List (Addr × Obj)) (s : Shared) (σ : St) (H : Hp) (D : Ends), Inv X pins σ H s → t D σ H → wpAny (model X.prog X.w) X.A (exec st X.env) (SP X pins D) X.xe s
def PSs (X : Cx) (st : List Stmt) (t : TS) : Prop :=
  ∀ (pins : List (Addr × Obj)) (s : Shared) (σ : St) (H : Hp) (D : Ends), Inv X pins σ H s → t D σ H → wpAny (model X.prog X.w) X.A (execs st X.env) (SP X pins D) X.xe s
theorem thn {α : Type} {t : Sem α} {Q Q' : α → Shared → Prop} {M : Model} {A : Around} {E : Value → Shared → Prop} {s : Shared} (h : wpAny M A t Q E s) (hQ : ∀ a s, Q a s → Q' a s) : wpAny M A t Q' E s := wpAny_mono h hQ fun _ _ x => x
end L2
namespace L2
open PySem PySem.Spec PyProof.Rows
section
variable {X : Cx}
theorem bin {a b : Expr} {ta tb : TE} (ha : PE X a ta) (hb : PE X b tb) {pins : List (Addr × Obj)} {s : Shared} {σ : St} {H : Hp} {R : V → V → Hp → Prop} (I : Inv X pins σ H s) (h : ta σ H fun x H1 => tb σ H1 fun y H2 => R x y H2)
    {α : Type} {Q : α → Shared → Prop} {f : Value → Value → Sem α}
    (hf : ∀ v u s2 x y H2, Inv X pins σ H2 s2 → RelV x v → RelV y u → R x y H2 → wpAny (model X.prog X.w) X.A (f v u) Q X.xe s2) :
    wpAny (model X.prog X.w) X.A (eval a X.env) (fun v s₁ => wpAny (model X.prog X.w) X.A (eval b X.env) (fun u s₂ => wpAny (model X.prog X.w) X.A (f v u) Q X.xe s₂) X.xe s₁) X.xe s := by
  refine thn (ha pins s σ H _ I h) fun v s1 ⟨x, H1, I1, r1, q1⟩ => ?_
  refine thn (hb pins s1 σ H1 _ I1 q1) fun u s2 ⟨y, H2, I2, r2, q2⟩ => ?_
  exact hf v u s2 x y H2 I2 r1 r2 q2
def tVar (i : Nat) : TE := fun σ H Q => ∃ v, σ[i]? = some (some v) ∧ Q v H
def tC (v : V) : TE := fun _ H Q => Q v H
theorem pe_var {i : Nat} {x : Str} {pos : Pos} (hN : X.N[i]? = some x) (hv : Vis X.env.scope x) (hd : (x == ("__debug__" : Str)) = false := by decide) (hcd : (x == ("__classdict__" : Str)) = false := by decide) : PE X (.Name x pos) (tVar i) := by
  intro pins s σ H Q I h
  obtain ⟨v, e, h⟩ := h
  obtain ⟨m, hn, hl⟩ := I.loc
  obtain ⟨u, r, l⟩ := hl i x v hN e hv
  have fin : EP X pins σ Q u s := ⟨v, H, I, r, h⟩
  rcases l with ⟨hk, hm⟩ | ⟨hk, c, hc, hcell⟩
  · exact wpAny_Name (wpAny_loadName_local I.ok.kind hk hn hm fin) hd
  · rcases hk with hk | hk
    · exact wpAny_Name (wpAny_loadName_cell I.ok.kind hk hc hcell fin) hd
    · exact wpAny_Name (wpAny_loadName_free I.ok.kind hk hc hcell fin hcd) hd
theorem pe_int {i j pos} : PE X (.Constant (.int i) j pos) (tC (.int i)) := fun _ _ _ H _ I h => wpAny_Constant_int ⟨.int i, H, I.tok _, ⟨_, rfl⟩, h⟩
theorem pe_bl {b j pos} : PE X (.Constant (.bool b) j pos) (tC (.bl b)) := fun _ _ _ H _ I h => Constant_bool ⟨.bl b, H, I, rfl, h⟩
theorem pe_non {j pos} : PE X (.Constant .none j pos) (tC .non) := fun _ _ _ H _ I h => Constant_none ⟨.non, H, I, rfl, h⟩
theorem pe_str {x j pos} : PE X (.Constant (.str x) j pos) (tC (.str x)) := fun _ _ _ H _ I h => Calls.Constant_str ⟨.str x, H, I.tok _, ⟨_, rfl⟩, h⟩
def Gl (X : Cx) (x : Str) : Prop := X.env.kindOf x = some .globalImplicit
theorem ld_glob {E : Value → Shared → Prop} {pins : List (Addr × Obj)} {s : Shared} {σ : St} {H : Hp} {x : Str} {u : Value} {pos : Pos} {Q : Value → Shared → Prop} (I : Inv X pins σ H s) (hg : Gl X x) (hm : X.mg x = some u) (h : Q u s)
    (hd : (x == ("__debug__" : Str)) = false := by decide) : wpAny (model X.prog X.w) X.A (eval (.Name x pos) X.env) Q E s :=
  Calls.Name_function_global I.ok.kind hg (Calls.loadGlobal_global (by rw [I.ok.glob]; exact I.mod.glob.keeps I.bk) hm h) hd
theorem ld_blt {E : Value → Shared → Prop} {pins : List (Addr × Obj)} {s : Shared} {σ : St} {H : Hp} {x : Str} {u : Value} {pos : Pos} {Q : Value → Shared → Prop} (I : Inv X pins σ H s) (hg : Gl X x) (hm : X.mg x = none) (hv : bootBuiltins x = some u) (h : Q u s)
    (hn : x ≠ "__name__" := by decide) (hd : (x == ("__debug__" : Str)) = false := by decide) : wpAny (model X.prog X.w) X.A (eval (.Name x pos) X.env) Q E s := by
  obtain ⟨mb, h1, h2⟩ := I.mod.blt
  exact Calls.Name_function_global I.ok.kind hg (Calls.loadGlobal_builtin (by rw [I.ok.glob]; exact I.mod.glob.keeps I.bk) hm (by rw [I.ok.blt]; exact h1.keeps I.bk) ((h2 x hn).trans hv) h) hd
theorem pe_glob {x : Str} {v : V} {u : Value} {pos : Pos} (hg : Gl X x) (hm : X.mg x = some u) (r : RelV v u) (hd : (x == ("__debug__" : Str)) = false := by decide) : PE X (.Name x pos) (tC v) :=
  fun _ _ _ H _ I h => ld_glob I hg hm ⟨v, H, I, r, h⟩ hd
theorem pe_bltn {x : Str} {v : V} {u : Value} {pos : Pos} (hg : Gl X x) (hm : X.mg x = none) (hv : bootBuiltins x = some u) (r : RelV v u) (hn : x ≠ "__name__" := by decide) (hd : (x == ("__debug__" : Str)) = false := by decide) : PE X (.Name x pos) (tC v) :=
  fun _ _ _ H _ I h => ld_blt I hg hm hv ⟨v, H, I, r, h⟩ hn hd
variable {a b : Expr} {ta tb : TE} {pos : Pos}
def PC (X : Cx) (op : CmpOp) (a b : Expr) (t : TE) : Prop :=
  ∀ (pins : List (Addr × Obj)) (s : Shared) (σ : St) (H : Hp) (Q : VK), Inv X pins σ H s → t σ H Q →
    wpAny (model X.prog X.w) X.A (eval a X.env) (fun v s₁ => wpAny (model X.prog X.w) X.A (eval b X.env) (fun u s₂ => wpAny (model X.prog X.w) X.A (compareOp op v u) (EP X pins σ Q) X.xe s₂) X.xe s₁) X.xe s
def tB (t : TE) : TT := fun σ H Q => t σ H fun x H1 => ∃ c, x = .bl c ∧ Q c H1
theorem pt_cmp {op : CmpOp} {t : TE} (h : PC X op a b t) (h1 : behindInMarks op b = false := by first | exact nobehind _ (by decide) (by decide) | rfl) : PT X (.Compare a [op] [b] pos) (tB t) := by
  intro pins s σ H Q I hw
  refine wpAny_isTrue_Compare1 (thn (h pins s σ H _ I hw) fun v s1 h1 => thn h1 fun u s2 h2 => thn h2 fun c s3 ⟨x, H1, I1, r1, q1⟩ => ?_) h1
  obtain ⟨d, rfl, q⟩ := q1
  cases r1
  exact wpAny_truthy_bool ⟨H1, I1, q⟩
theorem pt_val {e : Expr} {t : TE} (h : PE X e t) (he : ∀ whole, isTrue e X.env whole = (do let v ← whole; standAt e.pos; holding [v] (truthy v)) := by intro _; rfl) : PT X e (tB t) := by
  intro pins s σ H Q I hw
  refine isTrue_plain (thn (h pins s σ H _ I hw) fun v s1 ⟨x, H1, I1, r1, q1⟩ => ?_) (he _)
  obtain ⟨d, rfl, q⟩ := q1
  cases r1
  exact wpAny_truthy_bool ⟨H1, I1, q⟩
variable {tA tB' : TT} {rest : List Expr}
def tAnd (t u : TT) : TT := fun σ H Q => t σ H fun c H1 => if c = true then u σ H1 Q else Q false H1
def tOr (t u : TT) : TT := fun σ H Q => t σ H fun c H1 => if c = true then Q true H1 else u σ H1 Q
def tNot (t : TT) : TT := fun σ H Q => t σ H fun c H1 => Q (!c) H1
theorem pw_and1 (ha : PT X a tA) : PW X (.BoolOp .And [a] pos) tA := by
  intro wh pins s σ H Q I h
  refine isTrue_and (thn (ha pins s σ H Q I h) fun c s1 e => ?_)
  cases c with
  | true => exact isTrue_and_nil e
  | false => exact e
theorem pw_or1 (ha : PT X a tA) : PW X (.BoolOp .Or [a] pos) tA := by
  intro wh pins s σ H Q I h
  refine isTrue_or (thn (ha pins s σ H Q I h) fun c s1 e => ?_)
  cases c with
  | false => exact isTrue_or_nil e
  | true => exact e
theorem pw_and (ha : PT X a tA) (hb : PW X (.BoolOp .And (b :: rest) pos) tB') : PW X (.BoolOp .And (a :: b :: rest) pos) (tAnd tA tB') := by
  intro wh pins s σ H Q I h
  refine isTrue_and (thn (ha pins s σ H _ I h) fun c s1 ⟨H1, I1, q1⟩ => ?_)
  cases c with
  | true => exact hb wh pins s1 σ H1 Q I1 q1
  | false => exact ⟨H1, I1, q1⟩
theorem pw_or (ha : PT X a tA) (hb : PW X (.BoolOp .Or (b :: rest) pos) tB') : PW X (.BoolOp .Or (a :: b :: rest) pos) (tOr tA tB') := by
  intro wh pins s σ H Q I h
  refine isTrue_or (thn (ha pins s σ H _ I h) fun c s1 ⟨H1, I1, q1⟩ => ?_)
  cases c with
  | true => exact ⟨H1, I1, q1⟩
  | false => exact hb wh pins s1 σ H1 Q I1 q1
theorem pt_not (ha : PT X a tA) : PT X (.UnaryOp .Not a pos) (tNot tA) := by
  intro pins s σ H Q I h
  exact isTrue_not (ha pins s σ H (fun c H1 => Q (!c) H1) I h)
def tAndV (ta tb : TE) : TE := fun σ H Q => ta σ H fun x H1 => ∃ c, x = .bl c ∧ if c = true then tb σ H1 Q else Q (.bl false) H1
def tNotV (ta : TE) : TE := fun σ H Q => ta σ H fun x H1 => ∃ c, x = .bl c ∧ Q (.bl (!c)) H1
theorem pe_one {op} {t : TE} (h : PE X a t) : PE X (.BoolOp op [a] pos) t := fun pins s σ H Q I hw => BoolOp_one (h pins s σ H Q I hw)
theorem pe_and (ha : PE X a ta) (hb : PE X (.BoolOp .And (b :: rest) pos) tb) : PE X (.BoolOp .And (a :: b :: rest) pos) (tAndV ta tb) := by
  intro pins s σ H Q I h
  refine BoolOp_and (thn (ha pins s σ H _ I h) fun v s1 ⟨x, H1, I1, r1, q1⟩ => ?_)
  obtain ⟨c, rfl, q1⟩ := q1
  cases r1
  refine wpAny_truthy_bool ?_
  cases c with
  | true => exact hb pins s1 σ H1 Q I1 q1
  | false => exact ⟨.bl false, H1, I1, rfl, q1⟩
theorem pe_not (ha : PE X a ta) : PE X (.UnaryOp .Not a pos) (tNotV ta) := by
  intro pins s σ H Q I h
  refine UnaryOp_ (thn (ha pins s σ H _ I h) fun v s1 ⟨x, H1, I1, r1, q1⟩ => ?_)
  obtain ⟨c, rfl, q1⟩ := q1
  cases r1
  exact not_of (wpAny_truthy_bool ⟨.bl (!c), H1, I1, rfl, q1⟩)
end
end L2
namespace L2
open PySem PySem.Spec PyProof.Rows
def SqL (K : PySem.W.Frag) (H : Hp) (a : Addr) (xs : List V) : Prop :=
  Rd H a (.lst xs) ∨
    ∃ (o : Obj) (its : Array Value) (n : Nat), K.lookup a = some o ∧ o.cls = .type "list" ∧ o.dict = none ∧ o.data = .seq its n ∧ its.size ≤ sizeLine ∧ Vals xs its.toList
def SqT (K : PySem.W.Frag) (H : Hp) (a : Addr) (xs : List V) : Prop :=
  Rd H a (.tup xs) ∨
    ∃ (o : Obj) (its : Array Value) (n : Nat), K.lookup a = some o ∧ o.cls = .type "tuple" ∧ o.data = .seq its n ∧ its.size ≤ sizeLine ∧ Vals xs its.toList
def absV : Value → Option V
  | .none => some .non
  | .bool b => some (.bl b)
  | .int i _ => some (.int i)
  | .str x _ => some (.str x)
  | .bytes b _ => some (.byt b)
  | .float b _ => some (.flt b)
  | .ref a => some (.ref a)
  | .type n => some (.ty n)
  | _ => none
theorem RelV.abs {x : V} {u : Value} (r : RelV x u) : absV u = some x := by
  cases x with
  | non => cases r; rfl
  | bl _ => cases r; rfl
  | int _ => obtain ⟨t, rfl⟩ := r; rfl
  | str _ => obtain ⟨t, rfl⟩ := r; rfl
  | byt _ => obtain ⟨t, rfl⟩ := r; rfl
  | flt _ => obtain ⟨t, rfl⟩ := r; rfl
  | ref _ => cases r; rfl
  | ty _ => cases r; rfl
theorem RelV.inj {x y : V} {u : Value} (r : RelV x u) (q : RelV y u) : x = y := Option.some.inj (r.abs.symm.trans q.abs)
theorem Vals.inj : ∀ {xs ys : List V} {us : List Value}, Vals xs us → Vals ys us → xs = ys
  | _, _, _, .nil, .nil => rfl
  | _, _, _, .cons r t, .cons r' t' => by rw [r.inj r', Vals.inj t t']
section
variable {X : Cx} {pins : List (Addr × Obj)} {σ : St} {H : Hp} {s : Shared} {a : Addr} {xs ys : List V}
theorem SqL.of {K : PySem.W.Frag} (h : H a = some (.lst xs)) : SqL K H a xs := .inl (.inl h)
theorem SqT.of {K : PySem.W.Frag} (h : H a = some (.tup xs)) : SqT K H a xs := .inl (.inl h)
theorem Inv.list (I : Inv X pins σ H s) (h : SqL X.K H a xs) : ∃ its : List Value, Vals xs its ∧ PlainL s.heap a its.toArray ∧ xs.length ≤ sizeLine := by
  rcases h with h | ⟨o, its, n, hk, hc, hd, hs, hz, r⟩
  · obtain ⟨z, its, n, r, e⟩ := h.ok I.hok
    exact ⟨its, r, ⟨_, n, e, rfl, rfl, rfl⟩, z⟩
  · refine ⟨its.toList, r, ⟨o, n, I.kIn a o hk, hc, hd, by simpa using hs⟩, ?_⟩
    have e := r.length
    simp only [Array.length_toList] at e
    (first | lia | omega)
theorem Inv.tuple (I : Inv X pins σ H s) (h : SqT X.K H a xs) : ∃ its : List Value, Vals xs its ∧ IsTup s.heap a its.toArray ∧ xs.length ≤ sizeLine := by
  rcases h with h | ⟨o, its, n, hk, hc, hs, hz, r⟩
  · obtain ⟨z, its, r, p⟩ := h.ok I.hok
    exact ⟨its, r, p, z⟩
  · refine ⟨its.toList, r, ⟨o, I.kIn a o hk, hc, n, by simpa using hs⟩, ?_⟩
    have e := r.length
    simp only [Array.length_toList] at e
    (first | lia | omega)
theorem Inv.list_inj (I : Inv X pins σ H s) (h : SqL X.K H a xs) (h' : SqL X.K H a ys) : xs = ys := by
  obtain ⟨its, r, ⟨o, n, e, _, _, d⟩, _⟩ := I.list h
  obtain ⟨its', r', ⟨o', n', e', _, _, d'⟩, _⟩ := I.list h'
  rw [e] at e'; cases e'
  rw [d] at d'
  injection d' with d1 _
  have : its = its' := by simpa using congrArg Array.toList d1
  subst this
  exact r.inj r'
end
abbrev Cx.wish (X : Cx) (E : Value → Shared → Prop) : Cx := { X with xe := E }
abbrev Cx.nox (X : Cx) : Cx := X.wish fun _ _ => False
theorem Cx.Ok.wish {X : Cx} (ok : X.Ok) (E : Value → Shared → Prop) : (X.wish E).Ok :=
  ⟨ok.mod, ok.kind, ok.glob, ok.blt, ok.above, ok.inj, ok.has, ok.cab, ok.hd, ok.frames, ok.stk, ok.exf, ok.bs, ok.bsz, ok.noex, ok.exfs, ok.funs, ok.frf⟩
theorem Cx.Ok.unwish {X : Cx} {E : Value → Shared → Prop} (ok : (X.wish E).Ok) : X.Ok :=
  ⟨ok.mod, ok.kind, ok.glob, ok.blt, ok.above, ok.inj, ok.has, ok.cab, ok.hd, ok.frames, ok.stk, ok.exf, ok.bs, ok.bsz, ok.noex, ok.exfs, ok.funs, ok.frf⟩
section
variable {X : Cx} {pins : List (Addr × Obj)} {σ : St} {H : Hp} {s : Shared} {E : Value → Shared → Prop}
theorem Inv.wish (I : Inv X pins σ H s) (E : Value → Shared → Prop) : Inv (X.wish E) pins σ H s := ⟨I.ok.wish E, I.os, I.bare, I.base, I.loc, I.cell, I.free, I.freeC, I.pin, I.hok, I.len⟩
theorem Inv.unwish (I : Inv (X.wish E) pins σ H s) : Inv X pins σ H s := ⟨I.ok.unwish, I.os, I.bare, I.base, I.loc, I.cell, I.free, I.freeC, I.pin, I.hok, I.len⟩
theorem SP.unwish {D : Ends} {f : Flow} {s' : Shared} (h : SP (X.wish E) pins D f s') : SP X pins D f s' := by
  cases f with
  | next => obtain ⟨σ', H', I, q⟩ := h; exact ⟨σ', H', I.unwish, q⟩
  | brk => obtain ⟨σ', H', I, q⟩ := h; exact ⟨σ', H', I.unwish, q⟩
  | cont => obtain ⟨σ', H', I, q⟩ := h; exact ⟨σ', H', I.unwish, q⟩
  | ret u => obtain ⟨v, σ', H', I, r, q⟩ := h; exact ⟨v, σ', H', I.unwish, r, q⟩
theorem PSs.nox {st : List Stmt} {t : TS} (h : PSs X.nox st t) : PSs X st t := fun pins s σ H D I hw =>
  wpAny_mono (h pins s σ H D (I.wish _) hw) (fun _ _ q => q.unwish) fun _ _ z => False.elim z
end
section
variable {X : Cx} {st : Stmt} {rest : List Stmt} {t u : TS} {e : Expr} {te : TE} {pos : Pos}
def tNext : TS := fun D σ H => D.nx σ H
def tSeq (t u : TS) : TS := fun D σ H => t { D with nx := u D } σ H
theorem pss_nil : PSs X [] tNext := fun _ _ σ H _ I h => wpAny_execs_nil ⟨σ, H, I, h⟩
theorem pss_cons (h1 : PS X st t) (h2 : PSs X rest u) : PSs X (st :: rest) (tSeq t u) := by
  intro pins s σ H D I h
  refine wpAny_execs_cons (thn (h1 pins s σ H { D with nx := u D } I h) fun f s1 q => ?_)
  cases f with
  | next =>
    obtain ⟨σ', H', I', q⟩ := q
    exact h2 pins s1 σ' H' D I' q
  | ret v => exact q
  | brk => exact q
  | cont => exact q
theorem pss_one (h1 : PS X st t) : PSs X [st] t := by
  intro pins s σ H D I h
  refine wpAny_execs_cons (thn (h1 pins s σ H D I h) fun f s1 q => ?_)
  cases f with
  | next => exact wpAny_execs_nil q
  | ret v => exact q
  | brk => exact q
  | cont => exact q
theorem Inv.quiet {pins : List (Addr × Obj)} {σ : St} {H : Hp} {s : Shared} (I : Inv X pins σ H s) : interactive X.env = false := by simp [interactive, I.ok.kind]
def tDrop (te : TE) : TS := fun D σ H => te σ H fun _ H1 => D.nx σ H1
theorem ps_expr (he : PE X e te) (hs : swapsWith e none pos.line X.env = pure false := by rfl) : PS X (.Expr e pos) (tDrop te) := by
  intro pins s σ H D I h
  exact wpAny_Expr_any (thn (he pins s σ H _ I h) fun v s1 ⟨x, H1, I1, r1, q1⟩ => ⟨σ, H1, I1, q1⟩) I.quiet hs
def tRet (te : TE) : TS := fun D σ H => te σ H D.rt
theorem ps_ret (he : PE X e te) : PS X (.Return (some e) pos) (tRet te) := by
  intro pins s σ H D I h
  exact wpAny_Return_some (thn (he pins s σ H _ I h) fun v s1 ⟨x, H1, I1, r1, q1⟩ => ⟨x, σ, H1, I1, r1, q1⟩)
def tIfS (c : TT) (t u : TS) : TS := fun D σ H => c σ H fun b H1 => if b = true then t D σ H1 else u D σ H1
theorem ps_if {c : Expr} {a b : List Stmt} {tc : TT} (hc : PT X c tc) (ha : PSs X a t) (hb : PSs X b u) : PS X (.If c a b pos) (tIfS tc t u) := by
  intro pins s σ H D I h
  refine wpAny_If (thn (hc pins s σ H _ I h) fun d s1 ⟨H1, I1, q1⟩ => ?_)
  cases d with
  | true => exact ha pins s1 σ H1 D I1 q1
  | false => exact hb pins s1 σ H1 D I1 q1
def tNever : TS := fun _ _ _ => False
theorem pss_never {sts : List Stmt} : PSs X sts tNever := fun _ _ _ _ _ _ h => h.elim
end
abbrev TG := V → St → Hp → (St → Hp → Prop) → Prop
abbrev TGs := List V → St → Hp → (St → Hp → Prop) → Prop
def PG (X : Cx) (target : Expr) (t : TG) : Prop :=
  ∀ (pins : List (Addr × Obj)) (s : Shared) (σ : St) (H : Hp) (v : V) (u : Value) (Q : St → Hp → Prop), Inv X pins σ H s → RelV v u → t v σ H Q →
    wpAny (model X.prog X.w) X.A (assign target X.env u) (fun _ s' => ∃ σ' H', Inv X pins σ' H' s' ∧ Q σ' H') X.xe s
def PGs (X : Cx) (ts : List Expr) (t : TGs) : Prop :=
  ∀ (pins : List (Addr × Obj)) (s : Shared) (σ : St) (H : Hp) (vs : List V) (us : List Value) (Q : St → Hp → Prop), Inv X pins σ H s → Vals vs us → t vs σ H Q →
    wpAny (model X.prog X.w) X.A (assignInOrder ((assignEach ts X.env).map (·.2)) us) (fun _ s' => ∃ σ' H', Inv X pins σ' H' s' ∧ Q σ' H') X.xe s
abbrev TSet := V → V → V → Hp → (Hp → Prop) → Prop
def PSet (X : Cx) (t : TSet) : Prop :=
  ∀ (pins : List (Addr × Obj)) (s : Shared) (σ : St) (H : Hp) (o i v : V) (ov iv u : Value) (Q : Hp → Prop), Inv X pins σ H s → RelV o ov → RelV i iv → RelV v u → t o i v H Q →
    wpAny (model X.prog X.w) X.A (setItem ov iv u) (fun _ s' => ∃ H', Inv X pins σ H' s' ∧ Q H') X.xe s
section
variable {X : Cx} {pos : Pos}
def gName (i : Nat) : TG := fun v σ H Q => Q (σ.set i (some v)) H
theorem pg_name {i : Nat} {x : Str} (hN : X.N.Nodup) (hi : X.N[i]? = some x) (hx : Loc X.env.scope x) (hf : X.fn x = true ∨ X.env.scope.names.lookup x = some .local := by first | exact .inl rfl | exact .inr rfl | assumption) : PG X (.Name x pos) (gName i) := by
  intro pins s σ H v u Q I r h
  exact wpAny_assign_Name (store_ok I hN hi hx r (fun s' I' => ⟨_, H, I', h⟩) hf)
def gNil : TGs := fun vs σ H Q => vs = [] ∧ Q σ H
def gCons (t : TG) (u : TGs) : TGs := fun vs σ H Q => ∃ v r, vs = v :: r ∧ t v σ H fun σ' H' => u r σ' H' Q
theorem pgs_nil : PGs X [] gNil := by
  intro pins s σ H vs us Q I r h
  obtain ⟨e, h⟩ := h
  subst e
  cases r
  exact assignInOrder_nil ⟨σ, H, I, h⟩
theorem pgs_cons {e : Expr} {es : List Expr} {t : TG} {u : TGs} (h1 : PG X e t) (h2 : PGs X es u)
    (hs : (assignEach (e :: es) X.env).map (·.2) = assign e X.env :: (assignEach es X.env).map (·.2) := by rfl) : PGs X (e :: es) (gCons t u) := by
  intro pins s σ H vs us Q I r h
  obtain ⟨v, vr, e1, h⟩ := h
  subst e1
  cases r with
  | cons r rr =>
    rw [hs]
    refine assignInOrder_cons (thn (h1 pins s σ H _ _ _ I r h) fun _ s1 ⟨σ1, H1, I1, q1⟩ => ?_)
    exact h2 pins s1 σ1 H1 _ _ Q I1 rr q1
def gTup (K : PySem.W.Frag) (n : Nat) (t : TGs) : TG := fun v σ H Q => ∃ a xs, v = .ref a ∧ SqT K H a xs ∧ xs.length = n ∧ t xs σ H Q
theorem pg_tup {es : List Expr} {k : Nat} {t : TGs} {n : Nat} (hc : X.calm = true) (h : PGs X es t)
    (hn : (assignEach es X.env).length = n := by rfl) (hst : (assignEach es X.env).findIdx? (·.1) = none := by rfl) : PG X (.Tuple es k pos) (gTup X.K n t) := by
  intro pins s σ H v u Q I r hw
  obtain ⟨a, xs, e1, hq, hl, hw⟩ := hw
  subst e1
  cases r
  obtain ⟨its, rv, ht, hz⟩ := I.tuple hq
  refine assign_Tuple_tuple (I.ok.hd hc) ht (by simp [hn, ← hl, rv.length]) hst fun h' hx => ?_
  have I1 : Inv X pins σ H { s with heap := h' } := I.kept (t' := s.toks) fun b o e => hx b o (Nat.ne_of_lt (Heap.lt_size e)) e
  exact h pins _ σ H xs _ Q I1 (by simpa using rv) hw
def gSub (to ti : TE) (t : TSet) : TG := fun v σ H Q => to σ H fun o H1 => ti σ H1 fun i H2 => t o i v H2 fun H3 => Q σ H3
theorem pg_sub {o i : Expr} {to ti : TE} {t : TSet} (ho : PE X o to) (hi : PE X i ti) (hs : PSet X t)
    (ha : ∀ v, assign (.Subscript o i pos) X.env v = (do
      let ov ← holding [v] (eval o X.env)
      let iv ← holding [v, ov] (eval i X.env)
      standAt pos
      holding [v, ov, iv] (setItem ov iv v)
      release [v, ov, iv] []) := by intro _; rfl) : PG X (.Subscript o i pos) (gSub to ti t) := by
  intro pins s σ H v u Q I r h
  rw [ha]
  refine wpAny_bind (wpAny_holding (thn (ho pins s σ H _ I h) fun ov s1 ⟨x, H1, I1, r1, q1⟩ => ?_))
  refine wpAny_bind (wpAny_holding (thn (hi pins s1 σ H1 _ I1 q1) fun iv s2 ⟨y, H2, I2, r2, q2⟩ => ?_))
  refine wpAny_bind (wpAny_standAt (wpAny_bind (wpAny_holding (thn (hs pins s2 σ H2 x y v ov iv u _ I2 r1 r2 r q2) fun _ s3 ⟨H3, I3, q3⟩ => ?_))))
  exact wpAny_release ⟨σ, H3, I3, q3⟩
def tAsg (te : TE) (g : TG) : TS := fun D σ H => te σ H fun x H1 => g x σ H1 D.nx
theorem ps_asg {tg e : Expr} {te : TE} {g : TG} (he : PE X e te) (hg : PG X tg g) (hs : swapsWithSole [tg] e pos.line X.env = pure false := by rfl) (hw : swappedStores [tg] e X.env = pure none := by rfl)
    (h1 : (assignEach [tg] X.env).map (·.2) = [assign tg X.env] := by rfl) : PS X (.Assign [tg] e pos) (tAsg te g) := by
  intro pins s σ H D I h
  refine wpAny_Assign_stores (thn (he pins s σ H _ I h) fun v s1 ⟨x, H1, I1, r1, q1⟩ => ?_) hs hw
  rw [h1]
  exact thn (hg pins s1 σ H1 x v _ I1 r1 q1) fun _ s2 q => q
theorem ps_set {i : Nat} {x : Str} {e : Expr} {te : TE} {pos' : Pos} (hN : X.N.Nodup) (hi : X.N[i]? = some x) (hx : Loc X.env.scope x) (he : PE X e te) (hs : swapsWith e (some (.Name x pos')) pos.line X.env = pure false := by rfl) (hf : X.fn x = true ∨ X.env.scope.names.lookup x = some .local := by first | exact .inl rfl | exact .inr rfl | assumption) :
    PS X (.Assign [.Name x pos'] e pos) (tAsg te (gName i)) := by
  intro pins s σ H D I h
  refine wpAny_Assign_Name (thn (he pins s σ H _ I h) fun v s1 ⟨y, H1, I1, r1, q1⟩ => ?_) hs
  exact store_ok I1 hN hi hx r1 (fun s2 I2 => ⟨_, H1, I2, q1⟩) hf
end
section
variable {X : Cx} {pos : Pos}
def tWhile (c : TT) (tb : TS) : TS := fun D σ H => ∃ W : Nat → St → Hp → Prop, (∃ m, W m σ H) ∧ ∀ m σ H, W m σ H →
  c σ H fun b H1 => if b = true then ∃ N : St → Hp → Prop, (∀ σ' H', N σ' H' → ∃ m', m' < m ∧ W m' σ' H') ∧ tb { D with nx := N, ct := N, bk := D.nx } σ H1 else D.nx σ H1
theorem ps_while {c : Expr} {body : List Stmt} {tc : TT} {tb : TS} (hp : PassesOwn (model X.prog X.w) X.A X.env X.xe) (hc : PT X c tc) (hb : PSs X body tb) : PS X (.While c body [] pos) (tWhile tc tb) := by
  intro pins s σ H D I h
  obtain ⟨W, ⟨m0, w0⟩, turn⟩ := h
  refine wpAny_While (codeAny_whileLoop (fun n s' => ∃ σ' H', Inv X pins σ' H' s' ∧ W n σ' H') ?_ m0 ⟨σ, H, I, w0⟩)
  rintro n s1 ⟨σ1, H1, I1, w1⟩
  refine wpAny_passesOwn hp (thn (hc pins s1 σ1 H1 _ I1 (turn n σ1 H1 w1)) fun b s2 ⟨H2, I2, q2⟩ => ?_)
  cases b with
  | true =>
    obtain ⟨N, hN, q2⟩ := q2
    rw [if_pos rfl]
    refine wpAny_passesOwn hp (thn (hb pins s2 σ1 H2 _ I2 q2) fun f s3 q3 => ?_)
    cases f with
    | next =>
      obtain ⟨σ3, H3, I3, n3⟩ := q3
      obtain ⟨m', hm, w3⟩ := hN σ3 H3 n3
      exact ⟨m', hm, σ3, H3, I3, w3⟩
    | cont =>
      obtain ⟨σ3, H3, I3, n3⟩ := q3
      obtain ⟨m', hm, w3⟩ := hN σ3 H3 n3
      exact ⟨m', hm, σ3, H3, I3, w3⟩
    | brk => exact q3
    | ret v => exact q3
  | false =>
    rw [if_neg Bool.false_ne_true]
    exact wpAny_execs_nil ⟨σ1, H2, I2, q2⟩
end
structure It where
  go : Nat → Hp → Prop
  yld : Nat → Hp → V → Hp → Prop
  stop : Nat → Hp → Prop
def FpOk (X : Cx) (pins : List (Addr × Obj)) (H : Hp) (b : Addr) : Prop :=
  H b = none ∧ b ≠ X.env.locals ∧ b ∉ X.fs ∧ (b ∈ X.ex ∨ X.s₀.heap.objs.size ≤ b) ∧ (∀ x c, X.env.cells.lookup x = some c → c ≠ b) ∧ ∀ p ∈ X.pn ++ pins, p.1 ≠ b
theorem Inv.fpOk {X : Cx} {pins : List (Addr × Obj)} {σ : St} {H H' : Hp} {s : Shared} {b : Addr} (I : Inv X pins σ H s) (hb : s.heap.objs.size ≤ b) (hn : H' b = none) : FpOk X pins H' b := by
  refine ⟨hn, Nat.ne_of_gt (Nat.lt_of_lt_of_le I.lt hb), I.nofs hb, .inr (Nat.le_trans I.sz hb), fun x c e z => ?_, fun p hp z => ?_⟩
  · obtain ⟨v, q⟩ := I.cell x c e
    exact absurd (Nat.lt_of_lt_of_le q.lt (by rw [z]; exact hb)) (Nat.lt_irrefl _)
  · exact absurd (Nat.lt_of_lt_of_le (Heap.lt_size (I.pin p hp).1) (by rw [z]; exact hb)) (Nat.lt_irrefl _)
structure Turn (P : Program) (w : World) (K : PySem.W.Frag) (tg : Expr) (J : It) (fp : List Addr) (it : Addr) (tn : Nat → Heap → Prop) : Prop where
  mem : it ∈ fp
  obj : ∀ i h, tn i h → ∀ b ∈ fp, ∃ o, h.get? b = some o ∧ ∀ v, o.data ≠ .cell v
  keep : ∀ i h h', tn i h → (∀ b ∈ fp, ∀ o, h.get? b = some o → h'.get? b = some o) → tn i h'
  item : ∀ (X : Cx), X.prog = P → X.w = w → X.K = K → X.calm = true → ∀ (i : Nat) (pins : List (Addr × Obj)) (s : Shared) (σ : St) (H : Hp) (E : Value → Shared → Prop), Inv X pins σ H s → (∀ b ∈ fp, FpOk X pins H b) → tn i s.heap → J.go i H →
    wpAny (model P w) X.A (pyNext (.ref it)) (fun r s1 => ∃ u, r = some u ∧
      wpAny (model P w) X.A (letOwnedTupleGo tg (.ref it) u) (fun _ s2 => ∃ x H', Inv X pins σ H' s2 ∧ RelV x u ∧ J.yld i H x H' ∧ tn (i + 1) s2.heap ∧ ∀ b ∈ fp, H' b = none) E s1) E s
  done : ∀ (X : Cx), X.prog = P → X.w = w → X.K = K → X.calm = true → ∀ (i : Nat) (pins : List (Addr × Obj)) (s : Shared) (σ : St) (H : Hp) (E : Value → Shared → Prop), Inv X pins σ H s → (∀ b ∈ fp, FpOk X pins H b) → tn i s.heap → J.stop i H →
    wpAny (model P w) X.A (pyNext (.ref it)) (fun r s1 => r = none ∧ Inv X pins σ H s1) E s
  self : ∀ (A : Around) (i : Nat) (s : Shared) (Q : Value → Shared → Prop) (E : Value → Shared → Prop), tn i s.heap → Q (.ref it) s → wpAny (model P w) A (pyIter (.ref it)) Q E s
abbrev TI := St → Hp → (It → Hp → Prop) → Prop
def PIE (X : Cx) (pins : List (Addr × Obj)) (σ : St) (tg : Expr) (R : It → Hp → Prop) (itv : Value) (s2 : Shared) : Prop :=
  ∃ (it : Addr) (fp : List Addr) (tn : Nat → Heap → Prop) (J : It) (H' : Hp), itv = .ref it ∧ Inv X pins σ H' s2 ∧ Turn X.prog X.w X.K tg J fp it tn ∧ tn 0 s2.heap ∧ (∀ b ∈ fp, FpOk X pins H' b) ∧ R J H'
def PI (X : Cx) (tg iter : Expr) (wi : TI) : Prop :=
  ∀ (pins : List (Addr × Obj)) (s : Shared) (σ : St) (H : Hp) (R : It → Hp → Prop), Inv X pins σ H s → wi σ H R →
    wpAny (model X.prog X.w) X.A (eval iter X.env) (fun v s1 => wpAny (model X.prog X.w) X.A (pyIter v) (PIE X pins σ tg R) X.xe s1) X.xe s
theorem go_of {M : Model} {A : Around} {E : Value → Shared → Prop} {s : Shared} {tg : Expr} {it : Addr} {u : Value} {o : Obj} {n : String} {vs : Array Value} {Q : Unit → Shared → Prop} (ho : s.heap.get? it = some o) (hc : o.cls = .type n) (hd : o.data = .fields vs)
    (hn : ["enumerate", "zip", "dict_itemiterator", "dict_reverseitemiterator", "odict_iterator", "itertools.zip_longest", "itertools.pairwise"].contains n = false) (hQ : Q () s) : wpAny M A (letOwnedTupleGo tg (.ref it) u) Q E s := by
  unfold letOwnedTupleGo
  cases tg <;> first
    | exact wpAny_pure hQ
    | (cases u <;> first
        | exact wpAny_pure hQ
        | (refine wpAny_bind (wpAny_load ho ?_)
           rw [hc, hd]
           show wpAny M A (if (["enumerate", "zip", "dict_itemiterator", "dict_reverseitemiterator", "odict_iterator", "itertools.zip_longest", "itertools.pairwise"].contains n && vs[0]? == some (rawInt _)) = true then _ else _) Q E s
           rw [if_neg (by intro h; rw [hn, Bool.false_and] at h; cases h)]
           exact wpAny_pure hQ))
def Itl (K : PySem.W.Frag) (a : Addr) : It :=
  ⟨fun i H => ∃ xs x, SqL K H a xs ∧ xs[i]? = some x, fun i H x H' => H' = H ∧ ∀ xs, SqL K H a xs → xs[i]? = some x, fun i H => ∃ xs, SqL K H a xs ∧ xs.length ≤ i⟩
def Itr (lo : Int) (n : Nat) : It := ⟨fun i _ => i < n, fun i H x H' => H' = H ∧ x = .int (lo + i), fun i _ => n ≤ i⟩
theorem turn_list {P : Program} {w : World} {K : PySem.W.Frag} {tg : Expr} (a it : Addr) : Turn P w K tg (Itl K a) [it] it (fun i h => h.IsListIter it a i) where
  mem := by simp
  obj := fun i h st b hb => by
    have e : b = it := by simpa using hb
    subst e
    obtain ⟨o, e, c, d⟩ := st
    exact ⟨o, e, fun v z => by rw [d] at z; cases z⟩
  keep := fun i h h' st k => st.at fun o e => k it (by simp) o e
  item := by
    intro X hP hw hK hc i pins s σ H E I hf st hg
    subst hP hw hK
    obtain ⟨xs, x, hq, hx⟩ := hg
    obtain ⟨its, rv, p, hz⟩ := I.list hq
    obtain ⟨u, hu, ru⟩ := rv.get hx
    obtain ⟨f0, f1, f2, f3, f4, f5⟩ := hf it (by simp)
    refine wpAny_pyNext_list_item st p.isList (x := u) (by simpa using hu) fun h' st' sb => ?_
    have I1 : Inv X pins σ H { s with heap := h' } := I.turned (t' := s.toks) (fun b o hb e => (sb.2 b hb).trans e) f0 f1 f3 f4 f5
    obtain ⟨o, e, c, d⟩ := id st'
    exact ⟨u, rfl, go_of (s := { s with heap := h' }) e c d (by decide) ⟨x, H, I1, ru, ⟨rfl, fun ys hy => by rw [I.list_inj hy hq]; exact hx⟩, st', fun b hb => (hf b hb).1⟩⟩
  done := by
    intro X hP hw hK hc i pins s σ H E I hf st hg
    subst hP hw hK
    obtain ⟨xs, hq, hx⟩ := hg
    obtain ⟨its, rv, p, hz⟩ := I.list hq
    obtain ⟨f0, f1, f2, f3, f4, f5⟩ := hf it (by simp)
    have hl := rv.length
    exact wpAny_pyNext_list_end (I.ok.hd hc) st p.isList (by simp; (first | lia | omega)) fun h' eb => ⟨rfl, I.turned (t' := s.toks) (fun b o hb e => eb b o hb e) f0 f1 f3 f4 f5⟩
  self := fun _ _ _ _ _ st h => wpAny_pyIter_listiter st h
theorem turn_range {P : Program} {w : World} {K : PySem.W.Frag} {tg : Expr} (it : Addr) (lo : Int) (n : Nat) : Turn P w K tg (Itr lo n) [it] it (fun i h => IsRangeIter h it (lo + (i : Nat) * 1) ((n : Int) - (i : Nat)) 1) where
  mem := by simp
  obj := fun i h st b hb => by
    have e : b = it := by simpa using hb
    subst e
    exact ⟨_, st, fun v z => by
      have z' : Data.fields _ = Data.cell v := z
      cases z'⟩
  keep := fun i h h' st k => k it (by simp) _ st
  item := by
    intro X hP hw hK hc i pins s σ H E I hf st hg
    subst hP hw hK
    obtain ⟨f0, f1, f2, f3, f4, f5⟩ := hf it (by simp)
    have W := Walks.range (prog := X.prog) (w := X.w) (I.ok.hd hc) it lo 1 n
    refine W.item i s _ _ hg st fun v h' tk hv st' kk => ?_
    obtain ⟨t, rfl⟩ := hv
    have I1 : Inv X pins σ H { s with heap := h', toks := tk } := I.turned (fun b o hb e => kk b o (by simpa using hb) e) f0 f1 f3 f4 f5
    refine ⟨_, rfl, go_of (s := { s with heap := h', toks := tk }) (n := "range_iterator") st' rfl rfl (by decide) ⟨.int (lo + i), H, I1, ⟨t, ?_⟩, ⟨rfl, rfl⟩, st', fun b hb => (hf b hb).1⟩⟩
    rw [Int.mul_one]
  done := by
    intro X hP hw hK hc i pins s σ H E I hf st hg
    subst hP hw hK
    obtain ⟨f0, f1, f2, f3, f4, f5⟩ := hf it (by simp)
    exact wpAny_pyNext_range_end (I.ok.hd hc) st (by have : n ≤ i := hg; (first | lia | omega)) fun h' eb => ⟨rfl, I.turned (t' := s.toks) (fun b o hb e => eb b o hb e) f0 f1 f3 f4 f5⟩
  self := fun _ _ _ _ _ st h => wpAny_pyIter_rangeiter st h
end L2
namespace L2
open PySem PySem.Spec PyProof.Rows
section
variable {X : Cx} {tg : Expr}
def iList (K : PySem.W.Frag) (tl : TE) : TI := fun σ H R => tl σ H fun x H1 => ∃ a, x = .ref a ∧ (∃ xs, SqL K H1 a xs) ∧ R (Itl K a) H1
theorem pi_list {l : Expr} {tl : TE} (hl : PE X l tl) : PI X tg l (iList X.K tl) := by
  intro pins s σ H R I h
  refine thn (hl pins s σ H _ I h) fun v s1 ⟨x, H1, I1, r1, q1⟩ => ?_
  obtain ⟨a, e, ⟨xs, hq⟩, q⟩ := q1
  subst e
  cases r1
  obtain ⟨its, rv, p, hz⟩ := I1.list hq
  refine wpAny_pyIter_list p.isList ?_
  refine ⟨s1.heap.objs.size, [s1.heap.objs.size], _, _, H1, rfl, I1.kept (t' := s1.toks) fun b o e => Heap.get?_push_of_some _ e, turn_list a _, ⟨_, Heap.get?_push_size _ rfl, rfl, rfl⟩, fun b hb => ?_, q⟩
  have e : b = s1.heap.objs.size := by simpa using hb
  subst e
  exact I1.fpOk (Nat.le_refl _) (I1.hok.fresh (Nat.le_refl _))
theorem range_it {pins : List (Addr × Obj)} {σ : St} {H : Hp} {s : Shared} {R : It → Hp → Prop} {E : Value → Shared → Prop} {lo hi : Int} {t u v : Tok} {tk : Nat} (I : Inv X pins σ H s) (h1 : -(2 ^ 62) ≤ lo) (h2 : lo < 2 ^ 62) (h3 : -(2 ^ 62) ≤ hi) (h4 : hi < 2 ^ 62)
    (q : R (Itr lo (hi - lo).toNat) H) : wpAny (model X.prog X.w) X.A (pyIter (.ref s.heap.objs.size)) (PIE X pins σ tg R) E { s with heap := s.heap.push { cls := .type "range", data := .fields #[.int lo t, .int hi u, .int 1 v] }, toks := tk } := by
  refine wpAny_pyIter_range (IsRange.new ..) (small_one h1 h2 h3 h4) ?_
  have I1 : Inv X pins σ H { s with heap := s.heap.push { cls := .type "range", data := .fields #[.int lo t, .int hi u, .int 1 v] }, toks := tk } := I.kept fun b o e => Heap.get?_push_of_some _ e
  refine ⟨(s.heap.push { cls := .type "range", data := .fields #[.int lo t, .int hi u, .int 1 v] }).objs.size, [(s.heap.push { cls := .type "range", data := .fields #[.int lo t, .int hi u, .int 1 v] }).objs.size], _, _, H, rfl,
    I1.kept (t' := tk) fun b o e => Heap.get?_push_of_some _ e, turn_range _ lo (hi - lo).toNat, ?_, fun b hb => ?_, q⟩
  · have e1 : lo + ((0 : Nat) : Int) * 1 = lo := by simp
    have e2 : (((hi - lo).toNat : Nat) : Int) - ((0 : Nat) : Int) = Builtin.Range.rangeSize lo hi 1 := by rw [rangeSize_one]; split <;> (first | lia | omega)
    show IsRangeIter _ _ (lo + ((0 : Nat) : Int) * 1) ((((hi - lo).toNat : Nat) : Int) - ((0 : Nat) : Int)) 1
    rw [e1, e2]
    exact Heap.get?_push_size _ rfl
  · have e : b = (s.heap.push { cls := .type "range", data := .fields #[.int lo t, .int hi u, .int 1 v] }).objs.size := by simpa using hb
    subst e
    exact I1.fpOk (Nat.le_refl _) (I1.hok.fresh (Nat.le_refl _))
def iRng1 (ta : TA) : TI := fun σ H R => ta σ H fun vs H1 => ∃ j : Int, vs = [.int j] ∧ -(2 ^ 62) ≤ j ∧ j < 2 ^ 62 ∧ R (Itr 0 j.toNat) H1
theorem pi_range1 {a : Expr} {ta : TA} {p pos : Pos} (hg : Gl X "range") (hm : X.mg "range" = none) (ha : PA X [a] ta) (hs : starEach [a] X.env = [(false, eval a X.env)] := by rfl) : PI X tg (.Call (.Name "range" p) [a] [] pos) (iRng1 ta) := by
  intro pins s σ H R I h
  refine Call_ (ld_blt I hg hm boot_range (PyProof.Rows.callWith_type1 (thn (ha pos pins s σ H _ I h) fun us s1 ⟨vs, H1, I1, r1, q1⟩ => ?_) hs rfl))
  obtain ⟨j, e, q1, q2, q⟩ := q1
  subst e
  cases r1 with
  | cons r rr =>
    cases rr
    obtain ⟨t, rfl⟩ := r
    exact call_range_1 (range_it I1 (by (first | lia | omega)) (by (first | lia | omega)) q1 q2 (by simpa using q))
def tFor (wi : TI) (g : TG) (tb : TS) : TS := fun D σ H => wi σ H fun J H1 => ∃ W : Nat → Nat → St → Hp → Prop, (∃ m, W 0 m σ H1) ∧ ∀ i m σ H, W i m σ H →
  (J.stop i H ∧ D.nx σ H) ∨ (J.go i H ∧ ∃ N : St → Hp → Prop, (∀ σ' H', N σ' H' → ∃ m', m' < m ∧ W (i + 1) m' σ' H') ∧ ∀ x H', J.yld i H x H' → g x σ H' fun σ2 H2 => tb { D with nx := N, ct := N, bk := D.nx } σ2 H2)
def pinsAt (fp : List Addr) (h : Heap) : List (Addr × Obj) := fp.filterMap fun b => (h.get? b).map fun o => (b, o)
theorem mem_pinsAt {fp : List Addr} {h : Heap} {b : Addr} {o : Obj} (hb : b ∈ fp) (e : h.get? b = some o) : (b, o) ∈ pinsAt fp h := List.mem_filterMap.mpr ⟨b, hb, by rw [e]; rfl⟩
theorem of_pinsAt {fp : List Addr} {h : Heap} {p : Addr × Obj} (hp : p ∈ pinsAt fp h) : p.1 ∈ fp ∧ h.get? p.1 = some p.2 := by
  obtain ⟨b, hb, e⟩ := List.mem_filterMap.mp hp
  cases q : h.get? b with
  | none => rw [q] at e; cases e
  | some o =>
    rw [q] at e
    have e' : (b, o) = p := Option.some.inj e
    subst e'
    exact ⟨hb, q⟩
theorem Inv.pinned {pins : List (Addr × Obj)} {σ : St} {H : Hp} {s : Shared} {fp : List Addr} (I : Inv X pins σ H s) (hf : ∀ b ∈ fp, FpOk X pins H b) (ho : ∀ b ∈ fp, ∃ o, s.heap.get? b = some o ∧ ∀ v, o.data ≠ .cell v) : Inv X (pins ++ pinsAt fp s.heap) σ H s :=
  I.pins_of fun p hp => (List.mem_append.mp hp).elim (fun z => I.pin p (List.mem_append_right _ z)) fun z => by
    obtain ⟨hb, e⟩ := of_pinsAt z
    obtain ⟨f0, f1, f2, _⟩ := hf p.1 hb
    obtain ⟨o, e', d⟩ := ho p.1 hb
    rw [e] at e'; cases e'
    exact ⟨e, f0, f1, f2, d⟩
theorem Inv.unpinned {pins pl : List (Addr × Obj)} {σ : St} {H : Hp} {s : Shared} (I : Inv X (pins ++ pl) σ H s) : Inv X pins σ H s := I.pins_of fun p hp => I.pin p (List.mem_append_right _ (List.mem_append_left _ hp))
theorem ps_for {iter : Expr} {body : List Stmt} {wi : TI} {g : TG} {tb : TS} {pos : Pos} (hp : PassesOwn (model X.prog X.w) X.A X.env X.xe) (hc : X.calm = true) (hi : PI X tg iter wi) (hg : PG X tg g) (hb : PSs X body tb)
    (hs : ∀ x, foldedSetIterable iter X.env x = pure x := by intro _; rfl) : PS X (.For tg iter body [] pos) (tFor wi g tb) := by
  intro pins s σ H D I h
  refine wpAny_For (thn (hi pins s σ H _ I h) fun v s1 h1 => thn h1 fun itv s2 h2 => ?_) hs
  obtain ⟨it, fp, tn, J, H2, e, I2, T, st2, f2, W, ⟨m0, w0⟩, turn⟩ := h2
  subst e
  have stat : ∀ {H' : Hp}, (∀ b ∈ fp, H' b = none) → ∀ b ∈ fp, FpOk X pins H' b := fun hn b hb => ⟨hn b hb, (f2 b hb).2⟩
  refine codeAny_forLoop_any (fun n s' => ∃ i σ' H', Inv X pins σ' H' s' ∧ tn i s'.heap ∧ (∀ b ∈ fp, H' b = none) ∧ W i n σ' H') ?_ m0 ⟨0, σ, H2, I2, st2, fun b hb => (f2 b hb).1, w0⟩
  rintro n s3 ⟨i, σ3, H3, I3, st3, fr3, w3⟩
  rcases turn i n σ3 H3 w3 with ⟨stop, qn⟩ | ⟨go, N, hN, step⟩
  · refine wpAny_passesOwn hp (thn (T.done X rfl rfl rfl hc i pins s3 σ3 H3 X.xe I3 (stat fr3) st3 stop) fun r s4 ⟨hr, I4⟩ => ?_)
    subst hr
    exact wpAny_execs_nil ⟨σ3, H3, I4, qn⟩
  · refine wpAny_passesOwn hp (thn (T.item X rfl rfl rfl hc i pins s3 σ3 H3 X.xe I3 (stat fr3) st3 go) fun r s4 ⟨u, hr, h4⟩ => ?_)
    subst hr
    refine wpAny_passesOwn hp (thn h4 fun _ s5 ⟨x, H5, I5, r5, y5, st5, fr5⟩ => ?_)
    have I5' := I5.pinned (stat fr5) (T.obj _ _ st5)
    refine wpAny_passesOwn hp (thn (hg _ s5 σ3 H5 x u _ I5' r5 (step x H5 y5)) fun _ s6 ⟨σ6, H6, I6, q6⟩ => ?_)
    refine wpAny_passesOwn hp (thn (hb _ s6 σ6 H6 _ I6 q6) fun f s7 q7 => ?_)
    have again : ∀ {σ7 : St} {H7 : Hp}, Inv X (pins ++ pinsAt fp s5.heap) σ7 H7 s7 → N σ7 H7 → ∃ m, m < n ∧ ∃ i σ' H', Inv X pins σ' H' s7 ∧ tn i s7.heap ∧ (∀ b ∈ fp, H' b = none) ∧ W i m σ' H' := fun {σ7 H7} I7 n7 => by
      obtain ⟨m', hm, w7⟩ := hN σ7 H7 n7
      refine ⟨m', hm, i + 1, σ7, H7, I7.unpinned, T.keep _ _ _ st5 fun b hb o e => (I7.pin (b, o) (List.mem_append_right _ (List.mem_append_right _ (mem_pinsAt hb e)))).1, fun b hb => ?_, w7⟩
      obtain ⟨o, e, d⟩ := T.obj _ _ st5 b hb
      exact (I7.pin (b, o) (List.mem_append_right _ (List.mem_append_right _ (mem_pinsAt hb e)))).2.1
    cases f with
    | next => obtain ⟨σ7, H7, I7, n7⟩ := q7; exact again I7 n7
    | cont => obtain ⟨σ7, H7, I7, n7⟩ := q7; exact again I7 n7
    | brk => obtain ⟨σ7, H7, I7, q7⟩ := q7; exact ⟨σ7, H7, I7.unpinned, q7⟩
    | ret v => obtain ⟨x7, σ7, H7, I7, r7, q7⟩ := q7; exact ⟨x7, σ7, H7, I7.unpinned, r7, q7⟩
end
theorem for_list {K : PySem.W.Frag} {a : Addr} {xs : List V} {g : TG} {tb : TS} {D : Ends} {σ : St} {H : Hp} (Pv : Nat → St → Hp → Prop) (h0 : Pv 0 σ H) (hl : ∀ i σ H, i ≤ xs.length → Pv i σ H → SqL K H a xs)
    (hs : ∀ i x σ H, xs[i]? = some x → Pv i σ H → g x σ H fun σ2 H2 => tb { D with nx := Pv (i + 1), ct := Pv (i + 1), bk := D.nx } σ2 H2) (hd : ∀ σ H, Pv xs.length σ H → D.nx σ H) :
    ∃ W : Nat → Nat → St → Hp → Prop, (∃ m, W 0 m σ H) ∧ ∀ i m σ H, W i m σ H →
      ((Itl K a).stop i H ∧ D.nx σ H) ∨ ((Itl K a).go i H ∧ ∃ N : St → Hp → Prop, (∀ σ' H', N σ' H' → ∃ m', m' < m ∧ W (i + 1) m' σ' H') ∧ ∀ x H', (Itl K a).yld i H x H' → g x σ H' fun σ2 H2 => tb { D with nx := N, ct := N, bk := D.nx } σ2 H2) := by
  refine ⟨fun i m σ H => m = xs.length - i ∧ i ≤ xs.length ∧ Pv i σ H, ⟨xs.length, by simp, Nat.zero_le _, h0⟩, ?_⟩
  rintro i m σ H ⟨rfl, hi, p⟩
  have q := hl i σ H hi p
  by_cases hlt : i < xs.length
  · refine .inr ⟨⟨xs, xs[i], q, by simp [hlt]⟩, Pv (i + 1), fun σ' H' p' => ⟨xs.length - (i + 1), by (first | lia | omega), rfl, hlt, p'⟩, fun x H' y => ?_⟩
    obtain ⟨e, y⟩ := y
    subst e
    exact hs i x σ _ (y xs q) p
  · have e : i = xs.length := by (first | lia | omega)
    subst e
    exact .inl ⟨⟨xs, q, Nat.le_refl _⟩, hd σ H p⟩
theorem for_range {lo : Int} {n : Nat} {g : TG} {tb : TS} {D : Ends} {σ : St} {H : Hp} (Pv : Nat → St → Hp → Prop) (h0 : Pv 0 σ H)
    (hs : ∀ i σ H, i < n → Pv i σ H → g (.int (lo + i)) σ H fun σ2 H2 => tb { D with nx := Pv (i + 1), ct := Pv (i + 1), bk := D.nx } σ2 H2) (hd : ∀ σ H, Pv n σ H → D.nx σ H) :
    ∃ W : Nat → Nat → St → Hp → Prop, (∃ m, W 0 m σ H) ∧ ∀ i m σ H, W i m σ H →
      ((Itr lo n).stop i H ∧ D.nx σ H) ∨ ((Itr lo n).go i H ∧ ∃ N : St → Hp → Prop, (∀ σ' H', N σ' H' → ∃ m', m' < m ∧ W (i + 1) m' σ' H') ∧ ∀ x H', (Itr lo n).yld i H x H' → g x σ H' fun σ2 H2 => tb { D with nx := N, ct := N, bk := D.nx } σ2 H2) := by
  refine ⟨fun i m σ H => m = n - i ∧ i ≤ n ∧ Pv i σ H, ⟨n, by simp, Nat.zero_le _, h0⟩, ?_⟩
  rintro i m σ H ⟨rfl, hi, p⟩
  by_cases hlt : i < n
  · refine .inr ⟨hlt, Pv (i + 1), fun σ' H' p' => ⟨n - (i + 1), by (first | lia | omega), rfl, hlt, p'⟩, fun x H' y => ?_⟩
    obtain ⟨e, y⟩ := y
    subst e y
    exact hs i σ _ hlt p
  · have e : i = n := by (first | lia | omega)
    subst e
    exact .inl ⟨Nat.le_refl _, hd σ H p⟩
end L2
namespace L2
open PySem PySem.Spec PyProof.Rows
abbrev R2 := V → V → Hp → VK → Prop
def OpR (X : Cx) (f : Value → Value → Sem Value) (r : R2) : Prop :=
  ∀ (pins : List (Addr × Obj)) (s : Shared) (σ : St) (H : Hp) (x y : V) (v u : Value) (Q : VK), Inv X pins σ H s → RelV x v → RelV y u → r x y H Q →
    wpAny (model X.prog X.w) X.A (f v u) (EP X pins σ Q) X.xe s
def UnR (X : Cx) (f : Value → Sem Value) (r : V → Hp → VK → Prop) : Prop :=
  ∀ (pins : List (Addr × Obj)) (s : Shared) (σ : St) (H : Hp) (x : V) (v : Value) (Q : VK), Inv X pins σ H s → RelV x v → r x H Q →
    wpAny (model X.prog X.w) X.A (f v) (EP X pins σ Q) X.xe s
def CallR (X : Cx) (f : Value) (r : List V → Hp → VK → Prop) : Prop :=
  ∀ (pins : List (Addr × Obj)) (s : Shared) (σ : St) (H : Hp) (xs : List V) (us : List Value) (Q : VK), Inv X pins σ H s → Vals xs us → r xs H Q →
    wpAny (model X.prog X.w) X.A (call f us) (EP X pins σ Q) X.xe s
def TruR (X : Cx) (r : V → Hp → (Bool → Hp → Prop) → Prop) : Prop :=
  ∀ (pins : List (Addr × Obj)) (s : Shared) (σ : St) (H : Hp) (x : V) (v : Value) (Q : Bool → Hp → Prop), Inv X pins σ H s → RelV x v → r x H Q →
    wpAny (model X.prog X.w) X.A (truthy v) (TP X pins σ Q) X.xe s
def tOp (r : R2) (ta tb : TE) : TE := fun σ H Q => ta σ H fun x H1 => tb σ H1 fun y H2 => r x y H2 Q
def tUn (r : V → Hp → VK → Prop) (ta : TE) : TE := fun σ H Q => ta σ H fun x H1 => r x H1 Q
def rI (C : Int → Int → Prop) (g : Int → Int → V) : R2 := fun x y H Q => ∃ i j, x = .int i ∧ y = .int j ∧ C i j ∧ Q (g i j) H
def rI0 (g : Int → Int → V) : R2 := fun x y H Q => ∃ i j, x = .int i ∧ y = .int j ∧ Q (g i j) H
def rU (g : Int → V) : V → Hp → VK → Prop := fun x H Q => ∃ i, x = .int i ∧ Q (g i) H
section
variable {X : Cx} {a b c : Expr} {ta tb tc : TE} {pos : Pos}
theorem binT (ha : PE X a ta) (hb : PE X b tb) {pins : List (Addr × Obj)} {s : Shared} {σ : St} {H : Hp} {R : V → V → Hp → Prop} (I : Inv X pins σ H s)
    (h : ta σ H fun x H1 => tb σ H1 fun y H2 => R x y H2) {Q : Value → Shared → Prop} {f : Value → Value → Sem Value}
    (hf : ∀ v u s2 x y H2, Inv X pins σ H2 s2 → RelV x v → RelV y u → R x y H2 → wpAny (model X.prog X.w) X.A (f v u) Q X.xe s2) :
    wpAny (model X.prog X.w) X.A (eval a X.env) (fun v s₁ => wpAny (model X.prog X.w) X.A (eval b X.env) (fun u s₂ => wpAny (model X.prog X.w) X.A (f v u) Q X.xe s₂) X.xe s₁) X.xe s := by
  refine thn (ha pins s σ H _ I h) fun v s1 ⟨x, H1, I1, r1, q1⟩ => ?_
  refine thn (hb pins s1 σ H1 _ I1 q1) fun u s2 ⟨y, H2, I2, r2, q2⟩ => ?_
  exact hf v u s2 x y H2 I2 r1 r2 q2
theorem pe_op {op : Operator} {r : R2} (ho : OpR X (binaryOp op) r) (ha : PE X a ta) (hb : PE X b tb) : PE X (.BinOp a op b pos) (tOp r ta tb) := by
  intro pins s σ H Q I h
  exact wpAny_BinOp (binT ha hb I h fun v u s2 x y H2 I2 rx ry q => ho pins s2 σ H2 x y v u Q I2 rx ry q)
theorem pe_un {op : UnaryOp} {r : V → Hp → VK → Prop} (ho : UnR X (unaryOp op) r) (ha : PE X a ta) : PE X (.UnaryOp op a pos) (tUn r ta) := by
  intro pins s σ H Q I h
  exact UnaryOp_ (thn (ha pins s σ H _ I h) fun v s1 ⟨x, H1, I1, r1, q1⟩ => ho pins s1 σ H1 x v Q I1 r1 q1)
theorem opI {f : Value → Value → Sem Value} {C : Int → Int → Prop} {g : Int → Int → Int}
    (rule : ∀ (i j : Int) (t u : Tok) (s : Shared) (Q : Value → Shared → Prop) (E : Value → Shared → Prop), C i j → Q (.int (g i j) s.toks) { s with toks := s.toks + 1 } → wpAny (model X.prog X.w) X.A (f (.int i t) (.int j u)) Q E s) :
    OpR X f (rI C fun i j => .int (g i j)) := by
  intro pins s σ H x y v u Q I rx ry h
  obtain ⟨i, j, rfl, rfl, hc, q⟩ := h
  obtain ⟨t, rfl⟩ := rx
  obtain ⟨t', rfl⟩ := ry
  exact rule i j t t' s _ _ hc ⟨.int (g i j), H, I.tok _, ⟨_, rfl⟩, q⟩
theorem opI0 {f : Value → Value → Sem Value} {g : Int → Int → Int}
    (rule : ∀ (i j : Int) (t u : Tok) (s : Shared) (Q : Value → Shared → Prop) (E : Value → Shared → Prop), Q (.int (g i j) s.toks) { s with toks := s.toks + 1 } → wpAny (model X.prog X.w) X.A (f (.int i t) (.int j u)) Q E s) :
    OpR X f (rI0 fun i j => .int (g i j)) := by
  intro pins s σ H x y v u Q I rx ry h
  obtain ⟨i, j, rfl, rfl, q⟩ := h
  obtain ⟨t, rfl⟩ := rx
  obtain ⟨t', rfl⟩ := ry
  exact rule i j t t' s _ _ ⟨.int (g i j), H, I.tok _, ⟨_, rfl⟩, q⟩
theorem opB0 {f : Value → Value → Sem Value} {g : Int → Int → Bool}
    (rule : ∀ (i j : Int) (t u : Tok) (s : Shared) (Q : Value → Shared → Prop) (E : Value → Shared → Prop), Q (.bool (g i j)) s → wpAny (model X.prog X.w) X.A (f (.int i t) (.int j u)) Q E s) :
    OpR X f (rI0 fun i j => .bl (g i j)) := by
  intro pins s σ H x y v u Q I rx ry h
  obtain ⟨i, j, rfl, rfl, q⟩ := h
  obtain ⟨t, rfl⟩ := rx
  obtain ⟨t', rfl⟩ := ry
  exact rule i j t t' s _ _ ⟨.bl (g i j), H, I, rfl, q⟩
def CDiv (i j : Int) : Prop := 0 < j ∧ j < 1073741824
def CPow (i j : Int) : Prop := 0 ≤ j ∧ j ≤ 1000000 ∧ i.natAbs < 2 ^ 64
def CMul (i j : Int) : Prop := (-(2 ^ 64) < i ∧ i < 2 ^ 64) ∨ (-(2 ^ 64) < j ∧ j < 2 ^ 64)
theorem CMul.ok {i j : Int} (h : CMul i j) : IntMulOk i j := by
  rcases h with ⟨h1, h2⟩ | ⟨h1, h2⟩
  · exact .of_left (intBits_le_64 h1 h2)
  · exact .of_right (intBits_le_64 h1 h2)
theorem op_add : OpR X (binaryOp .Add) (rI0 fun i j => .int (i + j)) := opI0 fun _ _ _ _ _ _ _ q => add_int q
theorem op_sub : OpR X (binaryOp .Sub) (rI0 fun i j => .int (i - j)) := opI0 fun _ _ _ _ _ _ _ q => sub_int q
theorem op_mul : OpR X (binaryOp .Mult) (rI CMul fun i j => .int (i * j)) := opI fun _ _ _ _ _ _ _ hc q => mul_int q hc.ok
theorem op_fdiv : OpR X (binaryOp .FloorDiv) (rI CDiv fun i j => .int (i / j)) := opI fun i j _ _ _ _ _ hc q => by
  have h1 : (0 : Int) < j := hc.1
  have h2 : j < 1073741824 := hc.2
  exact floordiv_int (by (first | lia | omega)) (by rw [Int.fdiv_eq_ediv_of_nonneg i (by (first | lia | omega))]; exact q) (.inl (PyProof.noPylong_small (by (first | lia | omega))))
theorem op_mod : OpR X (binaryOp .Mod) (rI (fun _ j => 0 < j) fun i j => .int (i % j)) := opI fun i j _ _ _ _ _ hc q => by
  have h1 : (0 : Int) < j := hc
  exact mod_int' (by (first | lia | omega)) (by rw [Int.fmod_eq_emod_of_nonneg i (by (first | lia | omega))]; exact q)
theorem op_pow : OpR X (binaryOp .Pow) (rI CPow fun i j => .int (i ^ j.toNat)) := opI fun _ _ _ _ _ _ _ hc q => pow_int_small hc.1 hc.2.1 hc.2.2 q
theorem unI {f : Value → Sem Value} {g : Int → Int}
    (rule : ∀ (i : Int) (t : Tok) (s : Shared) (Q : Value → Shared → Prop) (E : Value → Shared → Prop), Q (.int (g i) s.toks) { s with toks := s.toks + 1 } → wpAny (model X.prog X.w) X.A (f (.int i t)) Q E s) :
    UnR X f (rU fun i => .int (g i)) := by
  intro pins s σ H x v Q I rx h
  obtain ⟨i, rfl, q⟩ := h
  obtain ⟨t, rfl⟩ := rx
  exact rule i t s _ _ ⟨.int (g i), H, I.tok _, ⟨_, rfl⟩, q⟩
theorem un_neg : UnR X (unaryOp .USub) (rU fun i => .int (-i)) := unI fun _ _ _ _ _ q => neg_int q
end
def scal : V → V → Bool
  | .non, .non => true | .non, .int _ => true | .int _, .non => true | .non, .bl _ => true | .bl _, .non => true | .non, .str _ => true | .str _, .non => true
  | .int _, .int _ => true | .bl _, .bl _ => true | .str _, .str _ => true | .byt _, .byt _ => true
  | .int _, .str _ => true | .str _, .int _ => true | .bl _, .str _ => true | .str _, .bl _ => true
  | _, _ => false
def rEq : R2 := fun x y H Q => scal x y = true ∧ Q (.bl (decide (x = y))) H
def rNe : R2 := fun x y H Q => scal x y = true ∧ Q (.bl (!decide (x = y))) H
theorem dec_int {i j : Int} : decide (V.int i = V.int j) = (i == j) := by
  rw [Bool.eq_iff_iff]
  simp
theorem dec_bl {i j : Bool} : decide (V.bl i = V.bl j) = (i == j) := by
  rw [Bool.eq_iff_iff]
  simp
theorem dec_str {i j : Str} : decide (V.str i = V.str j) = (i == j) := by
  rw [Bool.eq_iff_iff]
  simp
theorem dec_byt {i j : Array UInt8} : decide (V.byt i = V.byt j) = (i.toList == j.toList) := by
  rw [Bool.eq_iff_iff]
  cases i
  cases j
  simp
section
variable {X : Cx} {a b c : Expr} {ta tb tc : TE} {pos : Pos}
theorem fin_bl {pins : List (Addr × Obj)} {σ : St} {H : Hp} {s : Shared} {Q : VK} {k k' : Bool} (I : Inv X pins σ H s) (q : Q (.bl k) H) (e : k = k') : EP X pins σ Q (.bool k') s := by
  subst e
  exact ⟨.bl k, H, I, rfl, q⟩
theorem op_eq : OpR X (compareOp .Eq) rEq := by
  intro pins s σ H x y v u Q I rx ry h
  obtain ⟨hs, q⟩ := h
  cases x with
  | non =>
    cases rx
    cases y with
    | non => cases ry; exact PySem.EqNone.eq_none_none (fin_bl I q (by simp))
    | bl j => cases ry; exact PySem.EqNone.eq_none_bool (fin_bl I q (by simp))
    | int j => obtain ⟨t', rfl⟩ := ry; exact PySem.EqNone.eq_none_int (fin_bl I q (by simp))
    | str j => obtain ⟨t', rfl⟩ := ry; exact PySem.EqNone.eq_none_str (fin_bl I q (by simp))
    | _ => exact absurd (show false = true from hs) Bool.false_ne_true
  | bl i =>
    cases rx
    cases y with
    | non => cases ry; exact PySem.EqNone.eq_bool_none (fin_bl I q (by simp))
    | bl j => cases ry; exact eq_bool (fin_bl I q dec_bl)
    | str j => obtain ⟨t', rfl⟩ := ry; exact PySem.EqMixed.eq_bool_str (fin_bl I q (by simp))
    | _ => exact absurd (show false = true from hs) Bool.false_ne_true
  | int i =>
    obtain ⟨t, rfl⟩ := rx
    cases y with
    | non => cases ry; exact PySem.EqNone.eq_int_none (fin_bl I q (by simp))
    | int j => obtain ⟨t', rfl⟩ := ry; exact eq_int (fin_bl I q dec_int)
    | str j => obtain ⟨t', rfl⟩ := ry; exact PySem.EqMixed.eq_int_str (fin_bl I q (by simp))
    | _ => exact absurd (show false = true from hs) Bool.false_ne_true
  | str i =>
    obtain ⟨t, rfl⟩ := rx
    cases y with
    | non => cases ry; exact PySem.EqNone.eq_str_none (fin_bl I q (by simp))
    | bl j => cases ry; exact PySem.EqMixed.eq_str_bool (fin_bl I q (by simp))
    | int j => obtain ⟨t', rfl⟩ := ry; exact PySem.EqMixed.eq_str_int (fin_bl I q (by simp))
    | str j => obtain ⟨t', rfl⟩ := ry; exact eq_str (fin_bl I q dec_str)
    | _ => exact absurd (show false = true from hs) Bool.false_ne_true
  | byt i =>
    obtain ⟨t, rfl⟩ := rx
    cases y with
    | byt j => obtain ⟨t', rfl⟩ := ry; exact PySem.W.eq_bytes (fin_bl I q dec_byt)
    | _ => exact absurd (show false = true from hs) Bool.false_ne_true
  | _ => cases y <;> exact absurd (show false = true from hs) Bool.false_ne_true
theorem op_ne : OpR X (compareOp .NotEq) rNe := by
  intro pins s σ H x y v u Q I rx ry h
  obtain ⟨hs, q⟩ := h
  cases x with
  | non =>
    cases rx
    cases y with
    | non => cases ry; exact PySem.EqNone.ne_none_none (fin_bl I q (by simp))
    | bl j => cases ry; exact PySem.EqNone.ne_none_bool (fin_bl I q (by simp))
    | int j => obtain ⟨t', rfl⟩ := ry; exact PySem.EqNone.ne_none_int (fin_bl I q (by simp))
    | str j => obtain ⟨t', rfl⟩ := ry; exact PySem.EqNone.ne_none_str (fin_bl I q (by simp))
    | _ => exact absurd (show false = true from hs) Bool.false_ne_true
  | bl i =>
    cases rx
    cases y with
    | non => cases ry; exact PySem.EqNone.ne_bool_none (fin_bl I q (by simp))
    | bl j => cases ry; exact ne_bool (fin_bl I q (congrArg not dec_bl))
    | str j => obtain ⟨t', rfl⟩ := ry; exact PySem.EqMixed.ne_bool_str (fin_bl I q (by simp))
    | _ => exact absurd (show false = true from hs) Bool.false_ne_true
  | int i =>
    obtain ⟨t, rfl⟩ := rx
    cases y with
    | non => cases ry; exact PySem.EqNone.ne_int_none (fin_bl I q (by simp))
    | int j => obtain ⟨t', rfl⟩ := ry; exact ne_int (fin_bl I q (congrArg not dec_int))
    | str j => obtain ⟨t', rfl⟩ := ry; exact PySem.EqMixed.ne_int_str (fin_bl I q (by simp))
    | _ => exact absurd (show false = true from hs) Bool.false_ne_true
  | str i =>
    obtain ⟨t, rfl⟩ := rx
    cases y with
    | non => cases ry; exact PySem.EqNone.ne_str_none (fin_bl I q (by simp))
    | bl j => cases ry; exact PySem.EqMixed.ne_str_bool (fin_bl I q (by simp))
    | int j => obtain ⟨t', rfl⟩ := ry; exact PySem.EqMixed.ne_str_int (fin_bl I q (by simp))
    | str j => obtain ⟨t', rfl⟩ := ry; exact ne_str (fin_bl I q (congrArg not dec_str))
    | _ => exact absurd (show false = true from hs) Bool.false_ne_true
  | byt i =>
    obtain ⟨t, rfl⟩ := rx
    cases y with
    | byt j => obtain ⟨t', rfl⟩ := ry; exact PySem.W.ne_bytes (fin_bl I q (congrArg not dec_byt))
    | _ => exact absurd (show false = true from hs) Bool.false_ne_true
  | _ => cases y <;> exact absurd (show false = true from hs) Bool.false_ne_true
theorem op_lt : OpR X (compareOp .Lt) (rI0 fun i j => .bl (decide (i < j))) := opB0 fun _ _ _ _ _ _ _ q => lt_int q
theorem op_le : OpR X (compareOp .LtE) (rI0 fun i j => .bl (decide (i ≤ j))) := opB0 fun _ _ _ _ _ _ _ q => le_int q
theorem op_ge : OpR X (compareOp .GtE) (rI0 fun i j => .bl (decide (j ≤ i))) := opB0 fun _ _ _ _ _ _ _ q => ge_int q
theorem op_in_str : OpR X (compareOp .In) (fun x y H Q => ∃ i j, x = .str i ∧ y = .str j ∧ Q (.bl (!(Builtin.Str.occurrences j i 0 j.length 1).isEmpty)) H) := by
  intro pins s σ H x y v u Q I rx ry h
  obtain ⟨i, j, rfl, rfl, q⟩ := h
  obtain ⟨t, rfl⟩ := rx
  obtain ⟨t', rfl⟩ := ry
  exact in_str (fin_bl I q rfl)
theorem nomark (b : Expr) {op : CmpOp} (h : op ≠ .In := by decide) (h2 : op ≠ .NotIn := by decide) : behindInMarks op b = false := by
  have e1 : (op == CmpOp.In) = false := by cases op <;> first | rfl | exact absurd rfl h
  have e2 : (op == CmpOp.NotIn) = false := by cases op <;> first | rfl | exact absurd rfl h2
  cases b <;> simp [behindInMarks, e1, e2]
theorem pe_cmpR {op : CmpOp} {r : R2} (ho : OpR X (compareOp op) r) (ha : PE X a ta) (hb : PE X b tb) (hm : behindInMarks op b = false) : PE X (.Compare a [op] [b] pos) (tOp r ta tb) := by
  intro pins s σ H Q I h
  exact wpAny_Compare1 (binT ha hb I h fun v u s2 x y H2 I2 rx ry q => ho pins s2 σ H2 x y v u Q I2 rx ry q) hm
def tTest (t : TE) : TT := fun σ H Q => t σ H fun x H' => ∃ k, x = .bl k ∧ Q k H'
theorem pt_cmpR {op : CmpOp} {r : R2} (ho : OpR X (compareOp op) r) (ha : PE X a ta) (hb : PE X b tb) (hm : behindInMarks op b = false) : PT X (.Compare a [op] [b] pos) (tTest (tOp r ta tb)) := by
  intro pins s σ H Q I h
  refine wpAny_isTrue_Compare1 (thn (ha pins s σ H _ I h) fun v s1 ⟨x, H1, I1, r1, q1⟩ => thn (hb pins s1 σ H1 _ I1 q1) fun u s2 ⟨y, H2, I2, r2, q2⟩ =>
    thn (ho pins s2 σ H2 x y v u _ I2 r1 r2 q2) fun c s3 ⟨z, H3, I3, r3, k, e, q3⟩ => ?_) hm
  subst e
  cases r3
  exact wpAny_truthy_bool ⟨H3, I3, q3⟩
def tChain (r r' : R2) (ta tb tc : TE) : TE := fun σ H Q => ta σ H fun x H1 => tb σ H1 fun y H2 => r x y H2 fun z H3 => ∃ k, z = .bl k ∧
  (if k = true then tc σ H3 fun w' H4 => r' y w' H4 Q else Q (.bl false) H3)
theorem pe_chain {op op' : CmpOp} {r r' : R2} (ho : OpR X (compareOp op) r) (ho' : OpR X (compareOp op') r') (ha : PE X a ta) (hb : PE X b tb) (hc : PE X c tc)
    (hm : lastMarks [op, op'] [b, c] = false := by with_unfolding_all rfl) : PE X (.Compare a [op, op'] [b, c] pos) (tChain r r' ta tb tc) := by
  intro pins s σ H Q I h
  refine Compare_chain (thn (ha pins s σ H _ I h) fun v s1 ⟨x, H1, I1, r1, q1⟩ => chain_link (thn (hb pins s1 σ H1 _ I1 q1) fun u s2 ⟨y, H2, I2, r2, q2⟩ =>
    thn (ho pins s2 σ H2 x y v u _ I2 r1 r2 q2) fun d s3 ⟨z, H3, I3, r3, k, e, q3⟩ => ?_)) hm
  subst e
  cases r3
  refine wpAny_truthy_bool ?_
  cases k with
  | false => exact ite_ff ⟨.bl false, H3, I3, rfl, q3⟩
  | true => exact ite_tt (chain_last (thn (hc pins s3 σ H3 _ I3 q3) fun w' s4 ⟨z', H4, I4, r4, q4⟩ => ho' pins s4 σ H4 y z' u w' Q I4 r2 r4 q4))
theorem pt_chain {op op' : CmpOp} {r r' : R2} (ho : OpR X (compareOp op) r) (ho' : OpR X (compareOp op') r') (ha : PE X a ta) (hb : PE X b tb) (hc : PE X c tc)
    (hm : lastMarks [op, op'] [b, c] = false := by with_unfolding_all rfl) : PT X (.Compare a [op, op'] [b, c] pos) (tTest (tChain r r' ta tb tc)) := by
  intro pins s σ H Q I h
  refine isTrue_chain (thn (ha pins s σ H _ I h) fun v s1 ⟨x, H1, I1, r1, q1⟩ => test_link (thn (hb pins s1 σ H1 _ I1 q1) fun u s2 ⟨y, H2, I2, r2, q2⟩ =>
    thn (ho pins s2 σ H2 x y v u _ I2 r1 r2 q2) fun d s3 ⟨z, H3, I3, r3, k, e, q3⟩ => ?_)) hm
  subst e
  cases r3
  refine wpAny_truthy_bool ?_
  cases k with
  | false =>
    obtain ⟨k', e', q'⟩ := q3
    cases e'
    exact ite_ff ⟨H3, I3, q'⟩
  | true =>
    refine ite_tt (test_last (thn (hc pins s3 σ H3 _ I3 q3) fun w' s4 ⟨z', H4, I4, r4, q4⟩ => thn (ho' pins s4 σ H4 y z' u w' _ I4 r2 r4 q4) fun d' s5 ⟨z2, H5, I5, r5, k2, e2, q5⟩ => ?_))
    subst e2
    cases r5
    exact wpAny_truthy_bool ⟨H5, I5, q5⟩
def TruV (K : PySem.W.Frag) (x : V) (H : Hp) (k : Bool) : Prop :=
  match x with
  | .non => k = false
  | .bl b => k = b
  | .int i => k = (i != 0)
  | .str y => y.length ≤ sizeLine ∧ k = ((y.length : Int) != 0)
  | .byt y => y.size ≤ sizeLine ∧ k = ((y.size : Int) != 0)
  | .ref p => (∃ xs, SqL K H p xs ∧ k = !xs.isEmpty) ∨ (∃ xs, SqT K H p xs ∧ k = !xs.isEmpty) ∨ ∃ kvs, H p = some (.dK kvs) ∧ k = !kvs.isEmpty
  | _ => False
theorem isEmpty_kv {κ : Type} {kvs : List (κ × V)} {vs : List (κ × Value)} (r : KV kvs vs) : (!vs.isEmpty) = !kvs.isEmpty := by
  cases r <;> rfl
theorem isEmpty_of {xs : List V} {its : List Value} (r : Vals xs its) : (!its.toArray.isEmpty) = !xs.isEmpty := by
  cases r <;> simp
theorem line63 : (sizeLine : Nat) < 2 ^ 63 := by rw [sizeLine_eq]; decide
theorem tru_ok : TruR X (fun x H Q => ∃ k, TruV X.K x H k ∧ Q k H) := by
  intro pins s σ H x v Q I rx h
  obtain ⟨k, e, q⟩ := h
  have hl := line63
  have hs : sizeLine = 16777216 := sizeLine_eq
  cases x with
  | non =>
    cases rx
    have e' : k = false := e
    subst e'
    exact truthy_none ⟨H, I, q⟩
  | bl b =>
    cases rx
    have e' : k = b := e
    subst e'
    exact wpAny_truthy_bool ⟨H, I, q⟩
  | int i =>
    obtain ⟨t, rfl⟩ := rx
    have e' : k = (i != 0) := e
    subst e'
    exact PySem.P.truthy_int ⟨H, I, q⟩
  | str y =>
    obtain ⟨t, rfl⟩ := rx
    obtain ⟨hy, e'⟩ : y.length ≤ sizeLine ∧ k = ((y.length : Int) != 0) := e
    subst e'
    exact PySem.P.truthy_str (by (first | lia | omega)) ⟨H, I.tok _, q⟩
  | byt y =>
    obtain ⟨t, rfl⟩ := rx
    obtain ⟨hy, e'⟩ : y.size ≤ sizeLine ∧ k = ((y.size : Int) != 0) := e
    subst e'
    exact PySem.W.truthy_bytes (by (first | lia | omega)) ⟨H, I.tok _, q⟩
  | ref p =>
    cases rx
    have e' : (∃ xs, SqL X.K H p xs ∧ k = !xs.isEmpty) ∨ (∃ xs, SqT X.K H p xs ∧ k = !xs.isEmpty) ∨ ∃ kvs, H p = some (.dK kvs) ∧ k = !kvs.isEmpty := e
    rcases e' with ⟨xs, hx, e'⟩ | ⟨xs, hx, e'⟩ | ⟨kvs, hx, e'⟩
    · subst e'
      obtain ⟨its, r, pl, hz⟩ := I.list hx
      have hlen := r.length
      exact wpAny_truthy_list pl.isList (by simp only [List.size_toArray]; (first | lia | omega)) ⟨H, I.tok _, by rw [isEmpty_of r]; exact q⟩
    · subst e'
      obtain ⟨its, r, pl, hz⟩ := I.tuple hx
      have hlen := r.length
      exact truthy_tuple pl (by simp only [List.size_toArray]; (first | lia | omega)) ⟨H, I.tok _, by rw [isEmpty_of r]; exact q⟩
    · subst e'
      obtain ⟨hz, hS, vs, r, m⟩ : kvs.length ≤ sizeLine ∧ (p == sysModules) = false ∧ ∃ vs, KV kvs vs ∧ s.heap.DictOf (mixKind X.prog X.w) p vs := I.hok p _ hx
      have hlen : kvs.length = vs.length := Paired.length r
      exact wpAny_truthy_dict hS m (by (first | lia | omega)) ⟨H, I.tok _, by rw [isEmpty_kv r]; exact q⟩
  | _ => exact (show False from e).elim
theorem op_add_str : OpR X (binaryOp .Add) (fun x y H Q => ∃ i j, x = .str i ∧ y = .str j ∧ i.length + j.length ≤ sizeLine ∧ Q (.str (i ++ j)) H) := by
  intro pins s σ H x y v u Q I rx ry h
  obtain ⟨i, j, rfl, rfl, hz, q⟩ := h
  obtain ⟨t, rfl⟩ := rx
  obtain ⟨t', rfl⟩ := ry
  exact add_str (fun t' tk => ⟨.str (i ++ j), H, I.tok _, ⟨_, rfl⟩, q⟩) hz
theorem vals1 {x : V} {us : List Value} (r : Vals [x] us) : ∃ u, us = [u] ∧ RelV x u := by
  cases r with
  | cons r1 r2 => cases r2; exact ⟨_, rfl, r1⟩
theorem vals2 {x y : V} {us : List Value} (r : Vals [x, y] us) : ∃ u w', us = [u, w'] ∧ RelV x u ∧ RelV y w' := by
  cases r with
  | cons r1 r2 =>
    cases r2 with
    | cons r3 r4 => cases r4; exact ⟨_, _, rfl, r1, r3⟩
theorem call_max2 (hc : X.calm = true) : CallR X (.builtin "max") (fun xs H Q => ∃ i j, xs = [.int i, .int j] ∧ Q (.int (if j > i then j else i)) H) := by
  intro pins s σ H xs us Q I r h
  obtain ⟨i, j, rfl, q⟩ := h
  obtain ⟨u, w', rfl, ⟨t, rfl⟩, ⟨t', rfl⟩⟩ := vals2 r
  refine max_two_ints (I.ok.hd hc) fun h' tk k => ⟨_, H, I.kept k, ?_, q⟩
  by_cases hj : j > i
  · rw [if_pos hj, if_pos hj]; exact ⟨_, rfl⟩
  · rw [if_neg hj, if_neg hj]; exact ⟨_, rfl⟩
theorem call_min2 (hc : X.calm = true) : CallR X (.builtin "min") (fun xs H Q => ∃ i j, xs = [.int i, .int j] ∧ Q (.int (if j < i then j else i)) H) := by
  intro pins s σ H xs us Q I r h
  obtain ⟨i, j, rfl, q⟩ := h
  obtain ⟨u, w', rfl, ⟨t, rfl⟩, ⟨t', rfl⟩⟩ := vals2 r
  refine min_two_ints (I.ok.hd hc) fun h' tk k => ⟨_, H, I.kept k, ?_, q⟩
  by_cases hj : j < i
  · rw [if_pos hj, if_pos hj]; exact ⟨_, rfl⟩
  · rw [if_neg hj, if_neg hj]; exact ⟨_, rfl⟩
end
end L2
namespace L2
open PySem PySem.Spec PyProof.Rows
structure ObjM (h : Heap) (x dx C : Addr) (mA : Str → Option Value) : Prop where
  obj : h.get? x = some (PySem.W.instObj C dx)
  ns : h.Ns1 dx mA
  ne : dx ≠ x
theorem lookIn_ns {h : Heap} {dx : Addr} {mA : Str → Option Value} (n : h.Ns1 dx mA) : ∃ od, h.get? dx = some od ∧ ∀ name, PySem.W.lookIn name od = some (mA name) := by
  obtain ⟨o, es, ep, ho, hd, hk, _, hm⟩ := n
  refine ⟨o, ho, fun name => ?_⟩
  have e := hm name
  unfold nsFind findBy at e
  rw [← Array.find?_toList] at e
  unfold PySem.W.lookIn
  rw [hd]
  dsimp only
  split
  · rename_i y q
    rw [q] at e
    exact congrArg some e
  · rename_i q
    rw [q] at e
    have a : es.toList.any (·.refKey) = false := by
      rw [List.any_eq_false]
      intro y hy
      obtain ⟨z, t, hkey⟩ := hk y (Array.mem_toList_iff.mp hy)
      simp [DictEntry.refKey, hkey]
    have a' : ¬ es.toList.any (·.refKey) = true := by rw [a]; exact Bool.false_ne_true
    rw [if_neg a']
    exact congrArg some e
theorem ObjM.look {h : Heap} {x dx C : Addr} {mA : Str → Option Value} (I : ObjM h x dx C mA) : ∃ od, PySem.W.InstAt h x (PySem.W.instObj C dx) C (some od) ∧ ∀ name, PySem.W.lookIn name od = some (mA name) :=
  let ⟨od, ho, hl⟩ := lookIn_ns I.ns
  ⟨od, ⟨I.obj, rfl, rfl, ho⟩, hl⟩
section
variable {prog : Program} {w : World} {A : Around} {E : Value → Shared → Prop} {s : Shared} {K : PySem.W.Frag} {x dx C f : Addr} {mA : Str → Option Value} {name : Str} {v : Value}
end
theorem RelO.some_of {v : V} {o : Option Value} (r : RelO (some v) o) : ∃ u, o = some u ∧ RelV v u := by
  cases o with
  | none => exact (show False from r).elim
  | some u => exact ⟨u, rfl, r⟩
section
variable {P : Program} {w : World} {H H' : Hp} {h h' : Heap} {a C dx : Addr} {fs fs' : List (Str × V)}
theorem ins_get (hok : HOk P w H h) (e : H a = some (.ins C dx fs)) : ∃ mA, ObjM h a dx C mA ∧ (∀ f, RelO (fs.lookup f) (mA f)) ∧ PySem.Within mA (fs.map (·.1)) ∧ fs.length ≤ 1000 ∧ H dx = some (.own a) := by
  obtain ⟨d, z, ne, ob, mA, n, r, q⟩ := (show ObjOk P w H h a (.ins C dx fs) from hok a _ e)
  exact ⟨mA, ⟨ob, n, ne⟩, r, q, z, d⟩
end
structure Cls (K : PySem.W.Frag) (C : Addr) : Prop where
  pg : PySem.W.plainGet K C Str.empty = true
  hd : PySem.W.hasDictIn K C = true
  po : PySem.W.plainOver K C = true
  sa : PySem.W.findIn K (.ref C) "__setattr__" = some (some (.builtin "object.__setattr__"))
theorem Cls.get {K : PySem.W.Frag} {C : Addr} (c : Cls K C) (f : Str) : PySem.W.plainGet K C f = true := c.pg
section
variable {X : Cx} {pins : List (Addr × Obj)} {σ : St} {H : Hp} {s : Shared} {a C dx : Addr} {fs : List (Str × V)} {f : Str} {v : V} {A : Around} {E : Value → Shared → Prop}
end
section
variable {X : Cx} {o e value : Expr} {f : Str} {pos pos' tpos : Pos} {ta tv : TE}
end
section
variable {X : Cx} {pins : List (Addr × Obj)} {σ : St} {H : Hp} {s : Shared} {A : Around} {E : Value → Shared → Prop} {Q : Value → Shared → Prop} {c : Value} {b : Bool}
inductive TyOf (K : PySem.W.Frag) (H : Hp) : V → Value → Prop where
  | non : TyOf K H .non (.type "NoneType")
  | bl (x : Bool) : TyOf K H (.bl x) (.type "bool")
  | int (i : Int) : TyOf K H (.int i) (.type "int")
  | str (x : Str) : TyOf K H (.str x) (.type "str")
  | flt (x : UInt64) : TyOf K H (.flt x) (.type "float")
  | lst {a : Addr} {xs : List V} (e : H a = some (.lst xs)) : TyOf K H (.ref a) (.type "list")
  | frz {a : Addr} {o : Obj} {xs : List V} (e : H a = some (.frz o (.lst xs))) : TyOf K H (.ref a) (.type "list")
  | tup {a : Addr} {xs : List V} (e : H a = some (.tup xs)) : TyOf K H (.ref a) (.type "tuple")
  | dK {a : Addr} {kvs : List (Key × V)} (e : H a = some (.dK kvs)) : TyOf K H (.ref a) (.type "dict")
  | dT {a : Addr} {kvs : List (List Key × V)} (e : H a = some (.dT kvs)) : TyOf K H (.ref a) (.type "dict")
  | ins {a C dx : Addr} {fs : List (Str × V)} (e : H a = some (.ins C dx fs)) (cl : Cls K C) (ha : PySem.W.findIn K (.ref C) "__class__" = some (some (.builtin "object.__class__")))
      (hn : PySem.W.specialIn K (.builtin "object.__class__") "__get__" = some (some (.builtin "getset_descriptor.__get__"))) (htk : PySem.W.takesIn K (.builtin "object.__class__") = some true)
      (hm : PySem.W.mroIn K C (.type "object") = some true) : TyOf K H (.ref a) (.ref C)
theorem isinst_ok {x : V} {u t : Value} (I : Inv X pins σ H s) (rx : RelV x u) (ty : TyOf X.K H x t) (e : PySem.W.kitOne X.K t c = some b) (h : ∀ tk, Q (.bool b) { s with toks := tk }) :
    wpAny (model X.prog X.w) A (call (.builtin "isinstance") [u, c]) Q E s := by
  cases ty with
  | non => cases (show u = Value.none from rx); exact PySem.W.kia_one PySem.W.kitx_none I.kIn True.intro e (fun z => nomatch z) h
  | bl y => cases (show u = Value.bool y from rx); exact PySem.W.kia_one PySem.W.kitx_bool I.kIn True.intro e (fun z => nomatch z) h
  | int i => obtain ⟨t, q⟩ := (show ∃ t, u = Value.int i t from rx); cases q; exact PySem.W.kia_one PySem.W.kitx_int I.kIn True.intro e (fun z => nomatch z) h
  | str y => obtain ⟨t, q⟩ := (show ∃ t, u = Value.str y t from rx); cases q; exact PySem.W.kia_one PySem.W.kitx_str I.kIn True.intro e (fun z => nomatch z) h
  | flt y => obtain ⟨t, q⟩ := (show ∃ t, u = Value.float y t from rx); cases q; exact PySem.W.kia_one PySem.W.kitx_float I.kIn True.intro e (fun z => nomatch z) h
  | @lst a xs ea =>
    cases (show u = Value.ref a from rx)
    obtain ⟨_, _, n, _, h1⟩ := (show ObjOk X.prog X.w H s.heap a (.lst xs) from I.hok a _ ea)
    exact PySem.W.kia_one PySem.W.kitx_list I.kIn ⟨_, h1, rfl⟩ e (fun z => nomatch z) h
  | @frz a ob xs ea =>
    cases (show u = Value.ref a from rx)
    obtain ⟨_, _, _, n, _, h1⟩ := (show ObjOk X.prog X.w H s.heap a (.frz ob (.lst xs)) from I.hok a _ ea)
    exact PySem.W.kia_one PySem.W.kitx_list I.kIn ⟨_, h1, rfl⟩ e (fun z => nomatch z) h
  | @tup a xs ea =>
    cases (show u = Value.ref a from rx)
    obtain ⟨_, _, _, p⟩ := (show ObjOk X.prog X.w H s.heap a (.tup xs) from I.hok a _ ea)
    obtain ⟨o, h1, h2, _⟩ := p
    exact PySem.W.kia_one PySem.W.kitx_tuple I.kIn ⟨o, h1, h2⟩ e (fun z => nomatch z) h
  | @dK a kvs ea =>
    cases (show u = Value.ref a from rx)
    obtain ⟨_, _, vs, _, p⟩ := (show ObjOk X.prog X.w H s.heap a (.dK kvs) from I.hok a _ ea)
    obtain ⟨o, es, ep, h1, h2, _⟩ := p
    exact PySem.W.kia_one PySem.W.kitx_dict I.kIn ⟨o, h1, h2.1⟩ e (fun z => nomatch z) h
  | @dT a kvs ea =>
    cases (show u = Value.ref a from rx)
    obtain ⟨_, _, xs, _, o, es, ep, h1, h2, _⟩ := (show ObjOk X.prog X.w H s.heap a (.dT kvs) from I.hok a _ ea)
    exact PySem.W.kia_one PySem.W.kitx_dict I.kIn ⟨o, h1, h2.1⟩ e (fun z => nomatch z) h
  | @ins a C dx fs ea cl ha hn htk hm =>
    cases (show u = Value.ref a from rx)
    obtain ⟨mA, O, _⟩ := ins_get I.hok ea
    obtain ⟨od, J, _⟩ := O.look
    exact PySem.W.kia_one (PySem.W.kitx_own (cl.get _) cl.hd ha hn htk hm) I.kIn J e (fun z => nomatch z) h
end
end L2
namespace L2
open PySem PySem.Spec PyProof.Rows
structure Room (k : Nat) (A : Around) : Prop where
  hd : A.handled = none
  dp : A.depth + 3 * k + 5 < recursionLimit
  un : A.units + 16 * k + 200 < cLine
theorem Room.mono {j k : Nat} {A : Around} (r : Room k A) (h : j ≤ k) : Room j A := ⟨r.hd, by have := r.dp; (first | lia | omega), by have := r.un; (first | lia | omega)⟩
theorem Room.deeper {k : Nat} {A : Around} (r : Room (k + 1) A) (env : Env) : Room k (A.deeper env) :=
  ⟨r.hd, by have := r.dp; show A.depth + 1 + 3 * k + 5 < _; (first | lia | omega), by have := r.un; show A.units + 3 + 16 * k + 200 < _; (first | lia | omega)⟩
theorem Room.depth {k : Nat} {A : Around} (r : Room k A) : A.depth < recursionLimit := by have := r.dp; (first | lia | omega)
theorem Room.units {k : Nat} {A : Around} (r : Room k A) : A.units + 64 < cLine := by have := r.un; (first | lia | omega)
def tNil : TA := fun _ H Q => Q [] H
def tCons (ta : TE) (tr : TA) : TA := fun σ H Q => ta σ H fun x H1 => tr σ H1 fun xs H2 => Q (x :: xs) H2
section
variable {X : Cx} {e : Expr} {es : List Expr} {te : TE} {t : TA} {pos : Pos}
theorem pa_nil : PA X [] tNil := fun _ _ _ _ H Q I h => Calls.spliced_nil ⟨[], H, I, .nil, h⟩
theorem pa_cons (ha : PE X e te) (hr : PA X es t) (hs : starEach (e :: es) X.env = (false, eval e X.env) :: starEach es X.env := by rfl) : PA X (e :: es) (tCons te t) := by
  intro pos pins s σ H Q I h
  rw [hs]
  show wpAny _ _ (spliced ((false, eval e X.env) :: backTo pos (starEach es X.env))) _ _ s
  refine Calls.spliced_cons (thn (ha pins s σ H _ I h) fun u s1 ⟨x, H1, I1, r1, q1⟩ => ?_)
  exact thn (hr pos pins s1 σ H1 _ I1 q1) fun us s2 ⟨xs, H2, I2, r2, q2⟩ => ⟨x :: xs, H2, I2, .cons r1 r2, q2⟩
def tTup (t : TA) : TE := fun σ H Q => t σ H fun xs H1 => xs.length ≤ sizeLine ∧ ∀ p, H1 p = none → Q (.ref p) (upd H1 p (.tup xs))
def tLst (t : TA) : TE := fun σ H Q => t σ H fun xs H1 => xs.length ≤ sizeLine ∧ ∀ p, H1 p = none → Q (.ref p) (upd H1 p (.lst xs))
theorem pe_tup {x1} (h : PA X es t) : PE X (.Tuple es x1 pos) (tTup t) := by
  intro pins s σ H Q I hq
  refine wpAny_Tuple_spliced (thn (h pos pins s σ H _ I hq) fun us s1 ⟨xs, H1, I1, r, z, q⟩ => ⟨by rw [← r.length]; exact z, ?_⟩)
  have hf : H1 s1.heap.objs.size = none := I1.hok.fresh (Nat.le_refl _)
  refine ⟨.ref s1.heap.objs.size, upd H1 s1.heap.objs.size (.tup xs), I1.laid (t' := s1.toks) (fun b u e => Heap.get?_push_of_some _ e) (Nat.le_refl _) ?_, rfl, q _ hf⟩
  exact ⟨z, us, r, ⟨_, Heap.get?_push_size _ rfl, rfl, _, rfl⟩⟩
theorem pe_lst (h : PA X es t) : PE X (.List es pos) (tLst t) := by
  intro pins s σ H Q I hq
  refine wpAny_List_spliced (thn (h pos pins s σ H _ I hq) fun us s1 ⟨xs, H1, I1, r, z, q⟩ => ⟨by rw [← r.length]; exact z, ?_⟩)
  have hf : H1 s1.heap.objs.size = none := I1.hok.fresh (Nat.le_refl _)
  refine ⟨.ref s1.heap.objs.size, upd H1 s1.heap.objs.size (.lst xs), I1.laid (t' := s1.toks) (fun b u e => Heap.get?_push_of_some _ e) (Nat.le_refl _) ?_, rfl, q _ hf⟩
  exact ⟨z, us, 0, r, Heap.get?_push_size _ rfl⟩
end
abbrev Sp := List V → Hp → VK → XK → Prop
abbrev CXT := List Env → Hp → Shared → XK → Value → Shared → Prop
structure Env0 (P : Program) (w : World) (K : PySem.W.Frag) (mg : Str → Option Value) (base : Heap) (A : Around) (outer : List Env) (s : Shared) (H : Hp) : Prop where
  frames : A.frames = some outer
  mod : Mod K mg base
  bs : ∀ b o, base.get? b = some o → s.heap.get? b = some o ∧ H b = none
  bsz : base.objs.size ≤ s.heap.objs.size
  funs : s.heap.FunFrames base outer
  frf : ∀ b ∈ frs outer, H b = none
  hok : HOk P w H s.heap
  bare : AllBare s.gens
def CE (outer : List Env) (P : Program) (w : World) (H : Hp) (s : Shared) (Q : VK) (u : Value) (s' : Shared) : Prop :=
  ∃ v H', s'.os = s.os ∧ AllBare s'.gens ∧ Un (frs outer) [] H H' s.heap s'.heap ∧ HOk P w H' s'.heap ∧ RelV v u ∧ Q v H'
def CR (CX : CXT) (outer : List Env) (P : Program) (w : World) (H : Hp) (s : Shared) (Q : VK) (E : XK) (r : Result) (s' : Shared) : Prop :=
  match r with
  | .ok (.ret u) => CE outer P w H s Q u s'
  | .ok _ => False
  | .error e => CX outer H s E e s'
structure FnOk (P : Program) (w : World) (K : PySem.W.Frag) (mg : Str → Option Value) (base : Heap) (CX : CXT) (k : Nat) (f : Addr) (fd : FuncData) (ps : List Str) (sp : Sp) : Prop where
  len : ∀ vs H Q E, sp vs H Q E → vs.length = ps.length
  run : ∀ (A : Around) (outer : List Env) (s : Shared) (H : Hp) (args : Args) (us : List Value) (vs : List V) (Q : VK) (E : XK), Room k A → Env0 P w K mg base A outer s H → BindsTo s fd args (ps.zip us) → Vals vs us → sp vs H Q E →
    codeAny (model P w) A (.call (.ref f) args) (CR CX outer P w H s Q E) s
section
variable {X : Cx} {pins : List (Addr × Obj)} {σ : St} {H : Hp} {s s' : Shared}
theorem Inv.env0 (I : Inv X pins σ H s) : Env0 X.prog X.w X.K X.mg X.base X.A X.stack s H :=
  ⟨I.ok.frames, I.ok.mod, I.bs, Nat.le_trans I.ok.bsz I.sz, I.stack, I.stkFree, I.hok, I.bare⟩
theorem Inv.after {Q : VK} {u : Value} (I : Inv X pins σ H s) (h : CE X.stack X.prog X.w H s Q u s') : EP X pins σ Q u s' := by
  obtain ⟨v, H', os, bare, un, hok, r, q⟩ := h
  obtain ⟨hh, g, d, t, os'⟩ := s'
  obtain rfl : os' = s.os := os
  exact ⟨v, H', I.call (h' := hh) (g' := g) (d' := d) (t' := t) (ch := []) un hok bare (fun b z => absurd z (by simp)), r, q⟩
end
def tCall (sp : Sp) (dvs : List V) (E : XK) (t : TA) : TE := fun σ H Q => t σ H fun vs H1 => sp (vs ++ dvs) H1 Q E
def Binds (K : PySem.W.Frag) (fd : FuncData) (ps : List Str) (ds : List Value) : Prop :=
  ∀ (s : Shared) (us : List Value), K.In s.heap → (us ++ ds).length = ps.length → BindsTo s fd ⟨us, []⟩ (ps.zip (us ++ ds))
theorem Binds.all {K : PySem.W.Frag} {fd : FuncData} {ps : List Str} (h : ∀ us : List Value, us.length = ps.length → bindArgs fd ⟨us, []⟩ = pure (ps.zip us)) : Binds K fd ps [] := fun s us _ hl => by
  rw [List.append_nil] at hl ⊢
  exact .of_eq (h us hl)
def Passes (CX : CXT) (X : Cx) (E : XK) : Prop := ∀ (pins : List (Addr × Obj)) (σ : St) (H : Hp) (s : Shared) (e : Value) (s' : Shared), Inv X pins σ H s → CX X.stack H s E e s' → X.xe e s'
section
variable {X : Cx} {CX : CXT} {k : Nat} {f C : Addr} {fd : FuncData} {ps : List Str} {sp : Sp} {dvs : List V} {ds : List Value} {E : XK} {x m : Str} {p pos apos : Pos} {e o : Expr} {es : List Expr} {ta : TE} {t : TA}
theorem run_fn {pins : List (Addr × Obj)} {σ : St} {H : Hp} {s : Shared} {Q : VK} {us : List Value} {vs : List V} (F : FnOk X.prog X.w X.K X.mg X.base CX k f fd ps sp) (hr : Room k X.A) (hb : Binds X.K fd ps ds) (hd : Vals dvs ds) (hx : Passes CX X E)
    (I : Inv X pins σ H s) (r : Vals vs us) (h : sp (vs ++ dvs) H Q E) : wpAny (model X.prog X.w) X.A (call (.ref f) us) (EP X pins σ Q) X.xe s := by
  have r2 : Vals (vs ++ dvs) (us ++ ds) := r.append hd
  have hl : (us ++ ds).length = ps.length := by rw [← r2.length]; exact F.len _ _ _ _ h
  refine wpAny_call (codeAny_mono (F.run X.A X.stack s H ⟨us, []⟩ (us ++ ds) (vs ++ dvs) Q E hr I.env0 (hb s us I.kIn hl) r2 h) fun r s' hq => ?_)
  cases r with
  | error e => exact hx pins σ H s e s' I hq
  | ok fl =>
    cases fl with
    | ret u => exact I.after hq
    | next => exact False.elim hq
    | brk => exact False.elim hq
    | cont => exact False.elim hq
theorem pe_call (F : FnOk X.prog X.w X.K X.mg X.base CX k f fd ps sp) (hr : Room k X.A) (hg : Gl X x) (hm : X.mg x = some (.ref f)) (hk : PySem.W.keepIn X.K (.ref f) = true) (hb : Binds X.K fd ps ds) (hd : Vals dvs ds) (hx : Passes CX X E)
    (ha : PA X (e :: es) t) (hdb : (x == ("__debug__" : Str)) = false := by decide) (he : starEach (e :: es) X.env = (false, eval e X.env) :: starEach es X.env := by rfl) (hpl : (backTo pos (starEach es X.env)).any (·.1) = false := by rfl) :
    PE X (.Call (.Name x p) (e :: es) [] pos) (tCall sp dvs E t) := by
  intro pins s σ H Q I h
  refine wpAny_Call_Name_kw (ld_glob I hg hm ?_ hdb)
  refine PySem.W.callWith_K (h₀ := X.base) I.ok.mod.kin hk (thn (ha pos pins s σ H _ I h) fun us s1 ⟨vs, H1, I1, r, q⟩ => ⟨I1.kIn, ?_⟩) he hpl
  exact run_fn F hr hb hd hx I1 r q
end
section
variable {X : Cx} {CX : CXT} {k : Nat} {f C : Addr} {fd : FuncData} {ps ks : List Str} {sp : Sp} {E : XK} {x m : Str} {p pos apos kpos : Pos} {e o : Expr} {es : List Expr} {kws : List Keyword} {te ta : TE} {t tk : TA} {nm : Option Str}
variable {g : List Value → List Value → List Value} {gV : List V → List V → List V}
end
structure FnScope (N P : List Str) (sc : Scope) : Prop where
  kind : sc.kind = .function
  co : sc.isCoroutine = false
  gen : sc.isGenerator = false
  nd : N.Nodup
  pre : N.take P.length = P
  par : ∀ x ∈ P, sc.names.lookup x = some .local ∨ sc.names.lookup x = some .cell
  nofree : ∀ y ∈ sc.names, y.2 ≠ .free
theorem bindL_out {kindOf : Str → Option NameKind} {x : Str} : ∀ {binds : List (Str × Value)} {m : Str → Option Value}, (∀ v, (x, v) ∉ binds) → bindL kindOf binds m x = m x
  | [], _, _ => rfl
  | (n, v) :: r, m, h => by
    unfold bindL
    rw [bindL_out fun w hw => h w (List.mem_cons_of_mem _ hw)]
    split
    · have : x ≠ n := by rintro rfl; exact h v List.mem_cons_self
      simp [this]
    · rfl
theorem bindC_out {kindOf : Str → Option NameKind} {x : Str} : ∀ {binds : List (Str × Value)} {m : Str → Option Value}, (∀ v, (x, v) ∉ binds) → bindC kindOf binds m x = m x
  | [], _, _ => rfl
  | (n, v) :: r, m, h => by
    unfold bindC
    rw [bindC_out fun w hw => h w (List.mem_cons_of_mem _ hw)]
    split
    · rfl
    · have : x ≠ n := by rintro rfl; exact h v List.mem_cons_self
      simp [this]
theorem bindL_get {kindOf : Str → Option NameKind} {x : Str} {v : Value} : ∀ {P : List Str} {vs : List Value} {i : Nat} {m : Str → Option Value}, P.Nodup → P[i]? = some x → vs[i]? = some v → kindOf x = some .local →
    bindL kindOf (P.zip vs) m x = some v
  | [], _, _, _, _, h, _, _ => by simp at h
  | _ :: _, [], _, _, _, _, h, _ => by simp at h
  | p :: P, w :: vs, 0, m, nd, h1, h2, hk => by
    simp at h1 h2; subst h1; subst h2
    show bindL kindOf ((p, w) :: P.zip vs) m p = _
    unfold bindL
    rw [bindL_out fun v hv => (List.nodup_cons.mp nd).1 (List.of_mem_zip hv).1, if_pos hk]
    simp
  | p :: P, w :: vs, i + 1, m, nd, h1, h2, hk => by
    show bindL kindOf ((p, w) :: P.zip vs) m x = _
    unfold bindL
    exact bindL_get (i := i) (List.nodup_cons.mp nd).2 (by simpa using h1) (by simpa using h2) hk
theorem bindC_get {kindOf : Str → Option NameKind} {x : Str} {v : Value} : ∀ {P : List Str} {vs : List Value} {i : Nat} {m : Str → Option Value}, P.Nodup → P[i]? = some x → vs[i]? = some v → kindOf x ≠ some .local →
    bindC kindOf (P.zip vs) m x = some v
  | [], _, _, _, _, h, _, _ => by simp at h
  | _ :: _, [], _, _, _, _, h, _ => by simp at h
  | p :: P, w :: vs, 0, m, nd, h1, h2, hk => by
    simp at h1 h2; subst h1; subst h2
    show bindC kindOf ((p, w) :: P.zip vs) m p = _
    unfold bindC
    rw [bindC_out fun v hv => (List.nodup_cons.mp nd).1 (List.of_mem_zip hv).1, if_neg hk]
    simp
  | p :: P, w :: vs, i + 1, m, nd, h1, h2, hk => by
    show bindC kindOf ((p, w) :: P.zip vs) m x = _
    unfold bindC
    exact bindC_get (i := i) (List.nodup_cons.mp nd).2 (by simpa using h1) (by simpa using h2) hk
def start (N : List Str) (vs : List V) : St := vs.map some ++ List.replicate (N.length - vs.length) none
def cxOf (CX : CXT) (P : Program) (w : World) (K : PySem.W.Frag) (mg : Str → Option Value) (base : Heap) (N : List Str) (qual : Str) (scope : Scope) (f : Addr) (cd : Value) (A : Around) (outer : List Env) (s : Shared) (H : Hp) (E : XK) : Cx where
  prog := P
  w := w
  K := K
  mg := mg
  base := base
  A := A.deeper (envOfC qual scope s.heap.objs.size f cd)
  N := N
  s₀ := s
  H₀ := H
  env := envOfC qual scope s.heap.objs.size f cd
  outer := outer
  stack := envOfC qual scope s.heap.objs.size f cd :: outer
  ex := []
  calm := true
  fn := fun _ => true
  pn := []
  xe := fun e s' => wpAny (model P w) (A.deeper (envOfC qual scope s.heap.objs.size f cd)) (leaving (envOfC qual scope s.heap.objs.size f cd) e) (fun _ s'' => CX outer H s E e s'') (fun e' s'' => CX outer H s E e' s'') s'
theorem cell_has {sc : Scope} {n : Nat} {x : Str} (h : sc.names.lookup x = some .cell) : ∃ c, (cellsFrom n sc.names []).lookup x = some c := by
  have q := PySem.W.cellsFrom_some sc.names n [] (.inl h)
  exact Option.isSome_iff_exists.mp q
theorem inv_start {CX : CXT} {P : Program} {w : World} {K : PySem.W.Frag} {mg : Str → Option Value} {base : Heap} {N ps : List Str} {qual : Str} {scope : Scope} {f : Addr} {cd : Value} {A : Around} {outer : List Env} {s s1 : Shared} {H : Hp} {E : XK} {us : List Value} {vs : List V}
    (S : FnScope N ps scope) (hd : A.handled = none) (e0 : Env0 P w K mg base A outer s H) (hl : vs.length = ps.length) (r : Vals vs us)
    (x : InCallC s s.heap.objs.size (bindL (envOfC qual scope s.heap.objs.size f cd).kindOf (ps.zip us) fun _ => none) (cellsFrom (s.heap.objs.size + 1) scope.names []) (bindC (envOfC qual scope s.heap.objs.size f cd).kindOf (ps.zip us) fun _ => none) s1) :
    Inv (cxOf CX P w K mg base N qual scope f cd A outer s H E) [] (start N vs) H s1 := by
  have hpl : ps.length ≤ N.length := by have := congrArg List.length S.pre; rw [List.length_take] at this; (first | lia | omega)
  obtain ⟨h1, tk, rfl, hk⟩ := x.done
  have noA : ∀ b : Addr, b ∉ (cxOf CX P w K mg base N qual scope f cd A outer s H E).ex := fun b z => absurd (show b ∈ ([] : List Addr) from z) (by simp)
  refine ⟨⟨e0.mod, S.kind, rfl, rfl, Nat.le_refl _, fun y z c h1 h2 => ?_, fun y hy => ?_, fun y c _ h => ?_, fun _ => hd, Around.frames_deeper e0.frames, .inr ⟨rfl, rfl⟩, fun b z => absurd z (noA b), e0.bs, e0.bsz, fun b _ _ => noA b, fun b z => absurd z (noA b), e0.funs, e0.frf⟩,
    rfl, e0.bare, Un.kept hk, ⟨_, x.toInCall.ns, fun i y v h1 h2 h3 => ?_⟩, fun y c h => ⟨_, x.cell y c h⟩, e0.hok.fresh (Nat.le_refl _), fun y c h => ?_, fun p hp => absurd (show p ∈ ([] : List (Addr × Obj)) from hp) (by simp), e0.hok.kept hk, ?_⟩
  · exact name_of_addr x.apart (PySem.mem_of_lookup h1) (PySem.mem_of_lookup h2)
  · have hy : scope.names.lookup y = some .cell ∨ scope.names.lookup y = some .free := hy
    rcases hy with hy | hy
    · exact cell_has hy
    · exact absurd rfl (S.nofree _ (PySem.mem_of_lookup hy))
  · exact Nat.le_of_lt (x.above y c (PySem.mem_of_lookup h))
  · have hi : i < vs.length := by
      unfold start at h2
      by_cases hi : i < vs.length
      · exact hi
      · rw [List.getElem?_append_right (by simpa using hi)] at h2
        rw [List.getElem?_replicate] at h2
        split at h2 <;> cases h2
    have ha : vs[i]? = some v := by
      unfold start at h2
      rw [List.getElem?_append_left (by simpa using hi), List.getElem?_map] at h2
      cases e : vs[i]? with
      | none => rw [e] at h2; cases h2
      | some a => rw [e] at h2; cases h2; rfl
    obtain ⟨u, hu, rv⟩ := r.get ha
    have hp : ps[i]? = some y := by
      rw [← S.pre, List.getElem?_take_of_lt (by (first | lia | omega))]; exact h1
    have ndP : ps.Nodup := by rw [← S.pre]; exact S.nd.sublist (List.take_sublist _ _)
    refine ⟨u, rv, ?_⟩
    rcases S.par y (List.mem_of_getElem? hp) with k | k
    · exact .inl ⟨k, bindL_get ndP hp hu k⟩
    · obtain ⟨c, e⟩ := cell_has (n := s.heap.objs.size + 1) k
      refine .inr ⟨.inl k, c, e, ?_⟩
      have q := x.cell y c e
      rw [bindC_get ndP hp hu (by show scope.names.lookup y ≠ _; rw [k]; decide)] at q
      exact q
  · exact e0.hok.fresh (Nat.le_of_lt (x.above y c (PySem.mem_of_lookup h)))
  · unfold start
    show _ = N.length
    rw [List.length_append, List.length_map, List.length_replicate]
    (first | lia | omega)
theorem fn_of {CX : CXT} {P : Program} {w : World} {K : PySem.W.Frag} {mg : Str → Option Value} {base : Heap} {k : Nat} {f : Addr} {name qual : Str} {params : Arguments} {body : List Stmt} {scope : Scope} {dV kV doc pm cdv ct oc : Value} {an od : Option Addr}
    {osl : Array (Option Value)} {N ps : List Str} {sp : Sp} (lk : K.lookup f = some ⟨oc, od, .func (PySem.W.fnOf name qual params body scope dV kV doc pm an cdv ct), osl⟩) (hcd : PySem.W.codeIn K cdv qual = true) (S : FnScope N ps scope)
    (len : ∀ vs H Q E, sp vs H Q E → vs.length = ps.length)
    (hbody : ∀ (A : Around) (outer : List Env) (s : Shared) (H : Hp) (vs : List V) (Q : VK) (E : XK), Room k (A.deeper (envOfC qual scope s.heap.objs.size f cdv)) → sp vs H Q E →
      ∃ t, PSs (cxOf CX P w K mg base N qual scope f cdv A outer s H E) body t ∧ t { nx := fun _ H' => Q .non H', rt := Q } (start N vs) H) :
    FnOk P w K mg base CX (k + 1) f (PySem.W.fnOf name qual params body scope dV kV doc pm an cdv ct) ps sp := by
  refine ⟨len, fun A outer s H args us vs Q E hr e0 hb r hsp => ?_⟩
  have hl := len _ _ _ _ hsp
  have KX : K.In s.heap := e0.mod.kin.keeps fun b o e => (e0.bs b o e).1
  have lim : s.heap.NoLimit := e0.mod.nolimit.keeps fun b o e => (e0.bs b o e).1
  have hkind : ∀ y ∈ ps.zip us, scope.names.lookup y.1 = some .local ∨ (scope.names.lookup y.1 = some .cell ∧ ((cellsFrom (s.heap.objs.size + 1) scope.names []).lookup y.1).isSome = true) := fun ⟨n, v⟩ hy => by
    rcases S.par n (List.of_mem_zip hy).1 with q | q
    · exact .inl q
    · exact .inr ⟨q, PySem.W.cellsFrom_some _ _ _ (.inl q)⟩
  refine codeAny_call_function hr.depth (KX _ _ lk) rfl S.co S.gen rfl (PySem.W.codeRec_of KX hcd) (hb _ _ _ _ ?_)
  refine wpAny_newFunctionEnv_cells S.kind hkind fun env he s1 x => ?_
  subst he
  refine ⟨lim.keeps x.toInCall.keep, codeAny_func ?_⟩
  obtain ⟨t, ht, hq⟩ := hbody A outer s H vs Q E (hr.deeper _) hsp
  have I : Inv (cxOf CX P w K mg base N qual scope f cdv A outer s H E) [] (start N vs) H s1 := inv_start S hr.hd e0 hl r x
  refine wpAny_mono (ht [] s1 (start N vs) H _ I hq) (fun fl s' hs => ?_) fun e s' hs => hs
  have fin : ∀ {σ' : St} {H' : Hp} {v : V} {u : Value}, Inv (cxOf CX P w K mg base N qual scope f cdv A outer s H E) [] σ' H' s' → RelV v u → Q v H' → CE outer P w H s Q u s' :=
    fun {σ' H' v u} J rv q => ⟨v, H', J.os, J.bare, J.base, J.hok, rv, q⟩
  cases fl with
  | ret u =>
    obtain ⟨v, σ', H', J, rv, q⟩ := hs
    exact fin J rv q
  | next =>
    obtain ⟨σ', H', J, q⟩ := hs
    exact fin (v := V.non) (u := Value.none) J rfl q
  | brk =>
    obtain ⟨_, _, _, q⟩ := hs
    exact False.elim q
  | cont =>
    obtain ⟨_, _, _, q⟩ := hs
    exact False.elim q
end L2
namespace L2
open PySem PySem.Spec PyProof.Rows
section
variable {X : Cx} {x : Str} {p pos : Pos} {e : Expr} {es : List Expr} {t : TA} {id T : String} {r : List V → Hp → VK → Prop}
def tCB (r : List V → Hp → VK → Prop) (t : TA) : TE := fun σ H Q => t σ H fun vs H1 => r vs H1 Q
theorem pe_callB (hc : CallR X (.builtin id) r) (hg : Gl X x) (hm : X.mg x = none) (hv : bootBuiltins x = some (.builtin id)) (ha : PA X (e :: es) t) (hn : x ≠ "__name__" := by decide) (hdb : (x == ("__debug__" : Str)) = false := by decide)
    (he : starEach (e :: es) X.env = (false, eval e X.env) :: starEach es X.env := by rfl) (hpl : (backTo pos (starEach es X.env)).any (·.1) = false := by rfl) : PE X (.Call (.Name x p) (e :: es) [] pos) (tCB r t) := by
  intro pins s σ H Q I h
  refine wpAny_Call_Name_kw (ld_blt I hg hm hv ?_ hn hdb)
  exact PyProof.Rows.callWith_builtin1 (thn (ha pos pins s σ H _ I h) fun us s1 ⟨vs, H1, I1, r1, q1⟩ => hc pins s1 σ H1 vs us Q I1 r1 q1) he hpl
theorem pe_callTy (hc : CallR X (.type T) r) (hg : Gl X x) (hm : X.mg x = none) (hv : bootBuiltins x = some (.type T)) (ha : PA X (e :: es) t) (hn : x ≠ "__name__" := by decide) (hdb : (x == ("__debug__" : Str)) = false := by decide)
    (he : starEach (e :: es) X.env = (false, eval e X.env) :: starEach es X.env := by rfl) (hpl : (backTo pos (starEach es X.env)).any (·.1) = false := by rfl) : PE X (.Call (.Name x p) (e :: es) [] pos) (tCB r t) := by
  intro pins s σ H Q I h
  refine wpAny_Call_Name_kw (ld_blt I hg hm hv ?_ hn hdb)
  exact PyProof.Rows.callWith_type1 (thn (ha pos pins s σ H _ I h) fun us s1 ⟨vs, H1, I1, r1, q1⟩ => hc pins s1 σ H1 vs us Q I1 r1 q1) he hpl
end
end L2
namespace HT
open PySem PyProof.Rows
section
open PySem.SeqAt
open PySem.AutoSeq1 (wpAny_loadPart')
open PySem.MeetsSeq PySem.MeetsSeq2 PySem.MeetsSeq3
end
section
variable {prog : Program} {w : World} {A : Around} {E : Value → Shared → Prop} {s : Shared}
def sIx (n d : Nat) : Option Int → Nat
  | none => d
  | some v => if v < 0 then (v + (n : Int)).toNat else min v.toNat n
theorem sIx_none (n d : Nat) : sIx n d none = d := rfl
theorem sIx_nat (n d k : Nat) : sIx n d (some (k : Int)) = min k n := by
  show (if (k : Int) < 0 then ((k : Int) + (n : Int)).toNat else min (k : Int).toNat n) = min k n
  rw [if_neg (by (first | lia | omega)), Int.toNat_natCast]
end
end HT
namespace L2
open PySem PySem.Spec PyProof.Rows
abbrev TO := St → Hp → (Option Int → Hp → Prop) → Prop
def PO (X : Cx) (e : Option Expr) (t : TO) : Prop :=
  ∀ (pins : List (Addr × Obj)) (s : Shared) (σ : St) (H : Hp) (Q : Option Int → Hp → Prop), Inv X pins σ H s → t σ H Q →
    wpAny (model X.prog X.w) X.A (evalPart e X.env) (fun u s' => ∃ o H', Inv X pins σ H' s' ∧ IsPart u o ∧ Q o H') X.xe s
def tNoPart : TO := fun _ H Q => Q none H
def tPart (t : TE) : TO := fun σ H Q => t σ H fun x H1 => ∃ i, x = .int i ∧ Q (some i) H1
theorem intsAre_of {ns : List Int} : ∀ {us : List Value}, Vals (ns.map V.int) us → IntsAre us ns := by
  induction ns with
  | nil => intro us r; rw [List.map_nil] at r; cases r; exact .nil
  | cons n ns ih =>
    intro us r
    rw [List.map_cons] at r
    cases r with
    | cons r1 r2 =>
      obtain ⟨t, e⟩ := r1
      subst e
      exact .cons n t (ih r2)
section
variable {X : Cx} {e : Expr} {te : TE} {lo hi : Option Expr} {tl th : TO} {pos p2 : Pos}
theorem po_none : PO X none tNoPart := by
  intro pins s σ H Q I h
  rw [evalPart_none]
  exact wpAny_pure ⟨none, H, I, .none, h⟩
theorem po_some (h : PE X e te) : PO X (some e) (tPart te) := by
  intro pins s σ H Q I hw
  rw [evalPart_some]
  refine thn (h pins s σ H _ I hw) fun u s1 ⟨x, H1, I1, r1, q1⟩ => ?_
  obtain ⟨i, rfl, q⟩ := q1
  obtain ⟨t, rfl⟩ := r1
  exact ⟨some i, H1, I1, .int i t, q⟩
def SlR (X : Cx) (r : V → Option Int → Option Int → Hp → VK → Prop) : Prop :=
  ∀ (pins : List (Addr × Obj)) (s : Shared) (σ : St) (H : Hp) (x : V) (v vl vu : Value) (lo hi : Option Int) (sl : Addr) (Q : VK), Inv X pins σ H s → RelV x v → s.heap.IsSliceOf sl vl vu .none → IsPart vl lo → IsPart vu hi → r x lo hi H Q →
    ∃ T id, typeLookup (.type T) "__getitem__" = pure (some (.builtin id)) ∧ s.TypeIs v T ∧ wpAny (model X.prog X.w) X.A (getItem v (.ref sl)) (EP X pins σ Q) X.xe s
def tSl (r : V → Option Int → Option Int → Hp → VK → Prop) (te : TE) (tl th : TO) : TE := fun σ H Q => te σ H fun x H1 => tl σ H1 fun l H2 => th σ H2 fun u H3 => r x l u H3 Q
theorem pe_slice {r : V → Option Int → Option Int → Hp → VK → Prop} (hr : SlR X r) (he : PE X e te) (hl : PO X lo tl) (hu : PO X hi th) : PE X (.Subscript e (.Slice lo hi none p2) pos) (tSl r te tl th) := by
  intro pins s σ H Q I h
  refine Subscript_ (thn (he pins s σ H _ I h) fun v s1 ⟨x, H1, I1, r1, q1⟩ => ?_)
  refine wpAny_Slice (thn (hl pins s1 σ H1 _ I1 q1) fun vl s2 ⟨l, H2, I2, pl, q2⟩ => thn (hu pins s2 σ H2 _ I2 q2) fun vu s3 ⟨u, H3, I3, pu, q3⟩ => ?_)
  rw [evalPart_none]
  refine wpAny_pure ?_
  have I4 : Inv X pins σ H3 { s3 with heap := s3.heap.push { cls := .type "slice", data := .fields #[vl, vu, .none] } } := I3.kept (t' := s3.toks) fun b ob q => Heap.get?_push_of_some _ q
  obtain ⟨T, id, hT, ht, hg⟩ := hr pins { s3 with heap := s3.heap.push { cls := .type "slice", data := .fields #[vl, vu, .none] } } σ H3 x v vl vu l u s3.heap.objs.size Q I4 r1 (Heap.IsSliceOf.new ..) pl pu q3
  show wpAny (model X.prog X.w) X.A (subscriptTail e (.Slice lo hi none p2) v (.ref s3.heap.objs.size)) (EP X pins σ Q) X.xe { s3 with heap := s3.heap.push { cls := .type "slice", data := .fields #[vl, vu, .none] } }
  exact tail_any (ops := [.ref s3.heap.objs.size, v]) ht hT hg (by with_unfolding_all rfl)
def cutV (xs : List V) (lo hi : Option Int) : List V := (xs.drop (HT.sIx xs.length 0 lo)).take (HT.sIx xs.length xs.length hi - HT.sIx xs.length 0 lo)
theorem cutV_length (xs : List V) (lo hi : Option Int) : (cutV xs lo hi).length ≤ xs.length := by
  unfold cutV
  rw [List.length_take, List.length_drop]
  (first | lia | omega)
end
end L2
namespace L2
open PySem PySem.Spec PyProof.Rows
def ixN (n : Nat) (i : Int) : Option Nat := if 0 ≤ i then (if i < n then some i.toNat else none) else if -(n : Int) ≤ i then some (i + n).toNat else none
def atI {α : Type} (xs : List α) (i : Int) : Option α := (ixN xs.length i).bind fun j => xs[j]?
theorem ixN_seq {n : Nat} {i : Int} {j : Nat} (h : ixN n i = some j) : seqIndex? i n = some j ∧ j < n ∧ -(n : Int) ≤ i ∧ i < n := by
  unfold ixN at h
  by_cases h0 : 0 ≤ i
  · rw [if_pos h0] at h
    by_cases h1 : i < n
    · rw [if_pos h1] at h
      have e : i.toNat = j := Option.some.inj h
      exact ⟨by rw [seqIndex_of h0 h1, e], by (first | lia | omega), by (first | lia | omega), h1⟩
    · rw [if_neg h1] at h; cases h
  · rw [if_neg h0] at h
    by_cases h1 : -(n : Int) ≤ i
    · rw [if_pos h1] at h
      have e : (i + n).toNat = j := Option.some.inj h
      exact ⟨by rw [seqIndex_neg (by (first | lia | omega)) h1, e], by (first | lia | omega), h1, by (first | lia | omega)⟩
    · rw [if_neg h1] at h; cases h
theorem atI_get {α : Type} {xs : List α} {i : Int} {v : α} (h : atI xs i = some v) : ∃ j, seqIndex? i xs.length = some j ∧ xs[j]? = some v ∧ j < xs.length ∧ -(xs.length : Int) ≤ i ∧ i < xs.length := by
  unfold atI at h
  cases e : ixN xs.length i with
  | none => rw [e] at h; cases h
  | some j =>
    rw [e] at h
    obtain ⟨h1, h2, h3, h4⟩ := ixN_seq e
    exact ⟨j, h1, h, h2, h3, h4⟩
theorem atI_nat {α : Type} {xs : List α} {j : Nat} {v : α} (h : xs[j]? = some v) : atI xs (j : Int) = some v := by
  have hj : j < xs.length := (List.getElem?_eq_some_iff.mp h).1
  have e : ixN xs.length (j : Int) = some j := by
    unfold ixN
    rw [if_pos (by (first | lia | omega)), if_pos (by (first | lia | omega))]; simp
  unfold atI; rw [e]; exact h
theorem atI_last {α : Type} (xs : List α) (v : α) : atI (xs ++ [v]) (-1) = some v := by
  have hl : (xs ++ [v]).length = xs.length + 1 := by simp
  have e : ixN (xs ++ [v]).length (-1) = some xs.length := by
    unfold ixN
    rw [hl, if_neg (by decide), if_pos (by (first | lia | omega))]
    congr 1
    (first | lia | omega)
  unfold atI
  rw [e]
  show (xs ++ [v])[xs.length]? = some v
  simp
def PlainIx (b : Expr) : Prop := ∀ o i, subscripted b false o i = operate [o, i] (getItem o i)
def IxR (X : Cx) (r : R2) : Prop :=
  ∀ (value slice : Expr) (pins : List (Addr × Obj)) (s : Shared) (σ : St) (H : Hp) (x y : V) (v u : Value) (Q : VK), Inv X pins σ H s → RelV x v → RelV y u → r x y H Q →
    subscripted slice false v u = operate [v, u] (getItem v u) → wpAny (model X.prog X.w) X.A (subscriptTail value slice v u) (EP X pins σ Q) X.xe s
def MtR (X : Cx) (id : String) (r : V → List V → Hp → VK → Prop) : Prop :=
  ∀ (pins : List (Addr × Obj)) (s : Shared) (σ : St) (H : Hp) (x : V) (xs : List V) (v : Value) (us : List Value) (Q : VK), Inv X pins σ H s → RelV x v → Vals xs us → r x xs H Q →
    wpAny (model X.prog X.w) X.A (call (.builtin id) (v :: us)) (EP X pins σ Q) X.xe s
section
variable {X : Cx} {a b : Expr} {ta tb : TE} {pos : Pos}
theorem pe_ix {r : R2} (hr : IxR X r) (ha : PE X a ta) (hb : PE X b tb) (hs : PlainIx b) : PE X (.Subscript a b pos) (tOp r ta tb) := by
  intro pins s σ H Q I h
  exact Subscript_ (binT ha hb I h fun v u s2 x y H2 I2 rx ry q => hr a b pins s2 σ H2 x y v u Q I2 rx ry q (hs _ _))
def rIxL (K : PySem.W.Frag) : R2 := fun x y H Q => ∃ p xs i v, x = .ref p ∧ y = .int i ∧ SqL K H p xs ∧ atI xs i = some v ∧ Q v H
def rIxT (K : PySem.W.Frag) : R2 := fun x y H Q => ∃ p xs i v, x = .ref p ∧ y = .int i ∧ SqT K H p xs ∧ atI xs i = some v ∧ Q v H
def rIxS : R2 := fun x y H Q => ∃ z i c, x = .str z ∧ y = .int i ∧ z.length ≤ sizeLine ∧ atI z.cps.toList i = some c ∧ Q (.str ⟨#[c]⟩) H
theorem ix_list : IxR X (rIxL X.K) := by
  intro value slice pins s σ H x y v u Q I rx ry h hs
  obtain ⟨p, xs, i, z, rfl, rfl, hq, he, q⟩ := h
  cases rx
  obtain ⟨t, rfl⟩ := ry
  obtain ⟨its, r, pl, hz⟩ := I.list hq
  obtain ⟨j, h1, h2, h3, h4, h5⟩ := atI_get he
  obtain ⟨w, ew, rw'⟩ := r.get h2
  have hl := r.length
  have hn := line63
  have fin : EP X pins σ Q w s := ⟨z, H, I, rw', q⟩
  by_cases h0 : 0 ≤ i
  · have hj : i.toNat = j := by
      rw [seqIndex_of h0 h5] at h1
      exact Option.some.inj h1
    exact item_listR pl.isList h0 (by (first | lia | omega)) (by rw [hj]; simpa using ew) fin hs
  · have hj : (i + (its.toArray.size : Int)).toNat = j := by
      rw [seqIndex_neg (by (first | lia | omega)) h4] at h1
      rw [List.size_toArray, ← hl]
      exact Option.some.inj h1
    exact subscriptTail_builtinR (x := w) pl.isList.typeIs slot_list_getitem.lookup
      (wpAny_getItem_list_neg (Q := fun r s' => r = w ∧ EP X pins σ Q r s') pl.isList (by (first | lia | omega)) (by rw [List.size_toArray] <;> (first | lia | omega)) (by (first | lia | omega)) (by rw [hj]; simpa using ew) ⟨rfl, fin⟩) hs
theorem ix_tup : IxR X (rIxT X.K) := by
  intro value slice pins s σ H x y v u Q I rx ry h hs
  obtain ⟨p, xs, i, z, rfl, rfl, hq, he, q⟩ := h
  cases rx
  obtain ⟨t, rfl⟩ := ry
  obtain ⟨its, r, pl, hz⟩ := I.tuple hq
  obtain ⟨j, h1, h2, h3, h4, h5⟩ := atI_get he
  obtain ⟨w, ew, rw'⟩ := r.get h2
  have hl := r.length
  have hn := line63
  have fin : EP X pins σ Q w s := ⟨z, H, I, rw', q⟩
  exact subscriptTail_builtinR (x := w) pl.typeIs slot_tuple_getitem.lookup
    (getItem_tuple (j := j) (Q := fun r s' => r = w ∧ EP X pins σ Q r s') pl (by (first | lia | omega)) (by (first | lia | omega)) (by rw [List.size_toArray, ← hl]; exact h1) (by simpa using ew) ⟨rfl, fin⟩) hs
theorem ix_str : IxR X rIxS := by
  intro value slice pins s σ H x y v u Q I rx ry h hs
  obtain ⟨z, i, c, rfl, rfl, hz, he, q⟩ := h
  obtain ⟨t, rfl⟩ := rx
  obtain ⟨t', rfl⟩ := ry
  obtain ⟨j, h1, h2, h3, h4, h5⟩ := atI_get he
  have hl : z.cps.toList.length = z.length := by simp [Str.length]
  rw [hl] at h1 h4 h5
  have hn := line63
  exact tail_any (typeIs_str s z t) slot_str_getitem.lookup (getItem_str (c := c) (by
    have e1 : decide (i < -(2 ^ 63 : Int)) = false := decide_eq_false (by (first | lia | omega))
    have e2 : decide (i ≥ 2 ^ 63) = false := decide_eq_false (by (first | lia | omega))
    rw [e1, e2, Bool.or_false]) (by rw [h1]; simpa using h2) ⟨.str ⟨#[c]⟩, H, I.tok _, ⟨_, rfl⟩, q⟩) hs
theorem mapSeq_set (its : List Value) (n j : Nat) (u : Value) : Obj.mapSeq (·.setIfInBounds j u) { cls := .type "list", data := .seq its.toArray n } = { cls := .type "list", data := .seq (its.set j u).toArray n } := by
  simp [Obj.mapSeq]
theorem Inv.lst {pins : List (Addr × Obj)} {σ : St} {H : Hp} {s : Shared} {p : Addr} {xs : List V} (I : Inv X pins σ H s) (h : H p = some (.lst xs)) :
    ∃ (its : List Value) (n : Nat), Vals xs its ∧ s.heap.get? p = some { cls := .type "list", data := .seq its.toArray n } ∧ xs.length ≤ sizeLine := by
  obtain ⟨z, its, n, r, e⟩ := I.hok p _ h
  exact ⟨its, n, r, e, z⟩
theorem Inv.lstUpd {pins : List (Addr × Obj)} {σ : St} {H : Hp} {s : Shared} {p : Addr} {xs ys : List V} {its its' : List Value} {n n' : Nat} {f : Obj → Obj} (I : Inv X pins σ H s) (h : H p = some (.lst xs))
    (ho : s.heap.get? p = some { cls := .type "list", data := .seq its.toArray n }) (hf : f { cls := .type "list", data := .seq its.toArray n } = { cls := .type "list", data := .seq its'.toArray n' }) (r : Vals ys its') (hz : ys.length ≤ sizeLine) (t : Nat) :
    Inv X pins σ (upd H p (.lst ys)) { s with heap := s.heap.update p f, toks := t } := by
  have e : (s.heap.update p f).get? p = some { cls := .type "list", data := .seq its'.toArray n' } := by
    rw [Heap.get?_update_self f ho (by rw [hf] <;> rfl), hf]
  refine I.write (x := p) (e := p) (by rw [h]; trivial) (.inl rfl) (fun b u hb q => (Heap.get?_update_other _ _ (Ne.symm hb)).trans q) ⟨_, e⟩ ?_
  exact ⟨hz, its', n', r, e⟩
def rSetL : V → V → V → Hp → (Hp → Prop) → Prop := fun o i v H Q => ∃ p xs k j, o = .ref p ∧ i = .int k ∧ H p = some (.lst xs) ∧ ixN xs.length k = some j ∧ Q (upd H p (.lst (xs.set j v)))
theorem set_list : PSet X rSetL := by
  intro pins s σ H o i v ov iv u Q I ro ri rv h
  obtain ⟨p, xs, k, j, rfl, rfl, hp, hj, q⟩ := h
  cases ro
  obtain ⟨t, rfl⟩ := ri
  obtain ⟨its, n, r, ho, hz⟩ := I.lst hp
  obtain ⟨h1, h2, h3, h4⟩ := ixN_seq hj
  have hl := r.length
  have hn := line63
  have I' : Inv X pins σ (upd H p (.lst (xs.set j v))) { s with heap := s.heap.update p (Obj.mapSeq (·.setIfInBounds j u)) } :=
    I.lstUpd hp ho (mapSeq_set its n j u) (r.set rv j) (by rw [List.length_set]; exact hz) s.toks
  by_cases h0 : 0 ≤ k
  · have hk : k.toNat = j := by
      rw [seqIndex_of h0 h4] at h1
      exact Option.some.inj h1
    exact PySem.W.ki_setAt ho h0 (by (first | lia | omega)) (by rw [List.size_toArray, ← hl]; exact h4) (by rw [hk]; exact ⟨_, I', q⟩)
  · have hk : (k + (its.toArray.size : Int)).toNat = j := by
      rw [seqIndex_neg (by (first | lia | omega)) h3] at h1
      rw [List.size_toArray, ← hl]
      exact Option.some.inj h1
    exact PySem.W.ki_setBack ho (by (first | lia | omega)) (by rw [List.size_toArray, ← hl]; exact h3) (by (first | lia | omega)) (by rw [hk]; exact ⟨_, I', q⟩)
theorem slice_bounds (lo hi : Option Int) (n : Nat) : (sliceBounds lo hi none n).1 = ((HT.sIx n 0 lo : Nat) : Int) ∧ (sliceBounds lo hi none n).2.1 = ((HT.sIx n n hi : Nat) : Int) ∧ (sliceBounds lo hi none n).2.2 = 1 := by
  refine ⟨?_, ?_, rfl⟩
  · cases lo with
    | none => simp [sliceBounds, HT.sIx]
    | some i =>
      simp only [sliceBounds, HT.sIx, Option.getD_none, show (1 : Int) > 0 by decide, if_true]
      by_cases h : i < 0
      · simp only [h, if_true] <;> (first | lia | omega)
      · simp only [h, if_false] <;> (first | lia | omega)
  · cases hi with
    | none => simp [sliceBounds, HT.sIx]
    | some i =>
      simp only [sliceBounds, HT.sIx, Option.getD_none, show (1 : Int) > 0 by decide, if_true]
      by_cases h : i < 0
      · simp only [h, if_true] <;> (first | lia | omega)
      · simp only [h, if_false] <;> (first | lia | omega)
theorem slicePick_cut (its : List Value) (lo hi : Option Int) : slicePick its.toArray lo hi none = ((its.drop (HT.sIx its.length 0 lo)).take (HT.sIx its.length its.length hi - HT.sIx its.length 0 lo)).toArray := by
  obtain ⟨h1, h2, h3⟩ := slice_bounds lo hi its.toArray.size
  unfold slicePick
  rw [h1, h2, h3]
  simp only [sliceRange_one, pick_run, List.size_toArray] <;> rfl
def rSlL (K : PySem.W.Frag) : V → Option Int → Option Int → Hp → VK → Prop := fun x lo hi H Q => ∃ a xs, x = .ref a ∧ SqL K H a xs ∧ ∀ p, H p = none → Q (.ref p) (upd H p (.lst (cutV xs lo hi)))
theorem sl_list : SlR X (rSlL X.K) := by
  intro pins s σ H x v vl vu lo hi sl Q I rx hs pl pu h
  obtain ⟨a, xs, rfl, hx, q⟩ := h
  cases rx
  obtain ⟨its, r, ht, hz⟩ := I.list hx
  have hlen := r.length
  refine ⟨"list", _, slot_list_getitem.lookup, ht.isList.typeIs, ?_⟩
  refine wpAny_getItem_list_slice ht.isList hs pl pu .none (by simp) ?_ (by rw [List.size_toArray] <;> (first | lia | omega))
  rw [slicePick_cut, ← hlen]
  refine ⟨.ref s.heap.objs.size, _, I.laid (t' := s.toks) (o := .lst (cutV xs lo hi)) (fun b ob q => Heap.get?_push_of_some _ q) (Nat.le_refl _) ?_, rfl, q _ (I.hok.fresh (Nat.le_refl _))⟩
  exact ⟨Nat.le_trans (cutV_length xs lo hi) hz, _, 0, (r.drop (HT.sIx xs.length 0 lo)).take (HT.sIx xs.length xs.length hi - HT.sIx xs.length 0 lo), Heap.get?_push_size _ rfl⟩
def flatV : V → Bool
  | .non => true
  | .bl _ => true
  | .int _ => true
  | .str _ => true
  | _ => false
def eqV : V → V → Bool
  | .non, .non => true
  | .bl a, .bl b => a == b
  | .bl a, .int b => (if a then 1 else 0) == b
  | .int a, .bl b => a == (if b then 1 else 0)
  | .int a, .int b => a == b
  | .str a, .str b => a == b
  | _, _ => false
theorem eqAt_V {A : Around} {s : Shared} {y x : V} {u v : Value} (ry : RelV y u) (rx : RelV x v) (fy : flatV y = true) (fx : flatV x = true) : SeqAt.EqAt A s u v (eqV y x) := by
  cases y with
  | non =>
    cases ry
    cases x with
    | non => cases rx; exact SeqAt.EqAt.same _
    | bl b => cases rx; exact SeqAt.EqAt.none_bool b
    | int b => obtain ⟨t, rfl⟩ := rx; exact SeqAt.EqAt.none_int b t
    | str b => obtain ⟨t, rfl⟩ := rx; exact SeqAt.EqAt.none_str b t
    | _ => exact absurd (show false = true from fx) Bool.false_ne_true
  | bl a =>
    cases ry
    cases x with
    | non => cases rx; exact SeqAt.EqAt.bool_none a
    | bl b => cases rx; exact SeqAt.EqAt.bool_bool a b
    | int b => obtain ⟨t, rfl⟩ := rx; exact SeqAt.EqAt.bool_int a b t
    | str b => obtain ⟨t, rfl⟩ := rx; exact SeqAt.EqAt.bool_str a b t
    | _ => exact absurd (show false = true from fx) Bool.false_ne_true
  | int a =>
    obtain ⟨t', rfl⟩ := ry
    cases x with
    | non => cases rx; exact SeqAt.EqAt.int_none a t'
    | bl b => cases rx; exact SeqAt.EqAt.int_bool a t' b
    | int b => obtain ⟨t, rfl⟩ := rx; exact SeqAt.EqAt.int_int a t' b t
    | str b => obtain ⟨t, rfl⟩ := rx; exact SeqAt.EqAt.int_str a t' b t
    | _ => exact absurd (show false = true from fx) Bool.false_ne_true
  | str a =>
    obtain ⟨t', rfl⟩ := ry
    cases x with
    | non => cases rx; exact SeqAt.EqAt.str_none a t'
    | bl b => cases rx; exact SeqAt.EqAt.str_bool a t' b
    | int b => obtain ⟨t, rfl⟩ := rx; exact SeqAt.EqAt.str_int a t' b t
    | str b => obtain ⟨t, rfl⟩ := rx; exact SeqAt.EqAt.str_str a t' b t
    | _ => exact absurd (show false = true from fx) Bool.false_ne_true
  | _ => exact absurd (show false = true from fy) Bool.false_ne_true
def eqU (x : V) (u : Value) : Bool := match u with
  | .none => eqV .non x
  | .bool b => eqV (.bl b) x
  | .int i _ => eqV (.int i) x
  | .str z _ => eqV (.str z) x
  | _ => false
theorem eqU_of {x y : V} {u : Value} (r : RelV y u) (f : flatV y = true) : eqU x u = eqV y x := by
  cases y with
  | non => cases r; rfl
  | bl b => cases r; rfl
  | int i => obtain ⟨t, rfl⟩ := r; rfl
  | str z => obtain ⟨t, rfl⟩ := r; rfl
  | _ => exact absurd (show false = true from f) Bool.false_ne_true
theorem any_eqU {x : V} : ∀ {xs : List V} {us : List Value}, Vals xs us → xs.all flatV = true → us.any (eqU x) = xs.any fun y => eqV y x
  | _, _, .nil, _ => rfl
  | y :: xs, u :: us, .cons r t, f => by
    rw [List.all_cons, Bool.and_eq_true] at f
    rw [List.any_cons, List.any_cons, eqU_of r f.1, any_eqU t f.2]
theorem mem_eqAt {A : Around} {s : Shared} {x : V} {v : Value} (rx : RelV x v) (fx : flatV x = true) : ∀ {xs : List V} {us : List Value}, Vals xs us → xs.all flatV = true → ∀ u ∈ us, SeqAt.EqAt A s u v (eqU x u)
  | _, _, .nil, _ => fun u hu => by cases hu
  | y :: xs, u :: us, .cons r t, f => fun u' hu => by
    rw [List.all_cons, Bool.and_eq_true] at f
    rcases List.mem_cons.mp hu with rfl | hu
    · rw [eqU_of r f.1]; exact eqAt_V r rx f.1 fx
    · exact mem_eqAt rx fx t f.2 u' hu
def inV (x : V) (xs : List V) : Bool := xs.any fun y => eqV y x
def rIn (K : PySem.W.Frag) (neg : Bool) : R2 := fun x y H Q => ∃ p xs, y = .ref p ∧ (SqL K H p xs ∨ SqT K H p xs) ∧ flatV x = true ∧ xs.all flatV = true ∧ Q (.bl (if neg then !inV x xs else inV x xs)) H
theorem op_in_seq : OpR X (compareOp .In) (rIn X.K false) := by
  intro pins s σ H x y v u Q I rx ry h
  obtain ⟨p, xs, rfl, hq, fx, fs, q⟩ := h
  cases ry
  rcases hq with hq | hq
  · obtain ⟨its, r, pl, hz⟩ := I.list hq
    refine SeqAt.in_listAt (eqU x) pl.isList (fun w hw => mem_eqAt rx fx r fs w (by simpa using hw)) ⟨.bl _, H, I, rfl, ?_⟩
    rw [show its.toArray.any (eqU x) = its.any (eqU x) by simp, any_eqU r fs]
    exact q
  · obtain ⟨its, r, pl, hz⟩ := I.tuple hq
    refine SeqAt.in_tupleAt (eqU x) pl (fun w hw => mem_eqAt rx fx r fs w (by simpa using hw)) ⟨.bl _, H, I, rfl, ?_⟩
    rw [show its.toArray.any (eqU x) = its.any (eqU x) by simp, any_eqU r fs]
    exact q
theorem op_notIn_seq : OpR X (compareOp .NotIn) (rIn X.K true) := by
  intro pins s σ H x y v u Q I rx ry h
  obtain ⟨p, xs, rfl, hq, fx, fs, q⟩ := h
  cases ry
  rcases hq with hq | hq
  · obtain ⟨its, r, pl, hz⟩ := I.list hq
    refine SeqAt.notIn_listAt (eqU x) pl.isList (fun w hw => mem_eqAt rx fx r fs w (by simpa using hw)) ⟨.bl _, H, I, rfl, ?_⟩
    rw [show its.toArray.any (eqU x) = its.any (eqU x) by simp, any_eqU r fs]
    exact q
  · obtain ⟨its, r, pl, hz⟩ := I.tuple hq
    refine SeqAt.notIn_tupleAt (eqU x) pl (fun w hw => mem_eqAt rx fx r fs w (by simpa using hw)) ⟨.bl _, H, I, rfl, ?_⟩
    rw [show its.toArray.any (eqU x) = its.any (eqU x) by simp, any_eqU r fs]
    exact q
theorem call_len_seq : CallR X (.builtin "len") (fun xs H Q => ∃ p ys, xs = [.ref p] ∧ (SqL X.K H p ys ∨ SqT X.K H p ys) ∧ Q (.int ys.length) H) := by
  intro pins s σ H xs us Q I r h
  obtain ⟨p, ys, rfl, hq, q⟩ := h
  obtain ⟨u, rfl, rx⟩ := vals1 r
  cases rx
  have hn := line63
  rcases hq with hq | hq
  · obtain ⟨its, r', pl, hz⟩ := I.list hq
    have hlen := r'.length
    exact Calls.call_len_list pl.isList (by simp only [List.size_toArray] <;> (first | lia | omega)) ⟨.int ys.length, H, I.tok _, ⟨s.toks + 1, by rw [List.size_toArray, hlen]⟩, q⟩
  · obtain ⟨its, r', pl, hz⟩ := I.tuple hq
    have hlen := r'.length
    exact len_tuple pl (by simp only [List.size_toArray] <;> (first | lia | omega)) ⟨.int ys.length, H, I.tok _, ⟨s.toks + 1, by rw [List.size_toArray, hlen]⟩, q⟩
theorem call_len_str : CallR X (.builtin "len") (fun xs H Q => ∃ z, xs = [.str z] ∧ z.length ≤ sizeLine ∧ Q (.int z.length) H) := by
  intro pins s σ H xs us Q I r h
  obtain ⟨z, rfl, hz, q⟩ := h
  obtain ⟨u, rfl, t, rfl⟩ := vals1 r
  have hn := line63
  exact len_str (by (first | lia | omega)) ⟨.int z.length, H, I.tok _, ⟨_, rfl⟩, q⟩
theorem call_list_of : CallR X (.type "list") (fun xs H Q => ∃ p ys, xs = [.ref p] ∧ (SqL X.K H p ys ∨ SqT X.K H p ys) ∧ ∀ l, H l = none → Q (.ref l) (upd H l (.lst ys))) := by
  intro pins s σ H xs us Q I r h
  obtain ⟨p, ys, rfl, hq, q⟩ := h
  obtain ⟨u, rfl, rx⟩ := vals1 r
  cases rx
  have fin : ∀ (its : List Value), Vals ys its → ys.length ≤ sizeLine → ∀ (h' : Heap) (c' : Nat), (∀ b o', s.heap.get? b = some o' → h'.get? b = some o') →
      h'.get? s.heap.objs.size = some { cls := .type "list", dict := none, data := .seq its.toArray c', slots := #[] } → EP X pins σ Q (.ref s.heap.objs.size) { s with heap := h' } := fun its r' hz h' c' kp e =>
    ⟨.ref s.heap.objs.size, _, I.laid (t' := s.toks) kp (Nat.le_refl _) (show ObjOk X.prog X.w _ h' _ (.lst ys) from ⟨hz, its, c', r', e⟩), rfl, q _ (I.hok.fresh (Nat.le_refl _))⟩
  rcases hq with hq | hq
  · obtain ⟨its, r', pl, hz⟩ := I.list hq
    have hlen := r'.length
    obtain ⟨o, ho, hc, n, hd⟩ := pl.isList
    exact call_list_seq p (.inl rfl) ho hc hd (fun h' c' kp e => fin its r' hz h' c' kp e) (by simp only [List.size_toArray] <;> (first | lia | omega))
  · obtain ⟨its, r', pl, hz⟩ := I.tuple hq
    have hlen := r'.length
    obtain ⟨o, ho, hc, n, hd⟩ := pl
    exact call_list_seq p (.inr rfl) ho hc hd (fun h' c' kp e => fin its r' hz h' c' kp e) (by simp only [List.size_toArray] <;> (first | lia | omega))
def tyV (K : PySem.W.Frag) (T : String) (x : V) (H : Hp) : Prop := match x with
  | .str _ => T = "str"
  | .int _ => T = "int"
  | .ref p => (T = "list" ∧ ∃ xs, SqL K H p xs) ∨ (T = "tuple" ∧ ∃ o, K.lookup p = some o ∧ o.cls = .type "tuple" ∧ o.dict = none) ∨
      (T = "dict" ∧ ((∃ kvs, H p = some (.dK kvs)) ∨ ∃ kvs, H p = some (.dT kvs))) ∨ (T = "set" ∧ ∃ S n, H p = some (.set S n))
  | _ => False
theorem tyV_is {pins : List (Addr × Obj)} {σ : St} {H : Hp} {s : Shared} {T : String} {x : V} {v : Value} (I : Inv X pins σ H s) (r : RelV x v) (ty : tyV X.K T x H) :
    s.TypeIs v T ∧ ∀ a, v = .ref a → ∃ ob, s.heap.get? a = some ob ∧ ob.dict = none := by
  cases x with
  | str z =>
    obtain ⟨t, rfl⟩ := r
    cases (show T = "str" from ty)
    exact ⟨typeIs_str s z t, fun _ e => nomatch e⟩
  | int i =>
    obtain ⟨t, rfl⟩ := r
    cases (show T = "int" from ty)
    exact ⟨typeIs_int s i t, fun _ e => nomatch e⟩
  | ref p =>
    cases r
    rcases ty with ⟨rfl, xs, hq⟩ | ⟨rfl, o, hk, hc, hd⟩ | ⟨rfl, hk⟩ | ⟨rfl, S, n, hk⟩
    · obtain ⟨its, _, pl, _⟩ := I.list hq
      refine ⟨pl.isList.typeIs, fun a e => ?_⟩
      cases e
      obtain ⟨o, n, e, c, hd, _⟩ := pl
      exact ⟨o, e, hd⟩
    · refine ⟨⟨o, I.kIn p o hk, hc⟩, fun a e => ?_⟩
      cases e
      exact ⟨o, I.kIn _ o hk, hd⟩
    · have z : ∃ o, s.heap.get? p = some o ∧ o.ExactDict := by
        rcases hk with ⟨kvs, hk⟩ | ⟨kvs, hk⟩
        · obtain ⟨_, _, _, _, o, _, _, e, ex, _⟩ := I.hok p _ hk
          exact ⟨o, e, ex⟩
        · obtain ⟨_, _, _, _, o, _, _, e, ex, _⟩ := I.hok p _ hk
          exact ⟨o, e, ex⟩
      obtain ⟨o, e, ex⟩ := z
      refine ⟨⟨o, e, ex.1⟩, fun a e2 => ?_⟩
      cases e2
      exact ⟨o, e, ex.2.1⟩
    · obtain ⟨o, _, _, _, e, ex, _⟩ := I.hok p _ hk
      refine ⟨⟨o, e, ex.1⟩, fun a e2 => ?_⟩
      cases e2
      exact ⟨o, e, ex.2.1⟩
  | _ => exact False.elim ty
def tBM (K : PySem.W.Frag) (T : String) (r : V → List V → Hp → VK → Prop) (to : TE) (t : TA) : TE := fun σ H Q => to σ H fun x H1 => tyV K T x H1 ∧ t σ H1 fun xs H2 => r x xs H2 Q
variable {o e : Expr} {es : List Expr} {to : TE} {t : TA} {name : Str} {apos cpos : Pos} {T id : String} {r : V → List V → Hp → VK → Prop}
theorem pe_bm (pa : PlainAttrs T) (slot : Slot T name id) (hty : typeOf (.builtin id) = pure (.type "method_descriptor")) (hm : MtR X id r) (ho : PE X o to) (ha : PA X (e :: es) t)
    (hbase : attributeBase o name X.env (eval o X.env) = eval o X.env := by rfl)
    (hfew : ((backTo cpos (starEach (e :: es) X.env)).all (fun x => !x.1) && (backToKw cpos (keywordEach [] X.env)).all (fun x => x.1.isSome)
      && decide ((e :: es).length + ([] : List Keyword).length + (if ([] : List Keyword).isEmpty then 0 else 1) < 30)) = true := by rfl)
    (hline : (apos.endLine == cpos.line) = true := by rfl) (hs : starEach (e :: es) X.env = (false, eval e X.env) :: starEach es X.env := by rfl) (hplain : (backTo cpos (starEach es X.env)).any (·.1) = false := by rfl) :
    PE X (.Call (.Attribute o name apos) (e :: es) [] cpos) (tBM X.K T r to t) := by
  intro pins s σ H Q I h
  refine wpAny_Call_method_late hbase hfew hline rfl (thn (ho pins s σ H _ I h) fun v s1 ⟨x, H1, I1, r1, ty, q1⟩ => ?_)
  obtain ⟨h1, h2⟩ := tyV_is I1 r1 ty
  refine ⟨T, id, pa, slot, hty, h1, h2, ?_⟩
  have hA := ha cpos pins s1 σ H1 _ I1 q1
  rw [hs] at hA ⊢
  refine Calls.callWith_builtin (by show (false || (backTo cpos (starEach es X.env)).any (·.1)) = false; rw [hplain] <;> rfl) (Calls.evalArgs_plain ?_)
  exact thn hA fun us s2 ⟨vs, H2, I2, r2, q2⟩ => hm pins s2 σ H2 x vs v us Q I2 r1 r2 q2
end
end L2
namespace L2
open PySem PySem.Spec PyProof.Rows
def MtM (X : Cx) (id : String) (r : V → List V → Hp → VK → Prop) : Prop :=
  ∀ (pins : List (Addr × Obj)) (s : Shared) (σ : St) (H : Hp) (x : V) (xs : List V) (v : Value) (us : List Value) (Q : VK), Inv X pins σ H s → RelV x v → Vals xs us → r x xs H Q →
    wpAny (model X.prog X.w) X.A (call (.builtin id) (v :: us)) (EP X pins σ Q) X.xe s
theorem Vals.one : ∀ {x : V} {us : List Value}, Vals [x] us → ∃ u, us = [u] ∧ RelV x u
  | _, _, .cons r .nil => ⟨_, rfl, r⟩
theorem Vals.eraseIdx : ∀ {xs : List V} {us : List Value} (i : Nat), Vals xs us → Vals (xs.eraseIdx i) (us.eraseIdx i)
  | _, _, _, .nil => .nil
  | _, _, 0, .cons _ t => t
  | _, _, i + 1, .cons r t => .cons r (Vals.eraseIdx i t)
theorem Vals.rep {xs : List V} {us : List Value} (h : Vals xs us) : ∀ k : Nat, Vals (List.replicate k xs).flatten (List.replicate k us).flatten
  | 0 => .nil
  | k + 1 => by
    rw [List.replicate_succ, List.replicate_succ, List.flatten_cons, List.flatten_cons]
    exact Vals.append h (Vals.rep h k)
theorem len_erase {α : Type} : ∀ (l : List α) (i : Nat), (l.eraseIdx i).length ≤ l.length
  | [], _ => Nat.le_refl _
  | _ :: _, 0 => Nat.le_succ _
  | _ :: r, i + 1 => Nat.succ_le_succ (len_erase r i)
theorem foldl_rep (its : List Value) : ∀ (k : Nat) (acc : List Value),
    List.foldl (fun x1 x2 => x1 ++ x2) acc.toArray (List.replicate k its.toArray) = (acc ++ (List.replicate k its).flatten).toArray
  | 0, acc => by simp
  | k + 1, acc => by
    have e : acc.toArray ++ its.toArray = (acc ++ its).toArray := by simp
    have e2 : (acc ++ its) ++ (List.replicate k its).flatten = acc ++ (List.replicate (k + 1) its).flatten := by
      rw [List.replicate_succ, List.flatten_cons, List.append_assoc]
    rw [← e2, ← foldl_rep its k (acc ++ its), ← e, List.replicate_succ, List.foldl_cons]
section
variable {X : Cx} {pins : List (Addr × Obj)} {σ : St} {H : Hp} {s : Shared} {l b : Addr} {xs ys zs : List V}
theorem Inv.lset {its its' : List Value} {n : Nat} {f : Array Value → Array Value} {t' : Nat} (I : Inv X pins σ H s) (hH : H l = some (.lst xs))
    (e : s.heap.get? l = some { cls := .type "list", data := .seq its.toArray n }) (hf : f its.toArray = its'.toArray) (hv : Vals ys its') (hz : ys.length ≤ sizeLine) :
    Inv X pins σ (upd H l (.lst ys)) { s with heap := s.heap.update l (Obj.mapSeq f), toks := t' } := by
  have q := PySem.IsL.update e f
  rw [hf] at q
  refine I.write (x := l) (e := l) (by rw [hH]; exact trivial) (.inl rfl) (fun b' u hb hu => (Heap.get?_update_other s.heap (Obj.mapSeq f) (Ne.symm hb)).trans hu) ⟨_, q⟩ ?_
  exact ⟨hz, its', _, hv, q⟩
theorem Inv.lnew {its : List Value} {t' : Nat} (I : Inv X pins σ H s) (hv : Vals ys its) (hz : ys.length ≤ sizeLine) :
    Inv X pins σ (upd H s.heap.objs.size (.lst ys)) { s with heap := s.heap.push { cls := .type "list", data := .seq its.toArray }, toks := t' } :=
  I.laid (fun _ _ q => Heap.get?_push_of_some _ q) (Nat.le_refl _) ⟨hz, its, 0, hv, Heap.get?_push_size _ rfl⟩
theorem Inv.fresh (I : Inv X pins σ H s) : H s.heap.objs.size = none := I.hok.fresh (Nat.le_refl _)
theorem Inv.lstM (I : Inv X pins σ H s) (hH : H l = some (.lst xs)) : xs.length ≤ sizeLine ∧ ∃ (its : List Value) (n : Nat), Vals xs its ∧ xs.length = its.length ∧ s.heap.get? l = some { cls := .type "list", data := .seq its.toArray n } := by
  obtain ⟨z, its, n, r, e⟩ := I.hok l _ hH
  exact ⟨z, its, n, r, r.length, e⟩
theorem notLongL {n : Nat} (h : n ≤ sizeLine) : Builtin.List.listTooLong n = false := by
  unfold Builtin.List.listTooLong
  exact decide_eq_false (by (first | lia | omega))
end
section
variable {X : Cx}
def rAppend : V → List V → Hp → VK → Prop := fun x vs H Q => ∃ l xs y, x = .ref l ∧ vs = [y] ∧ H l = some (.lst xs) ∧ xs.length < sizeLine ∧ Q .non (upd H l (.lst (xs ++ [y])))
theorem mt_append : MtM X "list.append" rAppend := by
  intro pins s σ H x vs v us Q I rx rv h
  obtain ⟨l, xs, y, rfl, rfl, hH, hz, q⟩ := h
  cases rx
  obtain ⟨u, rfl, ru⟩ := rv.one
  obtain ⟨z, its, n, r, hl, e⟩ := I.lstM hH
  refine call_meets F.slot_list_append ⟨_, e, rfl⟩ F.entry_list_append (F.args_list_append_2 _ _) (PySem.list_append l its.toArray n u (by rw [List.size_toArray]; (first | lia | omega))) ⟨e, ?_⟩
  refine ⟨.non, _, I.lset (its' := its ++ [u]) hH e (by simp) (r.append (.cons ru .nil)) ?_, rfl, q⟩
  rw [List.length_append, List.length_singleton]
  (first | lia | omega)
def rExtend : V → List V → Hp → VK → Prop := fun x vs H Q => ∃ l b xs zs, x = .ref l ∧ vs = [.ref b] ∧ H l = some (.lst xs) ∧ H b = some (.lst zs) ∧ xs.length + zs.length ≤ sizeLine ∧ Q .non (upd H l (.lst (xs ++ zs)))
theorem mt_extend : MtM X "list.extend" rExtend := by
  intro pins s σ H x vs v us Q I rx rv h
  obtain ⟨l, b, xs, zs, rfl, rfl, hH, hB, hz, q⟩ := h
  cases rx
  obtain ⟨u, rfl, ru⟩ := rv.one
  cases ru
  obtain ⟨z, its, n, r, hl, e⟩ := I.lstM hH
  obtain ⟨z2, its2, n2, r2, hl2, e2⟩ := I.lstM hB
  have hsz : its.toArray.size + its2.toArray.size ≤ sizeLine := by rw [List.size_toArray, List.size_toArray]; (first | lia | omega)
  have hlong : ¬ (!its.toArray.isEmpty && Builtin.List.listTooLong (its.toArray.size + its2.toArray.size)) = true := by
    rw [notLongL hsz, Bool.and_false]
    exact Bool.false_ne_true
  refine call_meets F.slot_list_extend ⟨_, e, rfl⟩ F.entry_list_extend (F.args_list_extend_2 _ _)
    (AutoSeq1.list_extend_list_list_0 l its.toArray n b its2.toArray n2 hlong (by rw [List.size_toArray]; (first | lia | omega)) (by (first | lia | omega))) ⟨e, e2, ?_⟩
  refine ⟨.non, _, I.lset (its' := its ++ its2) hH e (by simp) (r.append r2) ?_, rfl, q⟩
  rw [List.length_append]
  (first | lia | omega)
def rPopAt : V → List V → Hp → VK → Prop := fun x vs H Q => ∃ l xs i k y, x = .ref l ∧ vs = [.int i] ∧ H l = some (.lst xs) ∧ -(2 ^ 63) ≤ i ∧ i < 2 ^ 63 ∧ seqIndex? i xs.length = some k ∧ xs[k]? = some y ∧ Q y (upd H l (.lst (xs.eraseIdx k)))
theorem mt_popAt : MtM X "list.pop" rPopAt := by
  intro pins s σ H x vs v us Q I rx rv h
  obtain ⟨l, xs, i, k, y, rfl, rfl, hH, h1, h2, hk, hy, q⟩ := h
  cases rx
  obtain ⟨u, rfl, ru⟩ := rv.one
  obtain ⟨t, rfl⟩ := ru
  obtain ⟨z, its, n, r, hl, e⟩ := I.lstM hH
  obtain ⟨w, hw, rw'⟩ := r.get hy
  refine call_meets F.slot_list_pop ⟨_, e, rfl⟩ F.entry_list_pop (F.args_list_pop_2 _ _)
    (MeetsSeq.list_pop_at l its.toArray n i t k w (fitsIndex_both h1 h2) (by rw [List.size_toArray, ← hl]; exact hk) (by rw [← Array.getElem?_toList]; exact hw) (by rw [List.size_toArray]; (first | lia | omega))) ⟨e, ?_⟩
  refine ⟨y, _, I.lset (its' := its.eraseIdx k) hH e ?_ (r.eraseIdx k) ?_, rw', q⟩
  · show its.toArray.eraseIdxIfInBounds k = (its.eraseIdx k).toArray
    rw [List.eraseIdxIfInBounds_toArray]
  · have := len_erase xs k
    (first | lia | omega)
def rCat : R2 := fun x y H Q => ∃ l b xs zs, x = .ref l ∧ y = .ref b ∧ H l = some (.lst xs) ∧ H b = some (.lst zs) ∧ xs.length + zs.length ≤ sizeLine ∧ ∀ p, H p = none → Q (.ref p) (upd H p (.lst (xs ++ zs)))
theorem op_cat : OpR X (binaryOp .Add) rCat := by
  intro pins s σ H x y v u Q I rx ry h
  obtain ⟨l, b, xs, zs, rfl, rfl, hH, hB, hz, q⟩ := h
  cases rx
  cases ry
  obtain ⟨z, its, n, r, hl, e⟩ := I.lstM hH
  obtain ⟨z2, its2, n2, r2, hl2, e2⟩ := I.lstM hB
  refine PySem.P.add_list e e2 ?_ (by rw [List.size_toArray, List.size_toArray]; (first | lia | omega))
  have ea : its.toArray ++ its2.toArray = (its ++ its2).toArray := by simp
  rw [ea]
  exact ⟨.ref _, _, I.lnew (t' := s.toks) (r.append r2) (by rw [List.length_append]; (first | lia | omega)), rfl, q _ I.fresh⟩
def rRep : R2 := fun x y H Q => ∃ l k xs, x = .ref l ∧ y = .int k ∧ H l = some (.lst xs) ∧ -(2 ^ 63) ≤ k ∧ k < 2 ^ 63 ∧ xs.length * k.toNat ≤ sizeLine ∧
  ∀ p, H p = none → Q (.ref p) (upd H p (.lst (List.replicate k.toNat xs).flatten))
theorem len_rep {α : Type} (xs : List α) (k : Nat) : (List.replicate k xs).flatten.length = k * xs.length := by
  induction k with
  | zero => simp
  | succ k ih => rw [List.replicate_succ, List.flatten_cons, List.length_append, ih, Nat.succ_mul, Nat.add_comm]
theorem op_rep : OpR X (binaryOp .Mult) rRep := by
  intro pins s σ H x y v u Q I rx ry h
  obtain ⟨l, k, xs, rfl, rfl, hH, h1, h2, hz, q⟩ := h
  cases rx
  obtain ⟨t, rfl⟩ := ry
  obtain ⟨z, its, n, r, hl, e⟩ := I.lstM hH
  have hlen : its.toArray.size * k.toNat ≤ sizeLine := by rw [List.size_toArray, ← hl]; exact hz
  have hcap : ¬ its.toArray.size * k.toNat > (2 ^ 63 - 1) / 8 := by
    have : (sizeLine : Nat) ≤ (2 ^ 63 - 1) / 8 := by decide
    (first | lia | omega)
  have hfit : ¬ (!Builtin.List.listFitsIndex k) = true := by
    rw [fitsIndex_both h1 h2]
    exact Bool.false_ne_true
  have hlong : ¬ Builtin.List.listTooLong (its.toArray.size * k.toNat) = true := by
    rw [notLongL hlen]
    exact Bool.false_ne_true
  have hnew : List.foldl (fun x1 x2 => x1 ++ x2) #[] (List.replicate (if its.toArray.isEmpty = true then 0 else k.toNat) its.toArray) = (List.replicate k.toNat its).flatten.toArray := by
    have f0 : ∀ m : Nat, List.foldl (fun x1 x2 => x1 ++ x2) #[] (List.replicate m its.toArray) = (List.replicate m its).flatten.toArray := fun m => by
      have := foldl_rep its m []
      rw [List.nil_append] at this
      exact this
    rw [f0]
    cases its with
    | nil => simp
    | cons a r' => rw [if_neg (by simp)]
  refine wpAny_binaryOp_repeat_ref (T := "list") (U := "int") (by decide) ⟨_, e, rfl⟩ (fun s' => typeIs_int s' k t) noFill_list_mul F.fills_int_mul F.slot_int_rmul repeat_list F.slot_int_index.lookup
    (call_meets F.slot_int_rmul (typeIs_int s k t) F.entry_int_rmul (F.args_int_rmul_2 _ _) (int___rmul___int_list k t l its.toArray n)
      ⟨e, rfl, ⟨_, e, rfl⟩, call_meets F.slot_list_mul ⟨_, e, rfl⟩ F.entry_list_mul (F.args_list_mul_2 _ _) (AutoListH.list___mul___list_int_3 l its.toArray n k t hfit hcap hlong) ⟨e, ?_⟩⟩)
  rw [hnew]
  exact ⟨.ref _, _, I.lnew (t' := s.toks) (r.rep k.toNat) (by rw [len_rep, Nat.mul_comm]; exact hz), rfl, q _ I.fresh⟩
end
section
variable {prog : Program} {w : World} {A : Around} {E : Value → Shared → Prop} {s : Shared}
end
section
variable {X : Cx}
end
end L2
namespace Att
open PySem PySem.W PySem.Calls PyProof.Rows
theorem ints_of_wellAll {P : Params} {h : Heap} : ∀ (ns : List Int) (vs : List Value), WellAll P h vs (ns.map WData.int) → IntsAre vs ns := by
  intro ns
  induction ns with
  | nil =>
    intro vs w
    rw [List.map_nil] at w
    cases w
    exact .nil
  | cons n ns ih =>
    intro vs w
    rw [List.map_cons] at w
    cases w with
    | cons a b =>
      cases a
      exact .cons _ _ (ih _ b)
theorem script_of {l : OpenLaw} {n : Nat} (hn : l.most = some n) {P : Params} {h : Heap} {args : List WData} {vals : List Value}
    (hpre : l.row.toRowW.claim.pre args = true) (hwl : WellAll P h vals args) :
    ∃ a vs ns, vals = [Value.ref a] ∧ args = [WData.list (ns.map WData.int)] ∧ h.get? a = some { cls := .type "list", data := .seq vs.toArray } ∧ IntsAre vs ns ∧ ns.length ≤ n := by
  have hsh : WShape.hasAll [] args [.list .int] = true := (pre_splitW hpre).1
  have hc : l.pre.holds [] { args := args } = true := (pre_splitW hpre).2
  obtain ⟨d, r, rfl, h1, h2⟩ := hasAllW_cons hsh
  obtain rfl := hasAllW_nil h2
  obtain ⟨xs, rfl, h3⟩ := hasW_list h1
  obtain ⟨ns, rfl⟩ := items_int h3
  have hlen : ns.length ≤ n := by
    unfold OpenLaw.pre at hc
    have h4 : (WTm.not (.lt (.lit (.int (n : Int))) (.len (.arg 0)))).holds [] { args := [.list (ns.map .int)] } = true := by
      have h4 := (holds_andW hc).1
      rw [hn] at h4
      exact h4
    have h5 := condW_of h4 (w_not (w_lt w_lit (w_len_list (w_arg rfl))))
    rw [List.length_map] at h5
    refine Nat.le_of_not_lt fun q => ?_
    have q' : (n : Int) < ((ns.length : Nat) : Int) := by (first | lia | omega)
    first
      | (rw [decide_eq_true q'] at h5; exact absurd h5 (by decide))
      | (simp at h5; (first | lia | omega))
  cases hwl with
  | cons w1 w2 =>
    cases w2
    cases w1 with
    | list ho hall => exact ⟨_, _, ns, rfl, rfl, ho, ints_of_wellAll ns _ hall, hlen⟩
theorem post_true (l : OpenLaw) (args : List WData) : l.row.toRowW.claim.post args (.bool true) args = true :=
  postW_of (r := l.row.toRowW) (X := (true == true))
    (show WShape.has [] (.bool true) .bool = true by first | rfl | decide | simp [WShape.has, WShape.arms, WShape.armsAll])
    (show (WTm.eq .res (.lit (.bool true))).value [] { args := args, res := some (.bool true), after := args } = some (.bool (true == true)) from w_eq_bool (w_res rfl) w_lit) rfl
theorem attach_call {l : OpenLaw} {n : Nat} {q : Program} {loose : List Str} {XP : (Str → Option Value) → Heap → Prop} {YP : World → Heap → Prop} {d : DefRec}
    (hn : l.most = some n) (hdf : d.params.defaults = [])
    (call : ∀ (w : World) (s₀ s₁ : Shared) (mg mb : Str → Option Value) (fa : Addr) (o : Obj) (pm cd doc : Value) (a : Addr) (vs : List Value) (ns : List Int),
      Ground q loose [] XP w s₀ mg mb s₁.heap → YP w s₁.heap →
      s₁.heap.get? fa = some o → o.data = .func (docDef d.name d.params d.body d.scope pm cd doc) → s₁.heap.CodeRec cd d.name → mg d.name = some (.ref fa) →
      s₁.heap.get? a = some { cls := .type "list", data := .seq vs.toArray } → IntsAre vs ns → ns.length ≤ n → s₁.gens = #[] →
      codeAny (model l.prog w) callerA (.call (.ref fa) ⟨[.ref a], []⟩) (fun r s' => r = .ok (.ret (.bool true)) ∧ OldK s₁.heap s'.heap ∧ s'.os = s₁.os ∧ AllBare s'.gens) s₁) :
    WalkO q loose XP YP l.row.toRowW d [] (fun f vs => PySem.call f vs) := by
  intro w s₀ s₁ mg mb G Y fa o pm cd doc dV kV ho hd hcd hD hmg hg args vals as hpre hlay hrd hwl hlo
  obtain rfl : dV = .none := Dflts.none hD hdf
  obtain rfl : kV = .none := Dflts.noKw hD
  obtain ⟨a, vs, ns, rfl, rfl, hobj, hints, hlen⟩ := script_of hn hpre hwl
  refine enter_call (codeAny_mono (call w s₀ s₁ mg mb fa o pm cd doc a vs ns G Y ho (fd_plain hd) hcd hmg hobj hints hlen hg) fun r s' hq => ?_)
  obtain ⟨rfl, h2, h3, h4⟩ := hq
  exact ⟨.inl ⟨.bool true, .bool true, [], rfl, fun _ => rfl, .bool true, post_true l _, fun _ => ⟨List.Pairwise.nil, fun _ hm => (nomatch hm)⟩⟩, h2, h3, h4⟩
section
variable {prog : Program} {w : World} {A : Around} {E : Value → Shared → Prop} {s : Shared} {K : Frag}
end
end Att
namespace L2
open PySem PySem.Spec PyProof.Rows
theorem vals_ints : ∀ {vs : List Value} {ns : List Int}, IntsAre vs ns → Vals (ns.map V.int) vs
  | _, _, .nil => .nil
  | _, _, .cons n t h => .cons ⟨t, rfl⟩ (vals_ints h)
def Only (H : Hp) : Prop := ∀ b, H b = none ∨ ∃ o xs, H b = some (.frz o (.lst xs))
theorem law_call {P : Program} {w : World} {K : PySem.W.Frag} {mg mb : Str → Option Value} {CX : CXT} {k : Nat} {fa a : Addr} {fd : FuncData} {x : Str} {sp : Sp} {s₁ : Shared} {vs : List Value} {ns : List Int}
    (KX : K.In s₁.heap) (hns : s₁.heap.Ns mainGlobals mg) (hb : s₁.heap.Ns builtinsNs mb) (hbb : ∀ x : Str, x ≠ "__name__" → mb x = bootBuiltins x) (hlim : s₁.heap.NoLimit) (hg : s₁.gens = #[])
    (ha : s₁.heap.get? a = some { cls := .type "list", data := .seq vs.toArray }) (hi : IntsAre vs ns) (hl : ns.length ≤ sizeLine) (hr : Room k callerA)
    (F : ∀ base : Heap, K.In base → base.Ns mainGlobals mg → FnOk P w K mg base CX k fa fd [x] sp) (hbind : ∀ (s : Shared) (u : Value), BindsTo s fd ⟨[u], []⟩ [(x, u)])
    (hsp : ∀ H : Hp, Only H → SqL K H a (ns.map V.int) → sp [.ref a] H (fun v _ => v = .bl true) fun _ _ _ => False)
    (hCX : ∀ H e s', CX [] H s₁ (fun _ _ _ => False) e s' → False) :
    codeAny (model P w) callerA (.call (.ref fa) ⟨[.ref a], []⟩) (fun r s' => r = .ok (.ret (.bool true)) ∧ OldK s₁.heap s'.heap ∧ s'.os = s₁.os ∧ AllBare s'.gens) s₁ := by
  have rv := vals_ints hi
  have lenV := hi.length
  have core : ∀ H : Hp, Only H → SqL K H a (ns.map V.int) → HOk P w H s₁.heap → (∀ b, H b ≠ none → b = a) → (H a ≠ none → K.lookup a = none) →
      codeAny (model P w) callerA (.call (.ref fa) ⟨[.ref a], []⟩) (fun r s' => r = .ok (.ret (.bool true)) ∧ OldK s₁.heap s'.heap ∧ s'.os = s₁.os ∧ AllBare s'.gens) s₁ := by
    intro H hO hS hok hA hK
    have base_of : ∀ {b : Addr} {o : Obj}, s₁.heap.get? b = some o → H b = none → (hidT s₁.heap H).get? b = some o := fun e n => hidT_get e n
    have noA : ∀ {b : Addr} {o : Obj} {es : Array DictEntry} {ep : Nat}, s₁.heap.get? b = some o → o.data = .dict es ep → H b = none := fun {b o es ep} e d => by
      cases q : H b with
      | none => rfl
      | some u =>
        have e' : b = a := hA b (by rw [q]; simp)
        subst e'
        rw [ha] at e; cases e
        have d' : Data.seq vs.toArray _ = Data.dict es ep := d
        cases d'
    have nsK : ∀ {b : Addr} {m : Str → Option Value}, s₁.heap.Ns b m → (hidT s₁.heap H).Ns b m := fun {b m} ⟨o, es, ep, e, d, r⟩ => ⟨o, es, ep, base_of e (noA e d), d, r⟩
    have hKb : K.In (hidT s₁.heap H) := fun b o e => base_of (KX b o e) (by
      cases q : H b with
      | none => rfl
      | some u =>
        have e' : b = a := hA b (by rw [q]; simp)
        subst e'
        rw [hK (by rw [q]; simp)] at e; cases e)
    have hM : Mod K mg (hidT s₁.heap H) := ⟨hKb, nsK hns, ⟨mb, nsK hb, hbb⟩, let ⟨mc, h1, h2⟩ := hlim; ⟨mc, nsK h1, h2⟩⟩
    have e0 : Env0 P w K mg (hidT s₁.heap H) callerA [] s₁ H := ⟨rfl, hM, fun b o e => of_hidT e, Nat.le_of_eq (hidT_size _ _), trivial, fun b hb => absurd (show b ∈ ([] : List Addr) from hb) (by simp), hok, .of_eq hg⟩
    refine codeAny_mono ((F _ hKb (nsK hns)).run callerA [] s₁ H ⟨[.ref a], []⟩ [.ref a] [.ref a] _ _ hr e0 (hbind s₁ (.ref a)) (.cons rfl .nil) (hsp H hO hS)) fun r s' h => ?_
    cases r with
    | error e => exact (hCX H e s' h).elim
    | ok fl =>
      cases fl with
      | next => exact False.elim h
      | brk => exact False.elim h
      | cont => exact False.elim h
      | ret u =>
        obtain ⟨v, H', os, bare, un, hok', r', q⟩ := h
        have q' : v = .bl true := q
        subst q'
        obtain rfl : u = Value.bool true := r'
        refine ⟨rfl, OldK.of_keep fun b o e => ?_, os, bare⟩
        cases q : H b with
        | none => exact un.keep b o e q (by intro z; exact absurd (show b ∈ ([] : List Addr) from z) (by simp)) (by simp)
        | some u =>
          rcases hO b with z | ⟨ob, xs, z⟩
          · rw [q] at z; cases z
          · have z2 := un.frzs b ob _ z
            obtain ⟨e1, _⟩ := hok b _ z
            obtain ⟨e2, _⟩ := hok' b _ z2
            rw [e] at e1; cases e1
            exact e2
  cases hk : K.lookup a with
  | some o =>
    have e := KX a o hk
    rw [ha] at e
    cases e
    refine core (fun _ => none) (fun _ => .inl rfl) (.inr ⟨_, vs.toArray, _, hk, rfl, rfl, rfl, by rw [List.size_toArray, lenV]; exact hl, by simpa using rv⟩) (fun b u z => by have z' : (none : Option HO) = some u := z; cases z') (fun b z => absurd rfl z) fun z => absurd rfl z
  | none =>
    refine core (fun b => if b = a then some (.frz { cls := .type "list", data := .seq vs.toArray } (.lst (ns.map V.int))) else none) (fun b => ?_) (.inl (.inr ⟨{ cls := .type "list", data := .seq vs.toArray }, if_pos rfl⟩)) (fun b u z => ?_) (fun b z => ?_) fun _ => hk
    · by_cases hb : b = a
      · exact .inr ⟨_, _, if_pos hb⟩
      · exact .inl (if_neg hb)
    · by_cases hb : b = a
      · have z' := (if_pos hb).symm.trans z
        cases z'
        subst hb
        exact ⟨ha, by rw [List.length_map]; exact hl, vs, _, rv, ha⟩
      · have z' := (if_neg hb).symm.trans z
        cases z'
    · by_cases hb : b = a
      · exact hb
      · exact absurd (if_neg hb) z
end L2
namespace L2
open PySem PySem.Spec PyProof.Rows
theorem walk_of {l : PySem.W.OpenLaw} {n k : Nat} {q : Program} {loose : List Str} {XP : (Str → Option Value) → Heap → Prop} {YP : World → Heap → Prop} {d : DefRec} {K : Params → PySem.W.Frag} {CX : World → CXT} {sp : World → Sp} {x : Str}
    (hn : l.most = some n) (hn2 : n ≤ sizeLine) (hdf : d.params.defaults = []) (hr : Room k callerA)
    (hY : ∀ (w : World) (h : Heap), YP w h → (K w.params).In h)
    (F : ∀ (w : World) (mg : Str → Option Value) (fa : Addr) (h : Heap), (K w.params).In h → h.Ns mainGlobals mg → mg d.name = some (.ref fa) →
      ∃ fd : FuncData, (∀ (s : Shared) (u : Value), BindsTo s fd ⟨[u], []⟩ [(x, u)]) ∧
        ∀ base : Heap, (K w.params).In base → base.Ns mainGlobals mg → FnOk l.prog w (K w.params) mg base (CX w) k fa fd [x] (sp w))
    (hsp : ∀ (w : World) (H : Hp) (a : Addr) (ns : List Int), ns.length ≤ n → Only H → SqL (K w.params) H a (ns.map V.int) → sp w [.ref a] H (fun v _ => v = .bl true) fun _ _ _ => False)
    (hCX : ∀ (w : World) (H : Hp) (s : Shared) (e : Value) (s' : Shared), CX w [] H s (fun _ _ _ => False) e s' → False) :
    PySem.W.WalkO q loose XP YP l.row.toRowW d [] (fun f vs => PySem.call f vs) := by
  refine Att.attach_call hn hdf fun w s₀ s₁ mg mb fa o pm cd doc a vs ns G Y ho hd hcd hmg hobj hints hlen hg => ?_
  have KX := hY w _ Y
  obtain ⟨fd, hb, hF⟩ := F w mg fa _ KX G.T.g hmg
  exact law_call KX G.T.g G.T.b G.T.builtins G.T.nolimit hg hobj hints (Nat.le_trans hlen hn2) hr hF hb (fun H hO hS => hsp w H a ns hlen hO hS) fun H e s' => hCX w H s₁ e s'
end L2
namespace L2
open PySem PySem.Spec PyProof.Rows
def defArgs (s : Stmt) : Arguments := match s with
  | .FunctionDef _ a _ _ _ _ _ _ _ _ => a
  | _ => { posonlyargs := [], args := [], vararg := none, kwonlyargs := [], kw_defaults := [], kwarg := none, defaults := [] }
def defBody (s : Stmt) : List Stmt := match s with
  | .FunctionDef _ _ b _ _ _ _ _ _ _ => b
  | _ => []
def defScope (s : Stmt) : Scope := match s with
  | .FunctionDef _ _ _ _ _ _ sc _ _ _ => sc
  | _ => { kind := .function, names := [], isGenerator := false, isCoroutine := false }
abbrev CX0 : CXT := fun _ _ _ _ _ _ => False
abbrev E0 : XK := fun _ _ _ => False
theorem pass0 {X : Cx} : Passes CX0 X E0 := fun _ _ _ _ _ _ _ h => h.elim
structure Fun (K : PySem.W.Frag) (x qual : Str) (st : Stmt) (f : Addr) (fd : FuncData) : Prop where
  ex : ∃ (oc : Value) (od : Option Addr) (kV doc pm : Value) (an : Option Addr) (cdv ct : Value) (osl : Array (Option Value)),
    fd = PySem.W.fnOf x qual (defArgs st) (defBody st) (defScope st) .none kV doc pm an cdv ct ∧ K.lookup f = some ⟨oc, od, .func fd, osl⟩ ∧ PySem.W.codeIn K cdv qual = true
  kp : PySem.W.keepIn K (.ref f) = true
section
variable {P : Program} {w : World} {K : PySem.W.Frag} {mg : Str → Option Value} {base : Heap}
theorem Fun.ok {x qual : Str} {st : Stmt} {f : Addr} {fd : FuncData} {N ps : List Str} {k : Nat} {sp : Sp} (F : Fun K x qual st f fd) (S : FnScope N ps (defScope st)) (len : ∀ vs H Q E, sp vs H Q E → vs.length = ps.length)
    (hbody : ∀ (cdv : Value) (A : Around) (outer : List Env) (s : Shared) (H : Hp) (vs : List V) (Q : VK) (E : XK), Room k (A.deeper (envOfC qual (defScope st) s.heap.objs.size f cdv)) → sp vs H Q E →
      ∃ t, PSs (cxOf CX0 P w K mg base N qual (defScope st) f cdv A outer s H E).nox (defBody st) t ∧ t { nx := fun _ H' => Q .non H', rt := Q } (start N vs) H) : FnOk P w K mg base CX0 (k + 1) f fd ps sp := by
  obtain ⟨oc, od, kV, doc, pm, an, cdv, ct, osl, rfl, lk, hcd⟩ := F.ex
  refine fn_of lk hcd S len fun A outer s H vs Q E hr hsp => ?_
  obtain ⟨t, h, q⟩ := hbody cdv A outer s H vs Q E hr hsp
  exact ⟨t, h.nox, q⟩
theorem Fun.binds {x qual : Str} {st : Stmt} {f : Addr} {fd : FuncData} {ps : List Str} (F : Fun K x qual st f fd)
    (h : ∀ (kV doc pm : Value) (an : Option Addr) (cdv ct : Value) (us : List Value), us.length = ps.length → bindArgs (PySem.W.fnOf x qual (defArgs st) (defBody st) (defScope st) .none kV doc pm an cdv ct) ⟨us, []⟩ = pure (ps.zip us)) : Binds K fd ps [] := by
  obtain ⟨oc, od, kV, doc, pm, an, cdv, ct, osl, rfl, lk, hcd⟩ := F.ex
  exact .all (h kV doc pm an cdv ct)
theorem fun_mk {x qual : Str} {st : Stmt} {f : Addr} {oc : Value} {od an : Option Addr} {osl : Array (Option Value)} {kV doc pm cdv ct : Value} (l : K.lookup f = some ⟨oc, od, .func (PySem.W.fnOf x qual (defArgs st) (defBody st) (defScope st) .none kV doc pm an cdv ct), osl⟩)
    (c : PySem.W.codeIn K cdv qual = true) (k : PySem.W.keepIn K (.ref f) = true) : Fun K x qual st f (PySem.W.fnOf x qual (defArgs st) (defBody st) (defScope st) .none kV doc pm an cdv ct) := ⟨⟨oc, od, kV, doc, pm, an, cdv, ct, osl, rfl, l, c⟩, k⟩
end
theorem hu_of {A : Around} {k : Nat} (hr : Room k A) : A.units + 1 < cLine := Nat.lt_of_le_of_lt (Nat.add_le_add_left (by decide : 1 ≤ 64) _) hr.units
theorem small1000 {n : Nat} (h : n ≤ 1000) : n < sizeLine := Nat.lt_of_le_of_lt h (by decide)
section
variable {X : Cx}
theorem pv (i : Nat) {x : Str} {pos : Pos} (hN : X.N[i]? = some x := by rfl) (hv : Vis X.env.scope x := by first | exact Or.inl rfl | exact Or.inr (Or.inl rfl) | exact Or.inr (Or.inr rfl)) (hd : (x == ("__debug__" : Str)) = false := by decide)
    (hcd : (x == ("__classdict__" : Str)) = false := by decide) : PE X (.Name x pos) (tVar i) := pe_var hN hv hd hcd
end
theorem iteF {A B : Prop} (h : B) : if false = true then A else B := by
  rw [if_neg Bool.false_ne_true]
  exact h
theorem iteT {A B : Prop} (h : A) : if true = true then A else B := by
  rw [if_pos rfl]
  exact h
theorem ite2 {c A B : Prop} [Decidable c] (h1 : c → A) (h2 : ¬ c → B) : if c then A else B := by
  by_cases h : c
  · rw [if_pos h]
    exact h1 h
  · rw [if_neg h]
    exact h2 h
def Same (H H' : Hp) : Prop := ∀ b o, H b = some o → H' b = some o
theorem Same.refl (H : Hp) : Same H H := fun _ _ h => h
theorem Same.trans {H H1 H2 : Hp} (a : Same H H1) (b : Same H1 H2) : Same H H2 := fun c o h => b c o (a c o h)
theorem Same.free {H H' : Hp} (e : Same H H') {l : Addr} (h : H' l = Option.none) : H l = Option.none := by
  cases q : H l with
  | none => rfl
  | some o =>
    rw [e l o q] at h
    cases h
theorem Same.seq {K : PySem.W.Frag} {H H' : Hp} {a : Addr} {xs : List V} (e : Same H H') (h : SqL K H a xs) : SqL K H' a xs := by
  rcases h with (h | ⟨o, h⟩) | h
  · exact .inl (.inl (e _ _ h))
  · exact .inl (.inr ⟨o, e _ _ h⟩)
  · exact .inr h
end L2
set_option Elab.async false
set_option linter.all false
set_option maxRecDepth 100000
namespace L2
open PySem PySem.Spec PyProof.Rows
section
variable {κ : Type} [DecidableEq κ]
def valV (kvs : List (κ × V)) (k : κ) : Option V := (kvs.find? fun kv => decide (kv.1 = k)).map (·.2)
theorem valV_pos {p : κ × V} {r : List (κ × V)} {k : κ} (e : p.1 = k) : valV (p :: r) k = some p.2 := by simp [valV, List.find?_cons, e]
theorem valV_neg {p : κ × V} {r : List (κ × V)} {k : κ} (e : ¬ p.1 = k) : valV (p :: r) k = valV r k := by simp [valV, List.find?_cons, e]
theorem RelO.isSome_eq {o : Option V} {u : Option Value} (r : RelO o u) : o.isSome = u.isSome := by
  cases o with
  | none => cases u with
    | none => rfl
    | some _ => exact (show False from r).elim
  | some _ => cases u with
    | none => exact (show False from r).elim
    | some _ => rfl
theorem KV.val {kvs : List (κ × V)} {vs : List (κ × Value)} (r : KV kvs vs) (k : κ) : RelO (valV kvs k) (valueAt vs k) := by
  unfold KV at r
  induction r with
  | nil => exact True.intro
  | @cons p q ps qs h t ih =>
    obtain ⟨h1, h2⟩ := h
    by_cases e : p.1 = k
    · have e' : q.1 = k := h1.symm.trans e
      have b : valueAt (q :: qs) k = some q.2 := by simp [valueAt, List.find?_cons, e']
      rw [valV_pos e, b]; exact h2
    · have e' : ¬ q.1 = k := fun z => e (h1.trans z)
      have b : valueAt (q :: qs) k = valueAt qs k := by simp [valueAt, List.find?_cons, e']
      rw [valV_neg e, b]; exact ih
end
theorem kV_is {P : Program} {w : World} {k : Key} {u : Value} (r : RelV (kV k) u) : (mixKind P w).is k u = true := by
  cases k with
  | inl i => obtain ⟨t, e⟩ := (show ∃ t, u = Value.int i t from r); subst e; exact mixKind_int P w i t
  | inr x => obtain ⟨t, e⟩ := (show ∃ t, u = Value.str x t from r); subst e; exact mixKind_str P w x t
theorem items_are {P : Program} {w : World} : ∀ {ks : List Key} {us : List Value}, Vals (ks.map kV) us → ItemsAre (mixKind P w) ks us
  | [], _, r => by rw [List.map_nil] at r; cases r; exact .nil
  | k :: ks, _, r => by
    rw [List.map_cons] at r
    cases r with
    | cons h t => exact .cons (kV_is h) (items_are t)
abbrev KT (H : Hp) : List (List Key × V) → List (List Key × Addr × Value) → Prop := Paired fun p q => p.1 = q.1 ∧ H q.2.1 = some (.tup (p.1.map kV)) ∧ RelV p.2 q.2.2
theorem KT.val {H : Hp} {kvs : List (List Key × V)} {xs : List (List Key × Addr × Value)} (r : KT H kvs xs) (k : List Key) : RelO (valV kvs k) ((atKey xs k).map (·.2)) := by
  induction r with
  | nil => exact True.intro
  | @cons p q ps qs h t ih =>
    obtain ⟨h1, _, h2⟩ := h
    by_cases e : p.1 = k
    · have e' : q.1 = k := h1.symm.trans e
      have b : atKey (q :: qs) k = some q.2 := by simp [atKey, List.find?_cons, e']
      rw [valV_pos e, b]; exact h2
    · have e' : ¬ q.1 = k := fun z => e (h1.trans z)
      have b : atKey (q :: qs) k = atKey qs k := by simp [atKey, List.find?_cons, e']
      rw [valV_neg e, b]; exact ih
section
variable {P : Program} {w : World} {H : Hp} {h : Heap} {a : Addr}
theorem rd_of {u : HO} (ok : HOk P w H h) (e : Rd H a u) : ObjOk P w H h a u := e.ok ok
theorem dk_rd {kvs : List (Key × V)} (ok : HOk P w H h) (e : Rd H a (.dK kvs)) : kvs.length ≤ sizeLine ∧ (a == sysModules) = false ∧ ∃ vs, KV kvs vs ∧ h.DictOf (mixKind P w) a vs :=
  show ObjOk P w H h a (.dK kvs) from rd_of ok e
theorem key_of {ks : List Key} (ok : HOk P w H h) (e : H a = some (.tup (ks.map kV))) : (tupleKind (mixKind P w)).is h ks a := by
  obtain ⟨_, its, r, o, h1, h2, n, h3⟩ := (show ObjOk P w H h a (.tup (ks.map kV)) from ok a _ e)
  exact ⟨o, its.toArray, n, h1, h2, h3, by simpa using items_are r⟩
theorem dt_rd {kvs : List (List Key × V)} (ok : HOk P w H h) (e : Rd H a (.dT kvs)) : kvs.length ≤ sizeLine ∧ (a == sysModules) = false ∧
    ∃ xs, KT H kvs xs ∧ h.DictOfH (tupleKind (mixKind P w)) a xs := by
  obtain ⟨z, y, xs, r, o, es, ep, h1, h2, h3, h4, h5⟩ := (show ObjOk P w H h a (.dT kvs) from rd_of ok e)
  refine ⟨z, y, xs, r, o, es, ep, h1, h2, h3, h4, fun x hx => ?_, h5⟩
  have all : ∀ {l : List (List Key × V)} {m : List (List Key × Addr × Value)}, KT H l m → ∀ x ∈ m, (tupleKind (mixKind P w)).is h x.1 x.2.1 := by
    intro l m q
    induction q with
    | nil => intro x hx; exact nomatch hx
    | @cons p q ps qs hq t ih =>
      intro x hx
      rcases List.mem_cons.mp hx with e | hx
      · subst e
        exact key_of ok (by rw [← hq.1]; exact hq.2.1)
      · exact ih x hx
  exact all r x hx
end
def DGet (H : Hp) (a : Addr) (y : V) (r : Option V) : Prop :=
  (∃ kvs k, Rd H a (.dK kvs) ∧ y = kV k ∧ r = valV kvs k) ∨ ∃ kvs k b, Rd H a (.dT kvs) ∧ y = .ref b ∧ H b = some (.tup (k.map kV)) ∧ r = valV kvs k
section
variable {X : Cx} {pins : List (Addr × Obj)} {σ : St} {H : Hp} {s : Shared} {a : Addr} {y v : V} {u r : Value} {o : Option V} {A : Around} {E : Value → Shared → Prop}
theorem Inv.big (I : Inv X pins σ H s) : sysModules < s.heap.objs.size := by
  have h : mainGlobals < s.heap.objs.size := (I.mod.glob.keeps I.bk).lt
  exact Nat.lt_trans (by decide) h
theorem d_getItem {Q : Value → Shared → Prop} (hu : A.units + 1 < cLine) (I : Inv X pins σ H s) (g : DGet H a y (some v)) (ry : RelV y u) (h : ∀ w' s', Inv X pins σ H s' → RelV v w' → Q w' s') :
    wpAny (model X.prog X.w) A (getItem (.ref a) u) Q E s := by
  rcases g with ⟨kvs, k, e, ey, l⟩ | ⟨kvs, k, b, e, ey, eb, l⟩
  · subst ey
    obtain ⟨z, hd, vs, rel, dd⟩ := dk_rd I.hok e
    obtain ⟨w', hw, rw'⟩ := RelO.some_of (v := v) (o := valueAt vs k) (by rw [l]; exact rel.val k)
    exact wpAny_getItem_of (kV_is ry) dd.mapOf hw (h w' _ (I.tok _) rw')
  · subst ey
    cases (show u = Value.ref b from ry)
    obtain ⟨z, hd, xs, rel, dd⟩ := dt_rd I.hok e
    obtain ⟨w', hw, rw'⟩ := RelO.some_of (v := v) (o := (atKey xs k).map (·.2)) (by rw [l]; exact rel.val k)
    obtain ⟨p, hp, hp2⟩ := Option.map_eq_some_iff.mp hw
    refine wpAny_getItem_heap (tupleKind_room_in1 hu) (key_of I.hok eb) dd hp ?_
    rw [hp2]
    exact h w' _ (I.tok _) rw'
theorem d_notIn {Q : Value → Shared → Prop} (hu : A.units + 1 < cLine) (I : Inv X pins σ H s) (g : DGet H a y o) (ry : RelV y u) (h : ∀ s', Inv X pins σ H s' → Q (.bool (!o.isSome)) s') :
    wpAny (model X.prog X.w) A (compareOp .NotIn u (.ref a)) Q E s := by
  rcases g with ⟨kvs, k, e, ey, l⟩ | ⟨kvs, k, b, e, ey, eb, l⟩
  · subst ey
    obtain ⟨z, hd, vs, rel, dd⟩ := dk_rd I.hok e
    refine wpAny_notIn_of (kV_is ry) hd dd.mapOf ?_
    rw [← (rel.val k).isSome_eq, ← l]
    exact h _ (I.tok _)
  · subst ey
    cases (show u = Value.ref b from ry)
    obtain ⟨z, hd, xs, rel, dd⟩ := dt_rd I.hok e
    refine wpAny_notIn_heap (tupleKind_room_in1 hu) (key_of I.hok eb) hd dd ?_
    have q := (rel.val k).isSome_eq
    rw [Option.isSome_map] at q
    rw [← q, ← l]
    exact h _ (I.tok _)
theorem dk_new {P : Program} {w : World} {H' : Hp} {h' : Heap} {kvs : List (Key × V)} {vs : List (Key × Value)} (z : kvs.length ≤ sizeLine) (hd : (a == sysModules) = false) (rel : KV kvs vs) (dd : h'.DictOf (mixKind P w) a vs) :
    ObjOk P w H' h' a (.dK kvs) := ⟨z, hd, vs, rel, dd⟩
end
section
variable {X : Cx} {pins : List (Addr × Obj)} {σ : St} {H : Hp} {s : Shared} {a : Addr} {kvs : List (Key × V)} {k : Key} {u : Value} {A : Around} {E : Value → Shared → Prop}
end
def NoSl (i : Expr) : Prop := ∀ ov iv, subscripted i false ov iv = operate [ov, iv] (getItem ov iv)
theorem subD_of {prog : Program} {w : World} {A : Around} {E : Value → Shared → Prop} {s : Shared} {env : Env} {value slice : Expr} {pos : Pos} {T id : String} {Q : Value → Shared → Prop}
    (hl : typeLookup (.type T) "__getitem__" = pure (some (.builtin id))) (hs : NoSl slice)
    (h : wpAny (model prog w) A (eval value env) (fun o s₁ => wpAny (model prog w) A (eval slice env) (fun i s₂ => s₂.TypeIs o T ∧ wpAny (model prog w) A (getItem o i) Q E s₂) E s₁) E s) :
    wpAny (model prog w) A (eval (.Subscript value slice pos) env) Q E s := by
  refine Subscript_ (wpAny_mono h (fun o s₁ h₁ => wpAny_mono h₁ (fun i s₂ h₂ => ?_) fun _ _ x => x) fun _ _ x => x)
  obtain ⟨hT, h₂⟩ := h₂
  unfold subscriptTail
  refine wpAny_bind ?_
  rw [getitemInPython_of_ne hT.not_modules]
  refine wpAny_bind (wpAny_specialOf hT hl ?_)
  have fin : wpAny (model prog w) A (subscripted slice false o i) (fun r s₃ => wpAny (model prog w) A (letTemporaryGo value o r >>= fun _ => pure r) Q E s₃) E s₂ := by
    rw [hs o i]
    exact wpAny_operating (wpAny_mono h₂ (fun r s₃ h₃ => wpAny_bind (wpAny_letTemporaryGo (wpAny_pure h₃))) fun _ _ x => x)
  first
    | exact wpAny_pure (wpAny_bind fin)
    | exact wpAny_bind (wpAny_pure (wpAny_bind fin))
    | exact wpAny_bind fin
theorem dict_typeIs {X : Cx} {pins : List (Addr × Obj)} {σ : St} {H : Hp} {s : Shared} {a : Addr} {y : V} {o : Option V} (I : Inv X pins σ H s) (g : DGet H a y o) : s.TypeIs (.ref a) "dict" := by
  rcases g with ⟨kvs, k, e, _, _⟩ | ⟨kvs, k, b, e, _, _, _⟩
  · obtain ⟨_, _, vs, _, dd⟩ := dk_rd I.hok e
    exact dd.typeIs
  · obtain ⟨_, _, xs, _, dd⟩ := dt_rd I.hok e
    exact dd.typeIs
def tDGet (td ty : TE) : TE := fun σ H Q => td σ H fun x H1 => ty σ H1 fun y H2 => ∃ a v, x = .ref a ∧ DGet H2 a y (some v) ∧ Q v H2
def tDNotIn (ty td : TE) : TE := fun σ H Q => ty σ H fun y H1 => td σ H1 fun x H2 => ∃ a o, x = .ref a ∧ DGet H2 a y o ∧ Q (.bl (!o.isSome)) H2
section
variable {X : Cx} {o i e value : Expr} {pos pos' tpos : Pos} {td ty tv : TE}
theorem pe_dget (hu : X.A.units + 1 < cLine) (ho : PE X o td) (hi : PE X i ty) (hs : NoSl i) : PE X (.Subscript o i pos) (tDGet td ty) := by
  intro pins s σ H Q I h
  refine subD_of PySem.F.slot_dict_getitem.lookup hs (thn (ho pins s σ H _ I h) fun u s1 ⟨x, H1, I1, rx, q1⟩ => thn (hi pins s1 σ H1 _ I1 q1) fun iv s2 ⟨y, H2, I2, ry, a, v, ex, g, q2⟩ => ?_)
  subst ex
  obtain rfl : u = Value.ref a := rx
  exact ⟨dict_typeIs I2 g, d_getItem hu I2 g ry fun w' s3 I3 rw' => ⟨v, H2, I3, rw', q2⟩⟩
theorem pc_dnotin (hu : X.A.units + 1 < cLine) (hi : PE X i ty) (ho : PE X o td) : PC X .NotIn i o (tDNotIn ty td) := by
  intro pins s σ H Q I h
  refine thn (hi pins s σ H _ I h) fun iv s1 ⟨y, H1, I1, ry, q1⟩ => thn (ho pins s1 σ H1 _ I1 q1) fun u s2 ⟨x, H2, I2, rx, a, ov, ex, g, q2⟩ => ?_
  subst ex
  obtain rfl : u = Value.ref a := rx
  exact d_notIn hu I2 g ry fun s3 I3 => ⟨.bl (!ov.isSome), H2, I3, rfl, q2⟩
end
section
variable {X : Cx} {pos : Pos}
end
structure M1 (X : Cx) (o : Expr) (m : Str) (apos : Pos) (e : Expr) (cpos : Pos) : Prop where
  base : attributeBase o m X.env (eval o X.env) = eval o X.env
  few : ((backTo cpos (starEach [e] X.env)).all (fun x => !x.1) && (backToKw cpos (keywordEach [] X.env)).all (fun x => x.1.isSome)
    && decide (([e] : List Expr).length + ([] : List Keyword).length + (if ([] : List Keyword).isEmpty then 0 else 1) < 30)) = true
  line : (apos.endLine == cpos.line) = true
  trees : backTo cpos (starEach [e] X.env) = [(false, eval e X.env)]
structure M2 (X : Cx) (o : Expr) (m : Str) (apos : Pos) (e f : Expr) (cpos : Pos) : Prop where
  base : attributeBase o m X.env (eval o X.env) = eval o X.env
  few : ((backTo cpos (starEach [e, f] X.env)).all (fun x => !x.1) && (backToKw cpos (keywordEach [] X.env)).all (fun x => x.1.isSome)
    && decide (([e, f] : List Expr).length + ([] : List Keyword).length + (if ([] : List Keyword).isEmpty then 0 else 1) < 30)) = true
  line : (apos.endLine == cpos.line) = true
  trees : backTo cpos (starEach [e, f] X.env) = [(false, eval e X.env), (false, eval f X.env)]
section
variable {X : Cx} {pins : List (Addr × Obj)} {σ : St} {H : Hp} {s : Shared} {a : Addr} {y d : V} {u r : Value} {o : Option V} {A : Around} {E : Value → Shared → Prop}
end
section
variable {X : Cx} {o e f : Expr} {apos cpos : Pos} {td ty tx : TE}
end
section
variable {X : Cx} {pins : List (Addr × Obj)} {σ : St} {H : Hp} {s : Shared} {a : Addr} {kvs : List (Key × V)} {A : Around} {E : Value → Shared → Prop}
end
section
variable {X : Cx} {pins : List (Addr × Obj)} {σ : St} {H : Hp} {s : Shared} {a : Addr} {y : V} {u : Value} {A : Around} {E : Value → Shared → Prop}
end
end L2
set_option Elab.async false
set_option maxHeartbeats 4000000
namespace L2
open PySem PySem.Spec PyProof.Rows
def clOf (env : Env) : List (Str × NameKind) → List (Str × Addr) → List (Str × Addr)
  | [], cs => cs
  | (n, k) :: r, cs => clOf env r (if k = .free then (n, (env.cells.lookup n).getD 0) :: cs else cs)
theorem clOf_eq {env : Env} : ∀ (ns : List (Str × NameKind)) (cs : List (Str × Addr)), (∀ x ∈ ns, x.2 = .free → ∃ c, env.cells.lookup x.1 = some c) →
    (forIn (m := Sem) ns cs fun (x : Str × NameKind) (r : List (Str × Addr)) => (if (x.2 == .free) = true then (do let a ← cellOf env x.1; pure (ForInStep.yield ((x.1, a) :: r))) else pure (ForInStep.yield r))) = pure (clOf env ns cs)
  | [], cs, _ => by simp [clOf]
  | (n, k) :: r, cs, h => by
    have ih := fun cs => clOf_eq r cs fun x hx => h x (List.mem_cons_of_mem _ hx)
    rw [List.forIn_cons]
    by_cases hk : k = .free
    · subst hk
      obtain ⟨c, hc⟩ := h (n, .free) List.mem_cons_self rfl
      have e1 : cellOf env n = pure c := by unfold cellOf; rw [hc]
      have hb : (NameKind.free == NameKind.free) = true := rfl
      simp only [hb, if_true, e1, pure_bind, clOf, hc, Option.getD_some]
      exact ih _
    · have hb : (k == NameKind.free) = false := by simpa using hk
      simp only [hb, Bool.false_eq_true, if_false, pure_bind, clOf, if_neg hk]
      exact ih _
theorem clOf_get {env : Env} : ∀ (ns : List (Str × NameKind)) (cs : List (Str × Addr)) (x : Str) (c : Addr), (∀ x ∈ ns, x.2 = .free → ∃ c, env.cells.lookup x.1 = some c) → (clOf env ns cs).lookup x = some c → cs.lookup x = some c ∨ env.cells.lookup x = some c
  | [], cs, x, c, _, e => .inl e
  | (n, k) :: r, cs, x, c, h, e => by
    have ih := clOf_get r (if k = .free then (n, (env.cells.lookup n).getD 0) :: cs else cs) x c (fun x hx => h x (List.mem_cons_of_mem _ hx)) e
    rcases ih with ih | ih
    · by_cases hk : k = .free
      · subst hk
        rw [if_pos rfl] at ih
        obtain ⟨d, hd⟩ := h (n, .free) List.mem_cons_self rfl
        have hd' : env.cells.lookup n = some d := hd
        rw [hd'] at ih
        rw [List.lookup_cons] at ih
        cases hx : x == n with
        | true =>
          rw [hx] at ih
          have : x = n := by simpa using hx
          subst this
          right
          rw [hd']
          exact ih
        | false =>
          rw [hx] at ih
          exact .inl ih
      · rw [if_neg hk] at ih
        exact .inl ih
    · exact .inr ih
theorem clOf_keep {env : Env} : ∀ (ns : List (Str × NameKind)) (cs : List (Str × Addr)) (x : Str), (∃ c, cs.lookup x = some c) → ∃ c, (clOf env ns cs).lookup x = some c
  | [], _, _, h => h
  | (n, k) :: r, cs, x, h => by
    refine clOf_keep r _ x ?_
    split
    · rw [List.lookup_cons]
      split
      · exact ⟨_, rfl⟩
      · exact h
    · exact h
theorem clOf_has {env : Env} : ∀ (ns : List (Str × NameKind)) (cs : List (Str × Addr)) (x : Str), (x, NameKind.free) ∈ ns → ∃ c, (clOf env ns cs).lookup x = some c
  | [], _, _, h => nomatch h
  | (n, k) :: r, cs, x, h => by
    rcases List.mem_cons.mp h with e | h
    · cases e
      refine clOf_keep r _ _ ⟨(env.cells.lookup n).getD 0, ?_⟩
      rw [if_pos rfl, List.lookup_cons, beq_self_eq_true]
    · exact clOf_has r _ x h
theorem closure_of {scope : Scope} {env : Env} (h : ∀ x ∈ scope.names, x.2 = .free → ∃ c, env.cells.lookup x.1 = some c) : closureFor scope env = pure (clOf env scope.names []) := by
  have e := clOf_eq scope.names [] h
  unfold closureFor
  simp only [] at e ⊢
  rw [e]
  rfl
theorem relabel_get {scope : Scope} {env : Env} {x : Str} {k : NameKind} : (relabel scope env).names.lookup x = some k → ∃ k', (x, k') ∈ scope.names ∧ (k = k' ∨ (k' = .free ∧ k = .cell)) := by
  intro h
  have all : ∀ (ns : List (Str × NameKind)), (ns.map fun (n, k) => if (k == NameKind.free && env.scope.kind == .function && env.kindOf n == some .cell) then (n, NameKind.cell) else (n, k)).lookup x = some k → ∃ k', (x, k') ∈ ns ∧ (k = k' ∨ (k' = .free ∧ k = .cell)) := by
    intro ns
    induction ns with
    | nil => intro h; simp at h
    | cons y r ih =>
      obtain ⟨n, k'⟩ := y
      intro h
      rw [List.map_cons, List.lookup_cons] at h
      by_cases hc : (k' == NameKind.free && env.scope.kind == .function && env.kindOf n == some .cell) = true
      · simp only [hc, if_true] at h
        cases hx : x == n with
        | true =>
          rw [hx] at h
          have e : x = n := by simpa using hx
          subst e
          have hk : k' = .free := by
            simp only [Bool.and_eq_true] at hc
            simpa using hc.1.1
          exact ⟨k', List.mem_cons_self, .inr ⟨hk, (Option.some.inj h).symm⟩⟩
        | false =>
          rw [hx] at h
          obtain ⟨k2, h1, h2⟩ := ih h
          exact ⟨k2, List.mem_cons_of_mem _ h1, h2⟩
      · simp only [hc, Bool.false_eq_true, if_false] at h
        cases hx : x == n with
        | true =>
          rw [hx] at h
          have e : x = n := by simpa using hx
          subst e
          exact ⟨k', List.mem_cons_self, .inl (Option.some.inj h).symm⟩
        | false =>
          rw [hx] at h
          obtain ⟨k2, h1, h2⟩ := ih h
          exact ⟨k2, List.mem_cons_of_mem _ h1, h2⟩
  exact all scope.names h
def Cx.comp (X : Cx) (scope : Scope) (N' : List Str) (C : Addr) (fp : List Addr) (s₀ : Shared) (H₀ : Hp) : Cx :=
  { X with N := N', s₀ := s₀, H₀ := H₀, env := compEnvC scope (clOf X.env scope.names []) C X.env, outer := X.stack, stack := X.stack, ex := fp, fn := fun _ => false, pn := [], xe := fun _ _ => False }
structure CompScope (X : Cx) (scope : Scope) : Prop where
  kind : scope.kind = .function
  nocell : ∀ x ∈ scope.names, x.2 ≠ .cell
  loc : ∀ x ∈ scope.names, x.2 = .local → scope.names.lookup x.1 = some .local
  free : ∀ x ∈ scope.names, x.2 = .free → X.env.kindOf x.1 = some .cell
section
variable {X : Cx} {pins : List (Addr × Obj)} {σ : St} {H : Hp} {s : Shared} {scope : Scope} {N' : List Str} {fp : List Addr}
theorem CompScope.cells (S : CompScope X scope) (ok : X.Ok) : ∀ x ∈ scope.names, x.2 = .free → ∃ c, X.env.cells.lookup x.1 = some c := fun x hx hk => ok.has x.1 (.inl (S.free x hx hk))
theorem CompScope.sub (S : CompScope X scope) (ok : X.Ok) {x : Str} {c : Addr} (e : (clOf X.env scope.names []).lookup x = some c) : X.env.cells.lookup x = some c := by
  rcases clOf_get scope.names [] x c (S.cells ok) e with h | h
  · cases h
  · exact h
theorem CompScope.ok (S : CompScope X scope) (I : Inv X pins σ H s) (hf : ∀ b ∈ fp, FpOk X pins H b) (ho : ∀ b ∈ fp, b < s.heap.objs.size) : (X.comp scope N' s.heap.objs.size fp s H).Ok where
  mod := I.ok.mod
  kind := S.kind
  glob := I.ok.glob
  blt := I.ok.blt
  above := Nat.le_refl _
  inj := fun x y c e1 e2 => I.ok.inj x y c (S.sub I.ok e1) (S.sub I.ok e2)
  has := fun x hx => by
    have hx' : (relabel scope X.env).names.lookup x = some .cell ∨ (relabel scope X.env).names.lookup x = some .free := hx
    have fr : (x, NameKind.free) ∈ scope.names := by
      rcases hx' with h | h
      · obtain ⟨k', h1, h2⟩ := relabel_get h
        rcases h2 with h2 | ⟨h2, _⟩
        · subst h2; exact absurd rfl (S.nocell _ h1)
        · subst h2; exact h1
      · obtain ⟨k', h1, h2⟩ := relabel_get h
        rcases h2 with h2 | ⟨h2, h3⟩
        · subst h2; exact h1
        · cases h3
    exact clOf_has scope.names [] x fr
  cab := fun x c h _ => by cases h
  hd := I.ok.hd
  frames := I.ok.frames
  stk := .inl rfl
  exf := fun b hb => ⟨Nat.ne_of_lt (ho b hb), fun x c e => (hf b hb).2.2.2.2.1 x c (S.sub I.ok e)⟩
  bs := I.bs
  bsz := Nat.le_trans I.ok.bsz I.sz
  noex := fun b o e hb => by
    rcases (hf b hb).2.2.2.1 with h | h
    · exact I.ok.noex b o e h
    · exact absurd (Nat.lt_of_lt_of_le (Heap.lt_size e) (Nat.le_trans I.ok.bsz h)) (Nat.lt_irrefl _)
  exfs := fun b hb hs => by
    rcases List.mem_cons.mp (I.stkSub b hs) with h | h
    · exact (hf b hb).2.1 h
    · exact (hf b hb).2.2.1 h
  funs := I.stack
  frf := I.stkFree
def capt (nl : Nat) (ix : List Nat) (σ : St) : St := List.replicate nl none ++ ix.map fun j => (σ[j]?).join
structure Capt (X : Cx) (scope : Scope) (N' : List Str) (nl : Nat) (ix : List Nat) : Prop where
  len : N'.length = nl + ix.length
  at' : ∀ (k j : Nat), ix[k]? = some j → ∃ x, X.N[j]? = some x ∧ N'[nl + k]? = some x ∧ X.env.kindOf x = some .cell ∧ (relabel scope X.env).names.lookup x = some .cell ∧ (x, NameKind.free) ∈ scope.names
theorem capt_inv {nl : Nat} {ix : List Nat} {h1 : Heap} {tk : Nat} (S : CompScope X scope) (Cp : Capt X scope N' nl ix) (I : Inv X pins σ H s) (hf : ∀ b ∈ fp, FpOk X pins H b) (ho : ∀ b ∈ fp, b < s.heap.objs.size)
    (hn : h1.Ns s.heap.objs.size (fun _ => none)) (hk : ∀ b o, s.heap.get? b = some o → h1.get? b = some o) : Inv (X.comp scope N' s.heap.objs.size fp s H) [] (capt nl ix σ) H { s with heap := h1, toks := tk } := by
  have ok := S.ok (N' := N') I hf ho
  refine ⟨ok, rfl, I.bare, Un.kept hk, ⟨_, hn, fun i x v e1 e2 e3 => ?_⟩, fun x c e => ?_, I.hok.fresh (Nat.le_refl _), fun x c e => I.freeC x c (S.sub I.ok e), fun p hp => by simp [Cx.comp] at hp, I.hok.kept hk, ?_⟩
  · unfold capt at e2
    rw [List.getElem?_append] at e2
    split at e2
    · rw [List.getElem?_replicate] at e2
      split at e2 <;> simp at e2
    · rename_i hi
      rw [List.length_replicate] at hi e2
      rw [List.getElem?_map] at e2
      cases ej : ix[i - nl]? with
      | none => rw [ej] at e2; simp at e2
      | some j =>
        rw [ej] at e2
        have e2' : (σ[j]?).join = some v := by simpa using e2
        have e2'' : σ[j]? = some (some v) := by
          cases q : σ[j]? with
          | none => rw [q] at e2'; simp at e2'
          | some z => rw [q] at e2'; simp at e2'; rw [e2']
        obtain ⟨x', a1, a2, a3, a4, a5⟩ := Cp.at' _ _ ej
        have hi2 : nl + (i - nl) = i := by (first | lia | omega)
        rw [hi2] at a2
        have e1' : N'[i]? = some x := e1
        rw [a2] at e1'
        cases e1'
        obtain ⟨m, hm, hl⟩ := I.loc
        obtain ⟨u, r, l⟩ := hl j x v a1 e2'' (.inr (.inl a3))
        refine ⟨u, r, ?_⟩
        rcases l with ⟨k, _⟩ | ⟨_, c, ec, z⟩
        · rw [k] at a3; cases a3
        · obtain ⟨c', hc'⟩ := clOf_has (env := X.env) scope.names [] x a5
          have ec' := S.sub I.ok hc'
          rw [ec] at ec'
          cases ec'
          obtain ⟨o, ho', hd⟩ := z
          exact .inr ⟨.inl a4, c, hc', o, hk _ _ ho', hd⟩
  · obtain ⟨v, o, ho', hd⟩ := I.cell x c (S.sub I.ok e)
    exact ⟨v, o, hk _ _ ho', hd⟩
  · show (capt nl ix σ).length = N'.length
    unfold capt
    rw [List.length_append, List.length_replicate, List.length_map, Cp.len]
theorem comp_back {H' : Hp} {σ' : St} {pins' : List (Addr × Obj)} {s' : Shared} {h' : Heap} (I : Inv X pins σ H s) (hf : ∀ b ∈ fp, FpOk X pins H b)
    (I' : Inv (X.comp scope N' s.heap.objs.size fp s H) pins' σ' H' s') (hs : Heap.SameBut s.heap.objs.size s'.heap h') : Inv X pins σ H' { s' with heap := h' } := by
  have lo : ∀ b o, s.heap.get? b = some o → b ≠ s.heap.objs.size := fun b o e => Nat.ne_of_lt (Heap.lt_size e)
  have B := I'.base
  refine I.call' (ch := fp) (show s'.os = s.os from I'.os) ⟨fun b o e n hb hx => ?_, fun b o e n hb hx => ?_, fun b o e n hx => B.free b o e n hx, fun b o e hx => ?_, B.tups, B.frzs, B.tbls⟩ (fun b u e => ?_) I'.bare fun b hb => ⟨(hf b hb).2.2.2.1, (hf b hb).2.1, (hf b hb).2.2.2.2.1, (hf b hb).2.2.2.2.2⟩
  · exact (hs.2 b (lo b o e)).trans (B.keep b o e n hb hx)
  · obtain ⟨sl, q⟩ := B.slot b o e n hb hx
    exact ⟨sl, (hs.2 b (lo b o e)).trans q⟩
  · obtain ⟨o', q⟩ := B.there b o e hx
    exact ⟨o', (hs.2 b (lo b o e)).trans q⟩
  · have nl : H' s.heap.objs.size = none := I'.free
    refine (I'.hok b u e).stay (fun c v hc q => (hs.2 c ?_).trans q) (fun _ q => q) fun _ _ q => q
    rintro rfl
    rcases hc with z | z
    · rw [← z, nl] at e; cases e
    · rw [nl] at z; cases z
end
def PIf (X : Cx) (ifs : List Expr) (t : TT) : Prop :=
  ∀ (pins : List (Addr × Obj)) (s : Shared) (σ : St) (H : Hp) (Q : Bool → Hp → Prop), Inv X pins σ H s → t σ H Q →
    wpAny (model X.prog X.w) X.A (forIn ifs true fun c r => if r = true then do let ok ← isTrue c X.env (eval c X.env); pure (ForInStep.yield ok) else pure (ForInStep.yield r)) (TP X pins σ Q) X.xe s
def tYes : TT := fun _ H Q => Q true H
theorem pif_nil {X : Cx} : PIf X [] tYes := fun _ _ _ H _ I h => wpAny_tests_nil ⟨H, I, h⟩
theorem pif_one {X : Cx} {c : Expr} {t : TT} (h : PT X c t) : PIf X [c] t := fun pins s σ H Q I hw => wpAny_tests_one (h pins s σ H Q I hw)
section
variable {prog : Program} {w : World} {A : Around} {R : Result → Shared → Prop} {s : Shared}
theorem compLoop_L {elt target iter : Expr} {ifs : List Expr} {scope : Scope} {pos : Pos} {it acc : Value} {env : Env} (I : Nat → Shared → Prop)
    (turn : ∀ n s, I n s → wpAny (model prog w) A (pyNext it) (fun r s₁ => match r with
      | none => R (.ok .next) s₁
      | some v => wpAny (model prog w) A (letOwnedTupleGo target it v) (fun _ s₁' => wpAny (model prog w) A (assign target env v) (fun _ s₂ =>
          wpAny (model prog w) A (forIn ifs true fun c r => if r = true then do let ok ← isTrue c env (eval c env); pure (ForInStep.yield ok) else pure (ForInStep.yield r)) (fun ok s₃ =>
            if ok = true then wpAny (model prog w) A (eval elt env) (fun x s₄ =>
              wpAny (model prog w) A (call (.builtin "list.append") [acc, x]) (fun _ s₅ => ∃ m, m < n ∧ I m s₅) (fun _ _ => False) s₄) (fun _ _ => False) s₃
            else ∃ m, m < n ∧ I m s₃) (fun _ _ => False) s₂) (fun _ _ => False) s₁') (fun _ _ => False) s₁) (fun _ _ => False) s)
    (n : Nat) (h : I n s) :
    codeAny (model prog w) A (.compLoop (.ListComp elt [⟨target, iter, ifs, 0⟩] scope pos) 0 it acc env) R s := by
  have no : ∀ {E : Value → Shared → Prop} (x : Value) (s : Shared), False → E x s := fun _ _ z => z.elim
  refine codeAny_loop rfl I (fun n s hI => ?_) n h
  show wpAny _ A ((compTurn (.ListComp elt [⟨target, iter, ifs, 0⟩] scope pos) 0 it acc env).onRaise (fun x => do noteFrame x env; theTreesLotGoes x)) _ _ s
  refine wpAny_noted ?_
  rw [compTurn_list]
  refine wpAny_bind (wpAny_standAt (wpAny_bind (wpAny_mono (turn n s hI) (fun r s₁ h₁ => ?_) no)))
  cases r with
  | none => exact wpAny_pure h₁
  | some v =>
    refine wpAny_bind (wpAny_mono h₁ (fun _ s₁' h₁' => wpAny_bind (wpAny_mono h₁' (fun _ s₂ h₂ => wpAny_bind (wpAny_mono h₂ (fun ok s₃ h₃ => ?_) no)) no)) no)
    cases ok with
    | false => exact wpAny_pure ⟨rfl, h₃⟩
    | true =>
      exact wpAny_bind (wpAny_bind (wpAny_mono h₃ (fun x s₄ h₄ => wpAny_bind (wpAny_mono h₄ (fun _ s₅ h₅ => wpAny_pure (wpAny_pure ⟨rfl, h₅⟩)) no)) no))
end
def tLComp (nl : Nat) (ix : List Nat) (wi : TI) (g : TG) (tf : TT) (te : TE) : TE := fun σ H Q => wi σ H fun J H1 => ∀ D, H1 D = none → ∃ W : Nat → Nat → List V → Hp → Prop, (∃ m, W 0 m [] (upd H1 D (.lst []))) ∧
  ∀ i m ys H2, W i m ys H2 → H2 D = some (.lst ys) ∧ ((J.stop i H2 ∧ Q (.ref D) H2) ∨ (J.go i H2 ∧ ∀ x H3, J.yld i H2 x H3 → g x (capt nl ix σ) H3 fun σ4 H4 => (σ4.length = (capt nl ix σ).length ∧ σ4.drop nl = ix.map fun j => (σ[j]?).join) ∧ tf σ4 H4 fun b H5 =>
    if b = true then te σ4 H5 fun y H6 => H6 D = some (.lst ys) ∧ ys.length < sizeLine ∧ ∃ m', m' < m ∧ W (i + 1) m' (ys ++ [y]) (upd H6 D (.lst (ys ++ [y]))) else ∃ m', m' < m ∧ W (i + 1) m' ys H5))
theorem capt_weak {X : Cx} {pins : List (Addr × Obj)} {σ σ4 : St} {H : Hp} {s : Shared} {nl : Nat} {ix : List Nat} (I : Inv X pins σ4 H s) (hl : σ4.length = (capt nl ix σ).length) (hd : σ4.drop nl = ix.map fun j => (σ[j]?).join) : Inv X pins (capt nl ix σ) H s := by
  refine I.weak hl.symm fun i v e => ?_
  unfold capt at e
  rw [List.getElem?_append] at e
  split at e
  · rw [List.getElem?_replicate] at e
    split at e <;> simp at e
  · rename_i hi
    rw [List.length_replicate] at hi e
    rw [← hd, List.getElem?_drop] at e
    have hi2 : nl + (i - nl) = i := by (first | lia | omega)
    rw [hi2] at e
    exact e
section
variable {X : Cx}
theorem pe_lcomp {elt tg iter : Expr} {ifs : List Expr} {scope : Scope} {pos : Pos} {N' : List Str} {nl : Nat} {ix : List Nat} {wi : TI} {g : TG} {tf : TT} {te : TE} (hc : X.calm = true) (S : CompScope X scope) (Cp : Capt X scope N' nl ix) (hi : PI X tg iter wi)
    (hg : ∀ C fp s₀ H₀, PG (X.comp scope N' C fp s₀ H₀) tg g) (hf : ∀ C fp s₀ H₀, PIf (X.comp scope N' C fp s₀ H₀) ifs tf) (he : ∀ C fp s₀ H₀, PE (X.comp scope N' C fp s₀ H₀) elt te)
    (hs : ∀ x, foldedSetIterable iter X.env x = pure x := by intro _; rfl) : PE X (.ListComp elt [⟨tg, iter, ifs, 0⟩] scope pos) (tLComp nl ix wi g tf te) := by
  intro pins s σ H Q I h
  rw [eval_ListComp]
  refine wpAny_comprehension_free (use := none) (cl := clOf X.env scope.names []) rfl hs (closure_of (S.cells I.ok)) S.kind S.loc ?_
  refine thn (hi pins s σ H _ I h) fun v s1 h1 => thn h1 fun itv s2 h2 => ?_
  obtain ⟨it, fp, tn, J, H2, rfl, I2, T, st2, f2, h2⟩ := h2
  obtain ⟨W, ⟨m0, w0⟩, turn⟩ := h2 s2.heap.objs.size I2.fresh
  refine wpAny_newObj_type (wpAny_newFunctionEnv S.nocell (by intro y hy; simp at hy) (fun h₁ hns₁ hsb₁ => ?_) S.kind)
  dsimp only at hns₁ hsb₁ ⊢
  have fpo : ∀ b ∈ fp, b < s2.heap.objs.size := fun b hb => by
    obtain ⟨o, e, _⟩ := T.obj 0 _ st2 b hb
    exact Heap.lt_size e
  have I3 : Inv X pins σ (upd H2 s2.heap.objs.size (.lst [])) { s2 with heap := s2.heap.push { cls := .type "list", data := .seq ([] : List Value).toArray }, toks := s2.toks } := I2.lnew .nil (Nat.zero_le _)
  have hD : (upd H2 s2.heap.objs.size (.lst [])) s2.heap.objs.size = some (.lst []) := upd_same
  have f3 : ∀ b ∈ fp, FpOk X pins (upd H2 s2.heap.objs.size (.lst [])) b := fun b hb => by
    refine ⟨?_, (f2 b hb).2⟩
    rw [upd_ne (Nat.ne_of_lt (fpo b hb))]
    exact (f2 b hb).1
  generalize hS3 : s2.heap.push { cls := .type "list", dict := none, data := .seq ([] : List Value).toArray } = g3 at hns₁ hsb₁ I3 ⊢
  have sz3 : g3.objs.size = s2.heap.objs.size + 1 := by rw [← hS3, Heap.size_push]
  have fpo3 : ∀ b ∈ fp, b < ({ s2 with heap := g3, toks := s2.toks } : Shared).heap.objs.size := fun b hb => by
    show b < g3.objs.size
    rw [sz3]
    exact Nat.lt_succ_of_lt (fpo b hb)
  have old : ∀ b o, g3.get? b = some o → h₁.get? b = some o := fun b o e => hsb₁.extBut b o (Nat.ne_of_lt (Heap.lt_size e)) (Heap.get?_push_of_some _ e)
  have I4 := capt_inv (tk := s2.toks + ([] : List (Str × Value)).length) S Cp I3 f3 fpo3 hns₁ old
  generalize hX : X.comp scope N' g3.objs.size fp { s2 with heap := g3, toks := s2.toks } (upd H2 s2.heap.objs.size (.lst [])) = X' at *
  have hPr : X'.prog = X.prog := by rw [← hX]; rfl
  have hWr : X'.w = X.w := by rw [← hX]; rfl
  have hKr : X'.K = X.K := by rw [← hX]; rfl
  have hAr : X'.A = X.A := by rw [← hX]; rfl
  have hCa : X'.calm = true := by rw [← hX]; exact hc
  have hXe : X'.xe = fun _ _ => False := by rw [← hX]; rfl
  have hEx : X'.ex = fp := by rw [← hX]; rfl
  have hPn : X'.pn = [] := by rw [← hX]; rfl
  have hLo : X'.env.locals = g3.objs.size := by rw [← hX]; rfl
  have hEn : X'.env = compEnvC scope (clOf X.env scope.names []) g3.objs.size X.env := by rw [← hX]; rfl
  have hg' := hg g3.objs.size fp { s2 with heap := g3, toks := s2.toks } (upd H2 s2.heap.objs.size (.lst []))
  have hf' := hf g3.objs.size fp { s2 with heap := g3, toks := s2.toks } (upd H2 s2.heap.objs.size (.lst []))
  have he' := he g3.objs.size fp { s2 with heap := g3, toks := s2.toks } (upd H2 s2.heap.objs.size (.lst []))
  rw [hX] at hg' hf' he'
  have I4' : Inv X' [] (capt nl ix σ) (upd H2 s2.heap.objs.size (.lst [])) { s2 with heap := h₁, toks := s2.toks + ([] : List (Str × Value)).length } := I4
  have back : ∀ {H' : Hp} {σ' : St} {pins' : List (Addr × Obj)} {s' : Shared} {h' : Heap}, Inv X' pins' σ' H' s' → Heap.SameBut g3.objs.size s'.heap h' → Inv X pins σ H' { s' with heap := h' } := fun I' sb => by
    subst hX
    exact comp_back I3 f3 I' sb
  have stat : ∀ {H' : Hp}, (∀ b ∈ fp, H' b = none) → ∀ b ∈ fp, FpOk X' [] H' b := fun hn b hb => by
    refine ⟨hn b hb, ?_, ?_, .inl (by rw [hEx]; exact hb), ?_, fun p hp => by rw [hPn] at hp; cases hp⟩
    · rw [hLo]; exact Nat.ne_of_lt (fpo3 b hb)
    · exact I4'.ok.exfs b (by rw [hEx]; exact hb)
    · exact (I4'.ok.exf b (by rw [hEx]; exact hb)).2
  have loop : codeAny (model X.prog X.w) X.A (.compLoop (.ListComp elt [⟨tg, iter, ifs, 0⟩] scope pos) 0 (.ref it) (.ref s2.heap.objs.size) X'.env)
      (compPost (model X.prog X.w) X.A X.xe none (EP X pins σ Q) (.ref s2.heap.objs.size) g3.objs.size) { s2 with heap := h₁, toks := s2.toks + ([] : List (Str × Value)).length } := by
    rw [← hPr, ← hWr, ← hAr]
    refine compLoop_L (fun n s' => ∃ i ys H', Inv X' [] (capt nl ix σ) H' s' ∧ tn i s'.heap ∧ (∀ b ∈ fp, H' b = none) ∧ W i n ys H') ?_ m0
      ⟨0, [], _, I4', T.keep _ _ _ st2 (fun b hb o e => old b o (by rw [← hS3]; exact Heap.get?_push_of_some _ e)), fun b hb => (f3 b hb).1, w0⟩
    rintro n s5 ⟨i, ys, H5, I5, st5, fr5, w5⟩
    obtain ⟨hD5, alt⟩ := turn i n ys H5 w5
    rcases alt with ⟨stop, qn⟩ | ⟨go, step⟩
    · rw [hPr, hWr]
      refine thn (T.done X' hPr hWr hKr hCa i [] s5 _ H5 _ I5 (stat fr5) st5 stop) fun r s6 ⟨hr, I6⟩ => ?_
      subst hr
      obtain ⟨m, hn, _⟩ := I6.loc
      rw [hLo] at hn
      exact ⟨m, hn, fun h' sb => ⟨.ref s2.heap.objs.size, H5, back I6 sb, rfl, qn⟩⟩
    · have it5 := T.item X' hPr hWr hKr hCa i [] s5 _ H5 (fun _ _ => False) I5 (stat fr5) st5 go
      rw [← hPr, ← hWr] at it5
      refine thn it5 fun r s6 ⟨u, hr, h6⟩ => ?_
      subst hr
      refine thn h6 fun _ s7 ⟨x, H7, I7, r7, y7, st7, fr7⟩ => ?_
      have I7' := I7.pinned (stat fr7) (T.obj _ _ st7)
      have g7 := hg' _ s7 _ H7 x u _ I7' r7 (step x H7 y7)
      rw [hXe] at g7
      refine thn g7 fun _ s8 ⟨σ8, H8, I8, ⟨hl8, hd8⟩, q8⟩ => ?_
      have f8 := hf' _ s8 σ8 H8 _ I8 q8
      rw [hXe] at f8
      refine thn f8 fun ok s9 ⟨H9, I9, q9⟩ => ?_
      have again : ∀ {H10 : Hp} {s10 : Shared} {ys' : List V}, Inv X' ([] ++ pinsAt fp s7.heap) σ8 H10 s10 → (∃ m', m' < n ∧ W (i + 1) m' ys' H10) → ∃ m, m < n ∧ ∃ i ys H', Inv X' [] (capt nl ix σ) H' s10 ∧ tn i s10.heap ∧ (∀ b ∈ fp, H' b = none) ∧ W i m ys H' := fun {H10 s10 ys'} I10 ⟨m', hm, w'⟩ => by
        refine ⟨m', hm, i + 1, ys', H10, capt_weak I10.unpinned hl8 hd8, T.keep _ _ _ st7 fun b hb o e => (I10.pin (b, o) (List.mem_append_right _ (List.mem_append_right _ (mem_pinsAt hb e)))).1, fun b hb => ?_, w'⟩
        obtain ⟨o, e, d⟩ := T.obj _ _ st7 b hb
        exact (I10.pin (b, o) (List.mem_append_right _ (List.mem_append_right _ (mem_pinsAt hb e)))).2.1
      cases ok with
      | false =>
        rw [if_neg Bool.false_ne_true] at q9 ⊢
        exact again I9 q9
      | true =>
        rw [if_pos rfl] at q9 ⊢
        have e9 := he' _ s9 σ8 H9 _ I9 q9
        rw [hXe] at e9
        refine thn e9 fun xv s10 ⟨y, H10, I10, r10, hD10, hz, mw⟩ => ?_
        have a10 := mt_append (X := X') _ s10 σ8 H10 (.ref s2.heap.objs.size) [y] _ [xv] (fun _ H' => H' = upd H10 s2.heap.objs.size (.lst (ys ++ [y]))) I10 rfl (.cons r10 .nil) ⟨_, ys, y, rfl, rfl, hD10, hz, rfl⟩
        rw [hXe] at a10
        refine thn a10 fun _ s11 ⟨_, H11, I11, _, e11⟩ => ?_
        subst e11
        exact again I11 mw
  rw [hEn] at loop
  exact codeAny_compStart_list loop (T.self _ 0 _ _ _ (T.keep _ _ _ st2 (fun b hb o e => old b o (by rw [← hS3]; exact Heap.get?_push_of_some _ e))) loop)
end
end L2
set_option Elab.async false
set_option maxHeartbeats 4000000
namespace L2
open PySem PySem.Spec PyProof.Rows
theorem strsAre_of : ∀ {ss : List Str} {us : List Value}, Vals (ss.map V.str) us → StrsAre us ss
  | [], _, .nil => .nil
  | _ :: _, _, .cons r t => by
    obtain ⟨k, rfl⟩ := r
    exact .cons _ k (strsAre_of t)
theorem of_strsAre : ∀ {ss : List Str} {us : List Value}, StrsAre us ss → Vals (ss.map V.str) us
  | _, _, .nil => .nil
  | _, _, .cons y t h => .cons ⟨t, rfl⟩ (of_strsAre h)
theorem all_getD : ∀ bs : List Bool, (List.range bs.length).all (fun i => bs.getD i false) = bs.all id
  | [] => rfl
  | b :: r => by
    rw [List.length_cons, List.range_succ_eq_map, List.all_cons, List.all_map, List.all_cons, ← all_getD r]
    rfl
section
variable {X : Cx}
theorem call_all (hc : X.calm = true) : CallR X (.builtin "all") (fun xs H Q => ∃ (p : Addr) (bs : List Bool), xs = [.ref p] ∧ SqL X.K H p (bs.map V.bl) ∧ Q (.bl (bs.all id)) H) := by
  intro pins s σ H xs us Q I r h
  obtain ⟨p, bs, rfl, hq, q⟩ := h
  obtain ⟨u, rfl, rx⟩ := vals1 r
  cases rx
  obtain ⟨its, rv, pl, hz⟩ := I.list hq
  have hh : X.A.in1.handled = none := I.ok.hd hc
  have hlt : p < s.heap.objs.size := by obtain ⟨o, e, _⟩ := pl.isList; exact Heap.lt_size e
  have hlen := rv.length
  rw [List.length_map] at hlen
  refine call_all_walk (wpAny_pyIter_list pl.isList ?_)
  refine ⟨s.heap.objs.size, _, _, _, _, _, fun i => bs.getD i false, rfl, Walks.list hh s.heap.objs.size p (Nat.ne_of_lt hlt) its.toArray, ⟨⟨_, Heap.get?_push_size _ rfl, rfl, rfl⟩, pl.isList.push _⟩, fun i v s' Q' E' hv hq' => ?_, fun h' tk hk => ?_⟩
  · have hv' : its[i]? = some v := by simpa using hv
    have hi : i < its.length := (List.getElem?_eq_some_iff.mp hv').1
    have hb : bs[i]? = some (bs.getD i false) := by
      rw [List.getD_eq_getElem?_getD]
      rw [List.getElem?_eq_getElem (by (first | lia | omega))]
      rfl
    obtain ⟨u, hu, ru⟩ := rv.get (i := i) (x := .bl (bs.getD i false)) (by rw [List.getElem?_map, hb]; rfl)
    rw [hv'] at hu
    cases hu
    cases ru
    exact wpAny_truthy_bool hq'
  · have e : (List.range its.toArray.size).all (fun i => bs.getD i false) = bs.all id := by
      rw [List.size_toArray, ← hlen, all_getD]
    rw [e]
    refine ⟨.bl _, H, ?_, rfl, q⟩
    refine (I.kept (t' := s.toks) (h' := s.heap.push { cls := .type "list_iterator", data := .fields #[.ref p, .int 0 0] }) fun b o e => Heap.get?_push_of_some _ e).turned (it := s.heap.objs.size) (t' := tk) (h' := h') (fun b o hb e => hk b o (by simpa using hb) e) I.fresh (Nat.ne_of_gt I.lt) (.inr I.sz) (fun x c e z => ?_) fun p' hp z => ?_
    · obtain ⟨v, q⟩ := I.cell x c e
      exact absurd (z ▸ q.lt) (Nat.lt_irrefl _)
    · exact absurd (z ▸ Heap.lt_size (I.pin p' hp).1) (Nat.lt_irrefl _)
theorem call_sum (hc : X.calm = true) : CallR X (.builtin "sum") (fun xs H Q => ∃ (p : Addr) (ns : List Int), xs = [.ref p] ∧ SqL X.K H p (ns.map V.int) ∧ (∀ n ∈ ns, 0 ≤ n ∧ n ≤ 1000000) ∧ ns.length ≤ 1000000 ∧ Q (.int ns.sum) H) := by
  intro pins s σ H xs us Q I r h
  obtain ⟨p, ns, rfl, hq, hb, hl, q⟩ := h
  obtain ⟨u, rfl, rx⟩ := vals1 r
  cases rx
  obtain ⟨its, rv, pl, hz⟩ := I.list hq
  have hh : X.A.in1.handled = none := I.ok.hd hc
  have hlt : p < s.heap.objs.size := by obtain ⟨o, e, _⟩ := pl.isList; exact Heap.lt_size e
  have hlen := rv.length
  rw [List.length_map] at hlen
  have hbd : ∀ i, 0 ≤ ns.getD i 0 ∧ ns.getD i 0 ≤ 1000000 := fun i => by
    rw [List.getD_eq_getElem?_getD]
    cases e : ns[i]? with
    | none => simp
    | some z => exact hb z (List.mem_of_getElem? e)
  have hpre : ∀ j : Nat, 0 ≤ preSum (fun i => ns.getD i 0) j ∧ preSum (fun i => ns.getD i 0) j ≤ 1000000 * (j : Int) := fun j => by
    induction j with
    | zero => simp [preSum]
    | succ j ih =>
      have := hbd j
      simp only [preSum]
      (first | lia | omega)
  refine call_sum_walk (wpAny_pyIter_list pl.isList ?_)
  refine ⟨s.heap.objs.size, _, _, _, _, _, fun i => ns.getD i 0, rfl, Walks.list hh s.heap.objs.size p (Nat.ne_of_lt hlt) its.toArray, ⟨⟨_, Heap.get?_push_size _ rfl, rfl, rfl⟩, pl.isList.push _⟩, fun b hb => ?_, fun i v hv => ?_, fun j hj => ?_, fun h' tk t' hk => ?_⟩
  · show b < (s.heap.push _).objs.size
    rw [Heap.size_push]
    rcases List.mem_cons.mp hb with rfl | hb
    · exact Nat.lt_succ_self _
    · rw [List.mem_singleton.mp hb]; exact Nat.lt_succ_of_lt hlt
  · have hv' : its[i]? = some v := by simpa using hv
    have hi : i < its.length := (List.getElem?_eq_some_iff.mp hv').1
    have hb : ns[i]? = some (ns.getD i 0) := by
      rw [List.getD_eq_getElem?_getD]
      rw [List.getElem?_eq_getElem (by (first | lia | omega))]
      rfl
    obtain ⟨u, hu, ru⟩ := rv.get (i := i) (x := .int (ns.getD i 0)) (by rw [List.getElem?_map, hb]; rfl)
    rw [hv'] at hu
    cases hu
    exact ru
  · have h1 := hbd j
    have h2 := hpre (j + 1)
    have h3 : j < its.length := by simpa using hj
    refine ⟨⟨by show -(2 ^ 63) ≤ ns.getD j 0; (first | lia | omega), by show ns.getD j 0 < 2 ^ 63; (first | lia | omega)⟩, by (first | lia | omega), ?_⟩
    have h4 : ((j + 1 : Nat) : Int) ≤ 1000000 := by (first | lia | omega)
    (first | lia | omega)
  · have e : preSum (fun i => ns.getD i 0) its.toArray.size = ns.sum := by
      have all : ∀ (k : Nat) (l : List Int), k ≤ l.length → preSum (fun i => l.getD i 0) k = (l.take k).sum := fun k => by
        induction k with
        | zero => intro l _; simp [preSum]
        | succ k ih =>
          intro l hk
          rw [preSum, ih l (by (first | lia | omega)), List.take_add_one, List.sum_append, List.getD_eq_getElem?_getD, List.getElem?_eq_getElem (by (first | lia | omega))]
          simp
      rw [List.size_toArray, ← hlen, all _ ns (Nat.le_refl _), List.take_length]
    rw [e]
    refine ⟨.int _, H, ?_, ⟨_, rfl⟩, q⟩
    refine (I.kept (t' := s.toks) (h' := s.heap.push { cls := .type "list_iterator", data := .fields #[.ref p, .int 0 0] }) fun b o e => Heap.get?_push_of_some _ e).turned (it := s.heap.objs.size) (t' := tk) (h' := h') (fun b o hb e => hk b o (by simpa using hb) e) I.fresh (Nat.ne_of_gt I.lt) (.inr I.sz) (fun x c e z => ?_) fun p' hp z => ?_
    · obtain ⟨v, q⟩ := I.cell x c e
      exact absurd (z ▸ q.lt) (Nat.lt_irrefl _)
    · exact absurd (z ▸ Heap.lt_size (I.pin p' hp).1) (Nat.lt_irrefl _)
theorem call_sorted : CallR X (.builtin "sorted") (fun xs H Q => ∃ (p : Addr) (ss : List Str), xs = [.ref p] ∧ SqL X.K H p (ss.map V.str) ∧ ss.length < 64 ∧ ∀ (l : Addr) (ss' : List Str), H l = none → ss'.Perm ss → sortedS ss' = true → Q (.ref l) (upd H l (.lst (ss'.map V.str)))) := by
  intro pins s σ H xs us Q I r h
  obtain ⟨p, ss, rfl, hq, hl, q⟩ := h
  obtain ⟨u, rfl, rx⟩ := vals1 r
  cases rx
  obtain ⟨its, rv, pl, hz⟩ := I.list hq
  have hlen := rv.length
  rw [List.length_map] at hlen
  refine sorted_strs pl.isList (strsAre_of rv) (by (first | lia | omega)) fun out ss' a1 a2 a3 => ?_
  obtain ⟨e, he⟩ := sortedAll_at s.heap its out
  have hlen' : ss'.length = ss.length := a2.length_eq
  refine ⟨.ref (s.heap.objs.size + 1), _, I.laid (t' := s.toks) (o := .lst (ss'.map V.str)) (fun b o e => sortedAll_old e) (Nat.le_succ _) ⟨?_, out.toList, e, of_strsAre a1, ?_⟩, rfl, q _ ss' (I.hok.fresh (Nat.le_succ _)) a2 a3⟩
  · rw [List.length_map]
    exact Nat.le_of_lt (Nat.lt_of_lt_of_le (by (first | lia | omega) : ss'.length < 64) (by decide))
  · simpa using he
def rCount : V → List V → Hp → VK → Prop := fun x vs H Q => ∃ (l : Addr) (ss : List Str) (k : Str), x = .ref l ∧ vs = [.str k] ∧ H l = some (.lst (ss.map V.str)) ∧ Q (.int (ss.count k)) H
theorem countIn_str (k : Str) : ∀ ss : List Str, countIn (.str k) (ss.map PyData.str) = ((ss.count k : Nat) : Int) := by
  intro ss
  induction ss with
  | nil => rfl
  | cons y r ih =>
    rw [List.map_cons, countIn, ih, List.count_cons]
    by_cases e : y = k
    · subst e
      have e1 : same (.str y) (.str y) = true := same_refl _
      rw [if_pos e1, beq_self_eq_true, if_pos rfl]
      (first | lia | omega)
    · have e1 : ¬ same (.str y) (.str k) = true := by simpa [same] using e
      have e2 : (y == k) = false := by simpa using e
      rw [if_neg e1, e2]
      simp
theorem mt_count : MtM X "list.count" rCount := by
  intro pins s σ H x vs v us Q I rx rv h
  obtain ⟨l, ss, k, rfl, rfl, hH, q⟩ := h
  cases rx
  obtain ⟨u, rfl, t, rfl⟩ := rv.one
  obtain ⟨its, r, pl, hz⟩ := I.list (SqL.of hH)
  refine count_list_strs pl.isList (strsAre_of r) ⟨.int (ss.count k), H, I.tok _, ⟨s.toks, ?_⟩, q⟩
  rw [countIn_str]
def rJoin : V → List V → Hp → VK → Prop := fun x vs H Q => ∃ (z : Str) (l : Addr) (ss : List Str), x = .str z ∧ vs = [.ref l] ∧ SqL X.K H l (ss.map V.str) ∧ (ss.map (·.length)).sum + ss.length * z.length ≤ 16777216 ∧ Q (.str (Txt.join z ss)) H
theorem mt_join : MtM X "str.join" (rJoin (X := X)) := by
  intro pins s σ H x vs v us Q I rx rv h
  obtain ⟨z, l, ss, rfl, rfl, hq, hz, q⟩ := h
  obtain ⟨t, rfl⟩ := rx
  obtain ⟨u, rfl, ru⟩ := rv.one
  cases ru
  obtain ⟨its, r, pl, _⟩ := I.list hq
  exact join_list pl.isList (by simpa using strsAre_of r) hz fun t' k => ⟨.str _, H, I.tok _, ⟨t', rfl⟩, q⟩
end
end L2
set_option Elab.async false
set_option maxHeartbeats 4000000
namespace L2
open PySem PySem.Spec PyProof.Rows
mutual
inductive Sees (H : Hp) : V → PyData → Prop
  | non : Sees H .non .none
  | bl (b : Bool) : Sees H (.bl b) (.bool b)
  | int (i : Int) : Sees H (.int i) (.int i)
  | str (x : Str) : Sees H (.str x) (.str x)
  | lst {a : Addr} {vs : List V} {ds : List PyData} : H a = some (.lst vs) → SeesAll H vs ds → Sees H (.ref a) (.list ds)
  | tup {a : Addr} {vs : List V} {ds : List PyData} : H a = some (.tup vs) → SeesAll H vs ds → Sees H (.ref a) (.tuple ds)
inductive SeesAll (H : Hp) : List V → List PyData → Prop
  | nil : SeesAll H [] []
  | cons {v : V} {vs : List V} {d : PyData} {ds : List PyData} : Sees H v d → SeesAll H vs ds → SeesAll H (v :: vs) (d :: ds)
end
mutual
theorem Sees.reads {P : Program} {w : World} {H : Hp} {h : Heap} (ok : HOk P w H h) : ∀ {d : PyData} {v : V} {u : Value}, Sees H v d → RelV v u → ∃ as, Reads h u d as
  | _, _, _, .non, r => by cases r; exact ⟨_, .none⟩
  | _, _, _, .bl b, r => by cases r; exact ⟨_, .bool b⟩
  | _, _, _, .int i, r => by obtain ⟨t, rfl⟩ := r; exact ⟨_, .int i t⟩
  | _, _, _, .str x, r => by obtain ⟨t, rfl⟩ := r; exact ⟨_, .str x t⟩
  | _, _, _, .lst e q, r => by
    cases r
    obtain ⟨_, its, n, rv, g⟩ := ok _ _ e
    obtain ⟨as, ra⟩ := SeesAll.reads ok q rv
    exact ⟨_, .list g rfl rfl (by simpa using ra)⟩
  | _, _, _, .tup e q, r => by
    cases r
    obtain ⟨_, its, rv, o, g, hc, n, hd⟩ := ok _ _ e
    obtain ⟨as, ra⟩ := SeesAll.reads ok q rv
    exact ⟨_, .tuple g hc hd (by simpa using ra)⟩
theorem SeesAll.reads {P : Program} {w : World} {H : Hp} {h : Heap} (ok : HOk P w H h) : ∀ {ds : List PyData} {vs : List V} {us : List Value}, SeesAll H vs ds → Vals vs us → ∃ as, ReadsAll h us ds as
  | _, _, _, .nil, r => by cases r; exact ⟨_, .nil⟩
  | _, _, _, .cons a b, r => by
    cases r with
    | cons r1 r2 =>
      obtain ⟨_, x⟩ := Sees.reads ok a r1
      obtain ⟨_, y⟩ := SeesAll.reads ok b r2
      exact ⟨_, .cons x y⟩
end
theorem SeesAll.strs {H : Hp} : ∀ ss : List Str, SeesAll H (ss.map V.str) (ss.map PyData.str)
  | [] => .nil
  | s :: r => .cons (.str s) (SeesAll.strs r)
section
variable {X : Cx}
def rEqD (A : Around) (neg : Bool) : R2 := fun x y H Q => ∃ da db, Sees H x da ∧ Sees H y db ∧ da.canLay0 = true ∧ db.canLay0 = true ∧ A.units + min da.depth db.depth < cLine ∧ Q (.bl (if neg then !PyData.eqv da db else PyData.eqv da db)) H
theorem op_eqD : OpR X (compareOp .Eq) (rEqD X.A false) := by
  intro pins s σ H x y v u Q I rx ry h
  obtain ⟨da, db, sa, sb, la, lb, hu, q⟩ := h
  obtain ⟨_, ra⟩ := sa.reads I.hok rx
  obtain ⟨_, rb⟩ := sb.reads I.hok ry
  exact SeqAt.rcAt_reads ra rb la lb hu _ _ _ _ ⟨.bl _, H, I, rfl, q⟩
theorem op_neD : OpR X (compareOp .NotEq) (rEqD X.A true) := by
  intro pins s σ H x y v u Q I rx ry h
  obtain ⟨da, db, sa, sb, la, lb, hu, q⟩ := h
  obtain ⟨_, ra⟩ := sa.reads I.hok rx
  obtain ⟨_, rb⟩ := sb.reads I.hok ry
  exact SeqAt.compareNe_reads ra rb la lb hu ⟨.bl _, H, I, rfl, q⟩
end
def Itn (n : Nat) (val : Nat → V → Prop) : It := ⟨fun i _ => i < n, fun i H x H' => H' = H ∧ val i x, fun i _ => i = n⟩
theorem turn_walks {P : Program} {w : World} {K : PySem.W.Frag} {x : Str} {p : Pos} {I : Addr} {n : Nat} {Pv : Nat → Value → Prop} {St : Nat → Heap → Prop} {val : Nat → V → Prop}
    (W : ∀ A' : Around, A'.handled = none → Walks P w A' I [I] [I] n Pv St) (ho : ∀ i h, St i h → ∃ o, h.get? I = some o ∧ ∀ v, o.data ≠ .cell v) (hv : ∀ i u, Pv i u → ∃ v, RelV v u ∧ val i v)
    (hself : ∀ (A : Around) (i : Nat) (s : Shared) (Q : Value → Shared → Prop) (E : Value → Shared → Prop), St i s.heap → Q (.ref I) s → wpAny (model P w) A (pyIter (.ref I)) Q E s) :
    Turn P w K (.Name x p) (Itn n val) [I] I St where
  mem := by simp
  obj := fun i h st b hb => by
    have e : b = I := by simpa using hb
    subst e
    exact ho i h st
  keep := fun i h h' st k => (W { handled := none, depth := 0, frames := none, guards := none, units := 0 } rfl).frame i h h' st k
  item := by
    intro X hP hw hK hc i pins s σ H E J hf st hg
    subst hP hw hK
    obtain ⟨f0, f1, f2, f3, f4, f5⟩ := hf I (by simp)
    refine (W X.A (J.ok.hd hc)).item i s _ _ hg st fun v h' tk hPv st' kk => ?_
    obtain ⟨y, ry, vy⟩ := hv i v hPv
    have J1 : Inv X pins σ H { s with heap := h', toks := tk } := J.turned (fun b o hb e => kk b o (by simpa using hb) e) f0 f1 f3 f4 f5
    exact ⟨v, rfl, wpAny_pure ⟨y, H, J1, ry, ⟨rfl, vy⟩, st', fun b hb => (hf b hb).1⟩⟩
  done := by
    intro X hP hw hK hc i pins s σ H E J hf st hg
    subst hP hw hK
    obtain ⟨f0, f1, f2, f3, f4, f5⟩ := hf I (by simp)
    have e : i = n := hg
    subst e
    exact (W X.A (J.ok.hd hc)).done s _ _ st fun h' tk kk => ⟨rfl, J.turned (fun b o hb e => kk b o (by simpa using hb) e) f0 f1 f3 f4 f5⟩
  self := hself
theorem strIter_obj {h : Heap} {I : Addr} {n : String} {x : Str} {t : Tok} {i : Nat} (st : h.IsStrIter I n x t i) : ∃ o, h.get? I = some o ∧ ∀ v, o.data ≠ .cell v := by
  obtain ⟨o, e, _, d⟩ := st
  exact ⟨o, e, fun v z => by rw [d] at z; cases z⟩
section
variable {X : Cx}
def ItS (z : Str) : It := Itn z.cps.size fun i v => ∃ c, z.cps[i]? = some c ∧ v = .str ⟨#[c]⟩
def iStr (tl : TE) : TI := fun σ H R => tl σ H fun x H1 => ∃ z, x = .str z ∧ R (ItS z) H1
theorem signAt_V {z : Str} (i : Nat) (u : Value) (h : SignAt z i u) : ∃ v, RelV v u ∧ ∃ c, z.cps[i]? = some c ∧ v = .str ⟨#[c]⟩ := by
  obtain ⟨c, t, e, rfl⟩ := h
  exact ⟨.str ⟨#[c]⟩, ⟨t, rfl⟩, c, e, rfl⟩
theorem pi_str {l : Expr} {tl : TE} {x : Str} {p : Pos} (hl : PE X l tl) : PI X (.Name x p) l (iStr tl) := by
  intro pins s σ H R I h
  refine thn (hl pins s σ H _ I h) fun v s1 ⟨y, H1, I1, r1, q1⟩ => ?_
  obtain ⟨z, rfl, q⟩ := q1
  obtain ⟨t, rfl⟩ := r1
  have fin : ∀ (o : Obj), Inv X pins σ H1 { s1 with heap := s1.heap.push o } := fun o => I1.kept (t' := s1.toks) fun b o e => Heap.get?_push_of_some _ e
  have ff : ∀ b ∈ [s1.heap.objs.size], FpOk X pins H1 b := fun b hb => by
    have e : b = s1.heap.objs.size := by simpa using hb
    subst e
    exact I1.fpOk (Nat.le_refl _) I1.fresh
  cases ha : z.cps.all (· < 128)
  · refine wpAny_pyIter_wide ha ⟨s1.heap.objs.size, [s1.heap.objs.size], _, ItS z, H1, rfl, fin _, turn_walks (fun A' hA => Walks.strWide hA _ z t) (fun i h st => strIter_obj st) signAt_V (fun A i s Q E st h => wpAny_pyIter_striter_wide st h), ⟨_, Heap.get?_push_size _ rfl, rfl, rfl⟩, ff, q⟩
  · refine wpAny_pyIter_ascii ha ⟨s1.heap.objs.size, [s1.heap.objs.size], _, ItS z, H1, rfl, fin _, turn_walks (fun A' hA => Walks.strAscii hA _ z t) (fun i h st => strIter_obj st) signAt_V (fun A i s Q E st h => wpAny_pyIter_striter_ascii st h), ⟨_, Heap.get?_push_size _ rfl, rfl, rfl⟩, ff, q⟩
def rSlS : V → Option Int → Option Int → Hp → VK → Prop := fun x lo hi H Q => ∃ z : Str, x = .str z ∧ z.length ≤ sizeLine ∧ Q (.str (Txt.slice z lo hi)) H
theorem sl_str : SlR X rSlS := by
  intro pins s σ H x v vl vu lo hi sl Q I rx hs pl pu h
  obtain ⟨z, rfl, hz, q⟩ := h
  obtain ⟨t, rfl⟩ := rx
  refine ⟨"str", _, PySem.F.slot_str_getitem.lookup, typeIs_str _ _ _, ?_⟩
  obtain ⟨o, ho, hc, hd⟩ := hs
  have fin : ∀ t' k, EP X pins σ Q (.str (Txt.slice z lo hi) t') { s with toks := k } := fun t' k => ⟨.str _, H, I.tok _, ⟨t', rfl⟩, q⟩
  cases pl with
  | none =>
    cases pu with
    | none => exact wpAny_getItem_str_slice (l := none) (u := none) (st := none) ⟨o, ho, hc, hd⟩ rfl (post_val_or_str ⟨Nat.le_trans (Txt.slice_le z _ _) hz, fun t' k => fin t' k⟩)
    | int j tj => exact wpAny_getItem_str_slice (l := none) (u := some (j, tj)) (st := none) ⟨o, ho, hc, hd⟩ rfl (post_val_or_str ⟨Nat.le_trans (Txt.slice_le z _ _) hz, fun t' k => fin t' k⟩)
  | int i ti =>
    cases pu with
    | none => exact wpAny_getItem_str_slice (l := some (i, ti)) (u := none) (st := none) ⟨o, ho, hc, hd⟩ rfl (post_val_or_str ⟨Nat.le_trans (Txt.slice_le z _ _) hz, fun t' k => fin t' k⟩)
    | int j tj => exact wpAny_getItem_str_slice (l := some (i, ti)) (u := some (j, tj)) (st := none) ⟨o, ho, hc, hd⟩ rfl (post_val_or_str ⟨Nat.le_trans (Txt.slice_le z _ _) hz, fun t' k => fin t' k⟩)
end
open PySem.Builtin PySem.Builtin.Str in
theorem slice_codes (z : Str) (a b : Nat) (hab : a ≤ b) (hb : b ≤ z.length) : (Txt.slice z (some (a : Int)) (some (b : Int))).cps.toList = (z.cps.toList.drop a).take (b - a) := by
  unfold Txt.slice
  have e := StrLaws.sliced_plain z hab hb
  split
  · rename_i h
    rw [StrLaws.strSliceIndices_plain hab hb] at h
    simp only [List.length_map, List.length_range, Bool.and_eq_true, beq_iff_eq] at h
    have h2 : b - a = z.length := h.2
    have ha : a = 0 := by (first | lia | omega)
    subst ha
    have hz : z.cps.toList.length = z.length := by simp [Str.length]
    rw [List.drop_zero, List.take_of_length_le (by (first | lia | omega))]
  · rw [e]
end L2
set_option Elab.async false
set_option maxHeartbeats 4000000
namespace L2
open PySem PySem.Spec PyProof.Rows
def relabelS (scope outer : Scope) : List (Str × NameKind) :=
  scope.names.map fun (n, k) => if (k == .free && outer.kind == .function && outer.names.lookup n == some .cell) then (n, .cell) else (n, k)
def compOk (outer scope : Scope) (N N' : List Str) (nl : Nat) (ix : List Nat) : Bool :=
  (scope.kind == .function && scope.names.all fun x => x.2 != .cell && (x.2 != .local || scope.names.lookup x.1 == some .local) && (x.2 != .free || outer.names.lookup x.1 == some .cell)) &&
  (N'.length == nl + ix.length && (List.range ix.length).all fun k => match ix[k]? with
    | none => false
    | some j => match N[j]? with
      | none => false
      | some x => N'[nl + k]? == some x && outer.names.lookup x == some .cell && (relabelS scope outer).lookup x == some .cell && decide ((x, NameKind.free) ∈ scope.names))
theorem comp_of {X : Cx} {outer scope : Scope} {N N' : List Str} {nl : Nat} {ix : List Nat} (h1 : X.env.scope = outer) (h2 : X.N = N) (h : compOk outer scope N N' nl ix = true) : CompScope X scope ∧ Capt X scope N' nl ix := by
  unfold compOk at h
  simp only [Bool.and_eq_true, List.all_eq_true, beq_iff_eq, bne_iff_ne, Bool.or_eq_true, ne_eq, List.mem_range] at h
  obtain ⟨⟨hk, ha⟩, hl, hb⟩ := h
  have kd : ∀ x, X.env.kindOf x = outer.names.lookup x := fun x => by rw [← h1]; rfl
  refine ⟨⟨hk, fun x hx => (ha x hx).1.1, fun x hx e => ?_, fun x hx e => ?_⟩, ⟨hl, fun k j e => ?_⟩⟩
  · rcases (ha x hx).1.2 with z | z
    · exact absurd e z
    · exact z
  · rcases (ha x hx).2 with z | z
    · exact absurd e z
    · rw [kd]; exact z
  · have hk' : k < ix.length := (List.getElem?_eq_some_iff.mp e).1
    have q := hb k hk'
    rw [e] at q
    simp only at q
    cases ex : N[j]? with
    | none => rw [ex] at q; simp at q
    | some x =>
      rw [ex] at q
      simp only [Bool.and_eq_true, beq_iff_eq, decide_eq_true_eq] at q
      obtain ⟨⟨⟨q1, q2⟩, q3⟩, q4⟩ := q
      refine ⟨x, by rw [h2]; exact ex, q1, by rw [kd]; exact q2, ?_, q4⟩
      have er : (relabel scope X.env).names = relabelS scope outer := by rw [← h1]; rfl
      rw [er]; exact q3
def Nx (n i : Nat) (p : Prop) : Prop := ∃ m', m' < n - i ∧ m' = n - (i + 1) ∧ i + 1 ≤ n ∧ p
theorem nx {n i : Nat} {p : Prop} (h : i < n) (q : p) : Nx n i p := ⟨n - (i + 1), by (first | lia | omega), rfl, h, q⟩
def CompTurn (nl : Nat) (ix : List Nat) (g : TG) (tf : TT) (te : TE) (σ : St) (D : Addr) (ys : List V) (H : Hp) (x : V) (nxt : List V → Hp → Prop) : Prop :=
  g x (capt nl ix σ) H fun σ4 H4 => (σ4.length = (capt nl ix σ).length ∧ σ4.drop nl = ix.map fun j => (σ[j]?).join) ∧ tf σ4 H4 fun b H5 =>
    if b = true then te σ4 H5 fun y H6 => H6 D = some (.lst ys) ∧ ys.length < sizeLine ∧ nxt (ys ++ [y]) (upd H6 D (.lst (ys ++ [y]))) else nxt ys H5
def CompW (nl : Nat) (ix : List Nat) (g : TG) (tf : TT) (te : TE) (σ : St) (J : It) (H1 : Hp) (D : Addr) (Q : VK) : Prop :=
  ∃ W : Nat → Nat → List V → Hp → Prop, (∃ m, W 0 m [] (upd H1 D (.lst []))) ∧
  ∀ i m ys H2, W i m ys H2 → H2 D = some (.lst ys) ∧ ((J.stop i H2 ∧ Q (.ref D) H2) ∨ (J.go i H2 ∧ ∀ x H3, J.yld i H2 x H3 → CompTurn nl ix g tf te σ D ys H3 x fun ys' H' => ∃ m', m' < m ∧ W (i + 1) m' ys' H'))
theorem lcomp_eq (nl : Nat) (ix : List Nat) (wi : TI) (g : TG) (tf : TT) (te : TE) (σ : St) (H : Hp) (Q : VK) (h : wi σ H fun J H1 => ∀ D, H1 D = none → CompW nl ix g tf te σ J H1 D Q) : tLComp nl ix wi g tf te σ H Q := h
section
variable {nl : Nat} {ix : List Nat} {g : TG} {tf : TT} {te : TE} {σ : St} {H1 : Hp} {D : Addr} {Q : VK} (Pv : Nat → List V → Hp → Prop)
theorem comp_n {J : It} {n : Nat} (h0 : Pv 0 [] (upd H1 D (.lst []))) (hD : ∀ i ys H, Pv i ys H → H D = some (.lst ys)) (go : ∀ i ys H, i < n → Pv i ys H → J.go i H) (stop : ∀ ys H, Pv n ys H → J.stop n H)
    (hs : ∀ i ys H x H', i < n → Pv i ys H → J.yld i H x H' → CompTurn nl ix g tf te σ D ys H' x fun ys' H' => Nx n i (Pv (i + 1) ys' H'))
    (hd : ∀ ys H, Pv n ys H → Q (.ref D) H) : CompW nl ix g tf te σ J H1 D Q := by
  refine ⟨fun i m ys H => m = n - i ∧ i ≤ n ∧ Pv i ys H, ⟨n, by simp, Nat.zero_le _, h0⟩, ?_⟩
  rintro i m ys H ⟨rfl, hi, p⟩
  refine ⟨hD i ys H p, ?_⟩
  by_cases hlt : i < n
  · exact .inr ⟨go i ys H hlt p, fun x H' y => hs i ys H x H' hlt p y⟩
  · have e : i = n := by (first | lia | omega)
    subst e
    exact .inl ⟨stop ys H p, hd ys H p⟩
theorem comp_range {lo : Int} {n : Nat} (h0 : Pv 0 [] (upd H1 D (.lst []))) (hD : ∀ i ys H, Pv i ys H → H D = some (.lst ys))
    (hs : ∀ i ys H, i < n → Pv i ys H → CompTurn nl ix g tf te σ D ys H (.int (lo + i)) fun ys' H' => Nx n i (Pv (i + 1) ys' H')) (hd : ∀ ys H, Pv n ys H → Q (.ref D) H) : CompW nl ix g tf te σ (Itr lo n) H1 D Q := by
  refine comp_n (n := n) Pv h0 hD (fun _ _ _ hi _ => hi) (fun _ _ _ => Nat.le_refl _) (fun i ys H x H' hi p y => ?_) hd
  obtain ⟨e, y⟩ := y
  subst e y
  exact hs i ys H' hi p
theorem comp_list {K : PySem.W.Frag} {a : Addr} {xs : List V} (h0 : Pv 0 [] (upd H1 D (.lst []))) (hD : ∀ i ys H, Pv i ys H → H D = some (.lst ys)) (hl : ∀ i ys H, Pv i ys H → SqL K H a xs)
    (hs : ∀ i ys H x, xs[i]? = some x → Pv i ys H → CompTurn nl ix g tf te σ D ys H x fun ys' H' => Nx xs.length i (Pv (i + 1) ys' H')) (hd : ∀ ys H, Pv xs.length ys H → Q (.ref D) H) : CompW nl ix g tf te σ (Itl K a) H1 D Q := by
  refine comp_n (n := xs.length) Pv h0 hD (fun i ys H hi p => ⟨xs, xs[i], hl i ys H p, by simp [hi]⟩) (fun ys H p => ⟨xs, hl _ ys H p, Nat.le_refl _⟩) (fun i ys H x H' hi p y => ?_) hd
  obtain ⟨e, y⟩ := y
  subst e
  exact hs i ys H' x (y xs (hl i ys H' p)) p
theorem comp_str {z : Str} (h0 : Pv 0 [] (upd H1 D (.lst []))) (hD : ∀ i ys H, Pv i ys H → H D = some (.lst ys))
    (hs : ∀ i ys H c, z.cps[i]? = some c → Pv i ys H → CompTurn nl ix g tf te σ D ys H (.str ⟨#[c]⟩) fun ys' H' => Nx z.cps.size i (Pv (i + 1) ys' H')) (hd : ∀ ys H, Pv z.cps.size ys H → Q (.ref D) H) : CompW nl ix g tf te σ (ItS z) H1 D Q := by
  refine comp_n (n := z.cps.size) Pv h0 hD (fun _ _ _ hi _ => hi) (fun _ _ _ => rfl) (fun i ys H x H' hi p y => ?_) hd
  obtain ⟨e, c, ec, ex⟩ := y
  subst e ex
  exact hs i ys H' c ec p
end
end L2
namespace L2
open PySem PySem.Spec PyProof.Rows
section
variable {X : Cx} {K : PySem.W.Frag}
theorem ix_listK (hK : X.K = K) : IxR X (rIxL K) := by subst hK; exact ix_list
theorem call_lenK (hK : X.K = K) : CallR X (.builtin "len") (fun xs H Q => ∃ p ys, xs = [.ref p] ∧ (SqL K H p ys ∨ SqT K H p ys) ∧ Q (.int ys.length) H) := by subst hK; exact call_len_seq
theorem pg_tupK {pos : Pos} {es : List Expr} {k : Nat} {t : TGs} {n : Nat} (hK : X.K = K) (hc : X.calm = true) (h : PGs X es t) (hn : (assignEach es X.env).length = n := by rfl) (hst : (assignEach es X.env).findIdx? (·.1) = none := by rfl) : PG X (.Tuple es k pos) (gTup K n t) := by
  subst hK
  exact pg_tup hc h hn hst
end
end L2
namespace L2
open PySem PySem.Spec PyProof.Rows
theorem turn_name {nl : Nat} {ix : List Nat} {te : TE} {σ : St} {D : Addr} {ys : List V} {H : Hp} {x : V} {nxt : List V → Hp → Prop} {i : Nat} (h1 : ((capt nl ix σ).set i (some x)).drop nl = ix.map fun j => (σ[j]?).join)
    (h : te ((capt nl ix σ).set i (some x)) H fun y H6 => H6 D = some (.lst ys) ∧ ys.length < sizeLine ∧ nxt (ys ++ [y]) (upd H6 D (.lst (ys ++ [y])))) : CompTurn nl ix (gName i) tYes te σ D ys H x nxt := by
  unfold CompTurn gName tYes
  dsimp only
  rw [if_pos rfl]
  exact ⟨⟨by simp, h1⟩, h⟩
end L2
set_option Elab.async false
set_option maxHeartbeats 4000000
namespace L2
open PySem PySem.Spec PyProof.Rows
section
variable {X : Cx}
theorem call_isinst : CallR X (.builtin "isinstance") (fun xs H Q => ∃ (x : V) (T : String) (t : Value) (b : Bool), xs = [x, .ty T] ∧ TyOf X.K H x t ∧ PySem.W.kitOne X.K t (.type T) = some b ∧ Q (.bl b) H) := by
  intro pins s σ H xs us Q I r h
  obtain ⟨x, T, t, b, rfl, ty, e, q⟩ := h
  obtain ⟨u, v, rfl, rx, ry⟩ := vals2 r
  cases ry
  exact isinst_ok I rx ty e fun tk => ⟨.bl b, H, I.tok _, rfl, q⟩
theorem kit_same (K : PySem.W.Frag) (n : String) : PySem.W.kitOne K (.type n) (.type n) = some true := by
  unfold PySem.W.kitOne
  rw [if_pos (by simp)]
end
end L2
set_option Elab.async false
set_option maxHeartbeats 4000000
namespace L2
open PySem PySem.Spec PyProof.Rows
def leS (a b : Str) : Prop := ltCps b.cps.toList a.cps.toList = false
theorem leS_iff {a b : Str} : leS a b ↔ a.cps.toList ≤ b.cps.toList := by
  unfold leS
  rw [ltCps_eq]
  constructor
  · intro h
    exact List.not_lt.mp (of_decide_eq_false h)
  · intro h
    exact decide_eq_false (List.not_lt.mpr h)
theorem leS_antisymm {a b : Str} (h1 : leS a b) (h2 : leS b a) : a = b := by
  have e := List.le_antisymm (leS_iff.mp h1) (leS_iff.mp h2)
  cases a; cases b
  simp only at e
  rw [Str.mk.injEq]
  exact Array.toList_inj.mp e
theorem leS_trans {a b c : Str} (h1 : leS a b) (h2 : leS b c) : leS a c := leS_iff.mpr (List.le_trans (leS_iff.mp h1) (leS_iff.mp h2))
theorem risingS_all : ∀ {l : List Str} {p : Str}, risingS p l = true → (∀ x ∈ l, leS p x) ∧ l.Pairwise leS
  | [], p, _ => ⟨(fun x hx => nomatch hx), List.Pairwise.nil⟩
  | y :: r, p, h => by
    have h' : (!ltCps y.cps.toList p.cps.toList && risingS y r) = true := h
    rw [Bool.and_eq_true, Bool.not_eq_true'] at h'
    obtain ⟨i1, i2⟩ := risingS_all h'.2
    have py : leS p y := h'.1
    refine ⟨fun x hx => ?_, List.Pairwise.cons i1 i2⟩
    rcases List.mem_cons.mp hx with rfl | hx
    · exact py
    · exact leS_trans py (i1 x hx)
theorem sortedS_pairwise : ∀ {l : List Str}, sortedS l = true → l.Pairwise leS
  | [], _ => List.Pairwise.nil
  | _ :: _, h => let ⟨a, b⟩ := risingS_all h; List.Pairwise.cons a b
theorem sorted_one : ∀ {l1 l2 : List Str}, l1.Pairwise leS → l2.Pairwise leS → l1.Perm l2 → l1 = l2
  | [], l2, _, _, p => (List.nil_perm.mp p).symm ▸ rfl
  | a :: r, [], _, _, p => absurd p.length_eq (by simp)
  | a :: r, b :: t, h1, h2, p => by
    have ab : leS a b := by
      rcases List.mem_cons.mp (p.mem_iff.mpr List.mem_cons_self : b ∈ a :: r) with e | hb
      · subst e; exact leS_iff.mpr (List.le_refl _)
      · exact (List.pairwise_cons.mp h1).1 b hb
    have ba : leS b a := by
      rcases List.mem_cons.mp (p.mem_iff.mp List.mem_cons_self : a ∈ b :: t) with e | ha
      · subst e; exact leS_iff.mpr (List.le_refl _)
      · exact (List.pairwise_cons.mp h2).1 a ha
    have e := leS_antisymm ab ba
    subst e
    rw [sorted_one (List.pairwise_cons.mp h1).2 (List.pairwise_cons.mp h2).2 p.cons_inv]
end L2
namespace L2
open PySem PySem.Spec PyProof.Rows
theorem turn_two {K : PySem.W.Frag} {nl : Nat} {ix : List Nat} {te : TE} {σ : St} {D : Addr} {ys : List V} {H : Hp} {x : V} {nxt : List V → Hp → Prop} {i j : Nat} (a : Addr) (v1 v2 : V) (hx : x = .ref a) (hs : SqT K H a [v1, v2])
    (h1 : (((capt nl ix σ).set i (some v1)).set j (some v2)).drop nl = ix.map fun j => (σ[j]?).join)
    (h : te (((capt nl ix σ).set i (some v1)).set j (some v2)) H fun y H6 => H6 D = some (.lst ys) ∧ ys.length < sizeLine ∧ nxt (ys ++ [y]) (upd H6 D (.lst (ys ++ [y])))) :
    CompTurn nl ix (gTup K 2 (gCons (gName i) (gCons (gName j) gNil))) tYes te σ D ys H x nxt := by
  subst hx
  unfold CompTurn gTup gCons gName gNil tYes
  dsimp only
  refine ⟨a, [v1, v2], rfl, hs, rfl, v1, [v2], rfl, v2, [], rfl, rfl, ⟨by simp, h1⟩, ?_⟩
  rw [if_pos rfl]
  exact h
end L2
set_option Elab.async false
set_option maxHeartbeats 4000000
namespace L2
open PySem PySem.Spec PyProof.Rows
open PySem.Builtin PySem.Builtin.Str in
theorem idx_to (j n : Nat) : strSliceIndices none (some (j : Int)) 1 n = strSliceIndices (some ((0 : Nat) : Int)) (some ((min j n : Nat) : Int)) 1 n := by
  unfold strSliceIndices
  have h1 : ¬ ((j : Int) < 0) := by (first | lia | omega)
  have h2 : ¬ (((min j n : Nat) : Int) < 0) := by (first | lia | omega)
  have h3 : ¬ (((0 : Nat) : Int) < 0) := by (first | lia | omega)
  simp only [h1, h2, h3, if_false, show ((1 : Int) > 0) = True from by simp, if_true]
  congr 1 <;> (first | lia | omega)
open PySem.Builtin PySem.Builtin.Str in
theorem idx_from (i n : Nat) : strSliceIndices (some (i : Int)) none 1 n = strSliceIndices (some ((min i n : Nat) : Int)) (some ((n : Nat) : Int)) 1 n := by
  unfold strSliceIndices
  have h1 : ¬ ((i : Int) < 0) := by (first | lia | omega)
  have h2 : ¬ (((min i n : Nat) : Int) < 0) := by (first | lia | omega)
  have h3 : ¬ (((n : Nat) : Int) < 0) := by (first | lia | omega)
  simp only [h1, h2, h3, if_false, show ((1 : Int) > 0) = True from by simp, if_true]
  congr 1 <;> (first | lia | omega)
theorem slice_to (z : Str) (j : Nat) : (Txt.slice z none (some (j : Int))).cps.toList = z.cps.toList.take j := by
  have e : Txt.slice z none (some (j : Int)) = Txt.slice z (some ((0 : Nat) : Int)) (some ((min j z.length : Nat) : Int)) := by
    unfold Txt.slice
    rw [idx_to]
  rw [e, slice_codes z 0 (min j z.length) (Nat.zero_le _) (Nat.min_le_right _ _), List.drop_zero, Nat.sub_zero]
  have hz : z.cps.toList.length = z.length := by simp [Str.length]
  by_cases h : j ≤ z.length
  · rw [Nat.min_eq_left h]
  · rw [Nat.min_eq_right (by (first | lia | omega)), List.take_of_length_le (by (first | lia | omega)), List.take_of_length_le (by (first | lia | omega))]
theorem slice_from (z : Str) (i : Nat) : (Txt.slice z (some (i : Int)) none).cps.toList = z.cps.toList.drop i := by
  have e : Txt.slice z (some (i : Int)) none = Txt.slice z (some ((min i z.length : Nat) : Int)) (some ((z.length : Nat) : Int)) := by
    unfold Txt.slice
    rw [idx_from]
  have hz : z.cps.toList.length = z.length := by simp [Str.length]
  rw [e, slice_codes z (min i z.length) z.length (Nat.min_le_right _ _) (Nat.le_refl _)]
  by_cases h : i ≤ z.length
  · rw [Nat.min_eq_left h, List.take_of_length_le (by rw [List.length_drop]; (first | lia | omega))]
  · rw [Nat.min_eq_right (by (first | lia | omega)), Nat.sub_self, List.take_zero, List.drop_of_length_le (by (first | lia | omega))]
theorem pigeon {α : Type} [DecidableEq α] : ∀ (n : Nat) (g : Nat → α) (l : List α), (∀ i j, i < n → j < n → g i = g j → i = j) → (∀ i, i < n → g i ∈ l) → n ≤ l.length
  | 0, _, _, _, _ => Nat.zero_le _
  | n + 1, g, l, inj, mem => by
    have hm := mem n (Nat.lt_succ_self n)
    have ih := pigeon n g (l.erase (g n)) (fun i j hi hj e => inj i j (by (first | lia | omega)) (by (first | lia | omega)) e) fun i hi => by
      have ne : g i ≠ g n := fun e => by have := inj i n (by (first | lia | omega)) (by (first | lia | omega)) e; (first | lia | omega)
      exact (List.mem_erase_of_ne ne).mpr (mem i (by (first | lia | omega)))
    have hl := List.length_erase_of_mem hm
    have hp : 0 < l.length := List.length_pos_of_mem hm
    (first | lia | omega)
end L2
set_option Elab.async false
set_option maxHeartbeats 4000000
set_option maxRecDepth 100000
namespace L2
open PySem PySem.Spec PyProof.Rows
section
variable {M : Model} {A : Around} {E : Value → Shared → Prop} {s : Shared}
theorem wpAny_chooseN {src : Source} {n : Nat} {Q : Nat → Shared → Prop} (hn : n ≠ 0) (h : ∀ i, i < n → Q i { s with drawn := s.drawn.bump src }) : wpAny M A (choose src n) Q E s := fun _ _ _ =>
  ⟨hn, h _ (Nat.mod_lt _ (Nat.pos_of_ne_zero hn))⟩
theorem perm_eraseIdx {α : Type} : ∀ (xs : List α) (i : Nat) (x : α), xs[i]? = some x → (x :: xs.eraseIdx i).Perm xs
  | [], _, _, h => by simp at h
  | y :: r, 0, x, h => by simp at h; subst h; exact .rfl
  | y :: r, i + 1, x, h => by
    have h' : r[i]? = some x := by simpa using h
    rw [List.eraseIdx_cons_succ]
    exact (List.Perm.swap y x _).trans ((perm_eraseIdx r i x h').cons y)
theorem wpAny_drawOrder {α : Type} : ∀ (n : Nat) (xs : List α) (s : Shared) (Q : List α → Shared → Prop), xs.length = n → (∀ ys d, ys.Perm xs → Q ys { s with drawn := d }) → wpAny M A (drawOrder n xs) Q E s
  | 0, xs, s, Q, hl, h => by
    have e : xs = [] := List.length_eq_zero_iff.mp hl
    subst e
    unfold drawOrder
    exact wpAny_pure (h [] s.drawn .rfl)
  | n + 1, [], s, Q, hl, h => by simp at hl
  | n + 1, y :: r, s, Q, hl, h => by
    unfold drawOrder
    refine wpAny_bind (wpAny_chooseN (by simp) fun i hi => ?_)
    have hx : (y :: r)[i]? = some (y :: r)[i] := List.getElem?_eq_getElem hi
    rw [hx]
    dsimp only
    refine wpAny_bind (wpAny_drawOrder n _ _ _ (by rw [List.length_eraseIdx_of_lt hi]; simpa using hl) fun ys d p => ?_)
    exact wpAny_pure (h _ d ((p.cons _).trans (perm_eraseIdx _ i _ hx)))
theorem pickGo_perm {α : Type} (next : Nat → Nat) : ∀ (fuel k : Nat) (left : List α) (out : Array α), left.length = fuel → (pickOrder.go next fuel k left out).toList.Perm (out.toList ++ left)
  | 0, k, left, out, h => by
    have e : left = [] := List.length_eq_zero_iff.mp h
    subst e
    unfold pickOrder.go
    simp
  | fuel + 1, k, left, out, h => by
    unfold pickOrder.go
    have hp : 0 < left.length := by (first | lia | omega)
    have hi : next k % left.length < left.length := Nat.mod_lt _ hp
    rw [List.getElem?_eq_getElem hi]
    dsimp only
    refine (pickGo_perm next fuel (k + 1) _ _ (by rw [List.length_eraseIdx_of_lt hi]; (first | lia | omega))).trans ?_
    rw [Array.toList_push, List.append_assoc]
    exact (perm_eraseIdx left _ _ (List.getElem?_eq_getElem hi)).append_left _
theorem pickOrder_perm {α : Type} (next : Nat → Nat) (xs : Array α) : (pickOrder next xs).toList.Perm xs.toList := by
  unfold pickOrder
  simpa using pickGo_perm next xs.size 0 xs.toList #[] (by simp)
end
theorem layNew_led (t : SetTable) (es : Array (Int × Value)) (h : Int) (x : Value) : (layNew t es h x).2.1.led = t.led := by
  unfold layNew
  split
  · dsimp only
    unfold SetTable.orStandIn
    split <;> rfl
  · rfl
theorem relayAll_led (t : SetTable) (es : Array (Int × Value)) (n : Nat) : (relayAll t es n).2.1.led = t.led := by
  unfold relayAll
  split
  · rename_i t' order e
    have e2 : t'.led = t.led := by
      unfold SetTable.relaid SetTable.laid at e
      simp only [Option.bind_eq_bind, Option.bind_eq_some_iff] at e
      obtain ⟨ow, _, e⟩ := e
      simp only [Option.pure_def, Option.some.injEq, Prod.mk.injEq] at e
      rw [← e.1]
    dsimp only
    split
    · exact e2
    · rfl
  · rfl
theorem relayAll_plain (t : SetTable) (es : Array (Int × Value)) (n : Nat) (h : t.plain = false) : (relayAll t es n).2.1.plain = false := by
  unfold relayAll
  split
  · rename_i t' order e
    have e2 : t'.plain = t.plain := by
      unfold SetTable.relaid SetTable.laid at e
      simp only [Option.bind_eq_bind, Option.bind_eq_some_iff] at e
      obtain ⟨ow, _, e⟩ := e
      simp only [Option.pure_def, Option.some.injEq, Prod.mk.injEq] at e
      rw [← e.1]
    dsimp only
    split
    · rw [e2]; exact h
    · rfl
  · rfl
structure TxAt (prog : Program) (w : World) (h : Heap) (a : Addr) (es : Array (Int × Value)) (ep : Nat) (t : SetTable) : Prop where
  get : h.get? a = some { cls := .type "set", dict := none, data := .set es ep t, slots := #[] }
  el : ElemsOf (PySem.strKind prog w) es.toList
  bd : es.size < scanBound
  fit : t.fits es.size = true
  led : t.led = !w.params.followText "set-order"
  pl : t.plain = false ∨ es = #[]
def txOf (es : Array (Int × Value)) : List Str := es.toList.map fun e => strOf e.2
def TxSet (prog : Program) (w : World) (h : Heap) (a : Addr) (ss : List Str) : Prop := ∃ es ep t, TxAt prog w h a es ep t ∧ txOf es = ss ∧ ss.Nodup
section
variable {prog : Program} {w : World} {h h' : Heap} {a : Addr} {es : Array (Int × Value)} {ep : Nat} {t : SetTable} {ss : List Str}
theorem TxAt.at' (x : TxAt prog w h a es ep t) (k : ∀ o, h.get? a = some o → h'.get? a = some o) : TxAt prog w h' a es ep t := ⟨k _ x.get, x.el, x.bd, x.fit, x.led, x.pl⟩
theorem TxSet.at' (x : TxSet prog w h a ss) (k : ∀ o, h.get? a = some o → h'.get? a = some o) : TxSet prog w h' a ss := let ⟨es, ep, t, y, r⟩ := x; ⟨es, ep, t, y.at' k, r⟩
theorem el_str {l : List (Int × Value)} (h : ElemsOf (PySem.strKind prog w) l) {e : Int × Value} (he : e ∈ l) : ∃ tk, e = (hashStr w (strOf e.2), .str (strOf e.2) tk) := by
  obtain ⟨⟨k, hk, hh⟩, _⟩ := h e he
  obtain ⟨tk, e2⟩ := Value.isStrOf_shape hk
  obtain ⟨e1, v⟩ := e
  simp only at e2 hh
  subst e2
  exact ⟨tk, by rw [hh]; rfl⟩
theorem is_str {k : Str} {v : Value} {x : Str} {tk : Tok} (e : v = .str x tk) : (PySem.strKind prog w).is k v = true ↔ k = x := by
  subst e
  constructor
  · intro h
    have h' : Value.isStrOf k (.str x tk) = true := h
    obtain ⟨u, e⟩ := Value.isStrOf_shape h'
    injection e with e
    exact e.symm
  · intro h
    subst h
    show Value.isStrOf k (.str k tk) = true
    simp [Value.isStrOf]
theorem mem_tx {l : List (Int × Value)} (h : ElemsOf (PySem.strKind prog w) l) (k : Str) : k ∈ l.map (fun e => strOf e.2) ↔ ∃ e ∈ l, (PySem.strKind prog w).is k e.2 = true := by
  rw [List.mem_map]
  constructor
  · rintro ⟨e, he, rfl⟩
    obtain ⟨tk, e2⟩ := el_str h he
    exact ⟨e, he, (is_str (by rw [e2]; rfl)).mpr rfl⟩
  · rintro ⟨e, he, hk⟩
    obtain ⟨tk, e2⟩ := el_str h he
    exact ⟨e, he, ((is_str (x := strOf e.2) (tk := tk) (by rw [e2]; rfl)).mp hk).symm⟩
section
variable {A : Around} {E : Value → Shared → Prop} {s : Shared}
theorem wpAny_addTailT {g : Bool → Sem Unit} (hg : ∀ (b : Bool) (s₁ : Shared) (Q' : Unit → Shared → Prop), Q' () s₁ → wpAny (model prog w) A (g b) Q' E s₁)
    (ho : s.heap.get? a = some { cls := .type "set", dict := none, data := .set es ep t, slots := #[] })
    {es1 : Array (Int × Value)} {t2 : SetTable} (hel1 : ElemsOf (PySem.strKind prog w) es1.toList)
    (hb1 : es1.size < scanBound) (hf2 : t2.fits es1.size = true) (hl2 : t2.led = !w.params.followText "set-order") (hp2 : t2.plain = false) {wasDummy : Bool} {R : Option Bool → Shared → Prop}
    (h : ∀ h' es' ep' t', Heap.SameBut a s.heap h' → TxAt prog w h' a es' ep' t' → es'.toList.Perm es1.toList → R (some true) { s with heap := h' }) :
    wpAny (model prog w) A (do
        storeSet a es1 t2
        if (!wasDummy && t2.tooFull) = true then do
            g (relayAll t2 es1 (SetTable.grown es1.size)).2.2
            storeSet a (relayAll t2 es1 (SetTable.grown es1.size)).1 (relayAll t2 es1 (SetTable.grown es1.size)).2.1
            pure (some true)
          else pure (some true)) R E s := by
  refine wpAny_bind (wpAny_storeSet_of ho rfl ?_ (fits_of_scanBound hb1))
  have up : ∀ {h0 : Heap} {es0 : Array (Int × Value)} {ep0 : Nat} {t0 : SetTable} (es' : Array (Int × Value)) (t' : SetTable), h0.get? a = some { cls := .type "set", dict := none, data := .set es0 ep0 t0, slots := #[] } → (h0.update a (Obj.putSet es' t')).get? a = some { cls := .type "set", dict := none, data := .set es' (ep0 + 1) t', slots := #[] } := fun es' t' q => by
    have := Heap.get?_update_self (Obj.putSet es' t') q (by rw [putSet_of es' t' rfl]; rfl)
    rw [putSet_of es' t' rfl] at this; exact this
  have ho1 := up es1 t2 ho
  have hsb1 := Heap.SameBut.update s.heap a (Obj.putSet es1 t2)
  split
  · have hp := relayAll_perm t2 es1 (SetTable.grown es1.size)
    have hfr := relayAll_fits t2 es1 (SetTable.grown es1.size)
    have hlr := relayAll_led t2 es1 (SetTable.grown es1.size)
    have hpr := relayAll_plain t2 es1 (SetTable.grown es1.size) hp2
    generalize hRl : relayAll t2 es1 (SetTable.grown es1.size) = Rl at hp hfr hlr hpr ⊢
    obtain ⟨es2, t3, gave2⟩ := Rl
    dsimp only at hp hfr hlr hpr ⊢
    have hsz : es2.size = es1.size := by rw [← Array.length_toList, hp.length_eq, Array.length_toList]
    have hb2 : es2.size < scanBound := by rw [hsz]; exact hb1
    refine wpAny_bind (hg _ _ _ ?_)
    refine wpAny_bind (wpAny_storeSet_of ho1 rfl ?_ (fits_of_scanBound hb2))
    exact wpAny_pure (h _ es2 _ t3 (hsb1.trans (Heap.SameBut.update _ a _)) ⟨up es2 t3 ho1, hel1.perm hp, hb2, hfr, hlr.trans hl2, .inl hpr⟩ hp)
  · exact wpAny_pure (h _ es1 _ t2 hsb1 ⟨ho1, hel1, hb1, hf2, hl2, .inl hp2⟩ .rfl)
theorem nodup_perm_snoc {α : Type} {l : List α} {x : α} {l' : List α} (hn : l.Nodup) (hx : x ∉ l) (p : l'.Perm (l ++ [x])) : l'.Nodup := by
  refine p.nodup_iff.mpr ?_
  rw [List.nodup_append]
  refine ⟨hn, by simp, fun a ha b hb e => ?_⟩
  rw [List.mem_singleton.mp hb] at e
  exact hx (e ▸ ha)
theorem wpAny_setAddTx {x : Str} {tk : Tok} {Q : Bool → Shared → Prop} (hS : TxSet prog w s.heap a ss) (hroom : ss.length + 1 < scanBound)
    (h : ∀ h' ss', Heap.SameBut a s.heap h' → TxSet prog w h' a ss' → ((x ∈ ss ∧ ss' = ss) ∨ (x ∉ ss ∧ ss'.Perm (ss ++ [x]))) → Q (!decide (x ∈ ss)) { s with heap := h' }) :
    wpAny (model prog w) A (setAddHashed a (.str x tk) (hashStr w x)) Q E s := by
  obtain ⟨es, ep, t, T, e, nd⟩ := hS
  subst e
  have hkey : (PySem.strKind prog w).is x (.str x tk) = true := (is_str rfl).mpr rfl
  have hsc : (Value.str x tk).scannable = true := rfl
  have hb1 : es.size + 1 < scanBound := by simpa [txOf] using hroom
  have hmem := mem_tx T.el x
  unfold setAddHashed setAddHashedIn
  refine wpAny_holding (wpAny_bind (wpAny_setState_of T.get rfl T.fit ?_))
  dsimp only
  rw [byScan_of hsc T.bd T.el]
  simp only [↓reduceIte]
  unfold setAddByScan
  refine wpAny_bind ?_
  refine wpAny_bind (wpAny_rule ?_)
  refine wpAny_bind (wpAny_setScan_of (knd := PySem.strKind prog w) hkey T.get rfl T.fit T.el ?_)
  cases hr : List.findIdx? (fun e => (PySem.strKind prog w).is x e.2) es.toList with
  | some j =>
    dsimp only
    obtain ⟨hj, hpj, _⟩ := List.findIdx?_eq_some_iff_getElem.mp hr
    have hx : x ∈ txOf es := hmem.mpr ⟨es.toList[j], List.getElem_mem hj, hpj⟩
    refine wpAny_pure (wpAny_pure ?_)
    have q := h s.heap (txOf es) (Heap.SameBut.refl a s.heap) ⟨es, ep, t, T, rfl, nd⟩ (.inl ⟨hx, rfl⟩)
    rw [decide_eq_true hx] at q
    exact q
  | none =>
    dsimp only
    have hx : x ∉ txOf es := fun hk => by
      obtain ⟨e, he, hp⟩ := hmem.mp hk
      have := List.findIdx?_eq_none_iff.mp hr e he
      rw [hp] at this; exact Bool.noConfusion this
    have hgw : ∀ (b : Bool) {s₁ : Shared} {Q' : Unit → Shared → Prop}, Q' () s₁ → wpAny (model prog w) A (match b with | true => rule "set.scan.the-table-gave-way" | false => pure ()) Q' E s₁ :=
      fun b s₁ Q' hq => by cases b <;> first | exact wpAny_pure hq | exact wpAny_rule hq
    have hperm := layNew_perm t es (hashStr w x) (.str x tk)
    have hfits := layNew_fits t es (hashStr w x) (.str x tk)
    have hled := layNew_led t es (hashStr w x) (.str x tk)
    generalize hL : layNew t es ((PySem.strKind prog w).hash x) (.str x tk) = L
    have hL' : layNew t es (hashStr w x) (.str x tk) = L := hL
    rw [hL'] at hperm hfits hled ⊢
    obtain ⟨es1, t1, wasDummy, gave⟩ := L
    dsimp only at hperm hfits hled ⊢
    rw [Array.toList_push] at hperm
    have hel1 : ElemsOf (PySem.strKind prog w) es1.toList := (T.el.push hkey hsc).perm hperm
    have hb1' : es1.size < scanBound := by rw [← Array.length_toList, hperm.length_eq, List.length_append, Array.length_toList]; simpa using hb1
    refine wpAny_bind (hgw _ ?_)
    have hend : ∀ h' es' ep' t', Heap.SameBut a s.heap h' → TxAt prog w h' a es' ep' t' → es'.toList.Perm es1.toList → Q true { s with heap := h' } := by
      intro h' es' ep' t' hsb T' p'
      have p2 : (txOf es').Perm (txOf es ++ [x]) := by
        have := (p'.trans hperm).map (fun e => strOf e.2)
        simpa [txOf, strOf] using this
      have q := h h' (txOf es') hsb ⟨es', ep', t', T', rfl, nodup_perm_snoc nd hx p2⟩ (.inr ⟨hx, p2⟩)
      rw [decide_eq_false hx] at q
      exact q
    split
    · refine wpAny_bind ?_
      rw [hashByValue_scannable 8 hsc]
      refine wpAny_pure ?_
      refine wpAny_addTailT ?_ T.get hel1 hb1' ?_ ?_ ?_ ?_
      · intro b s₁ Q' hq; cases b <;> first | exact wpAny_pure hq | exact wpAny_rule hq
      · exact SetTable.fits_plain_off hfits
      · exact hled.trans T.led
      · rfl
      · intro h' es' ep' t' hsb T' p'; dsimp only; exact wpAny_pure (hend h' es' ep' t' hsb T' p')
    · rename_i hpl
      refine wpAny_bind (wpAny_pure ?_)
      simp only [↓reduceIte]
      refine wpAny_addTailT ?_ T.get hel1 hb1' hfits (hled.trans T.led) (by simpa using hpl) ?_
      · intro b s₁ Q' hq; cases b <;> first | exact wpAny_pure hq | exact wpAny_rule hq
      · intro h' es' ep' t' hsb T' p'; dsimp only; exact wpAny_pure (hend h' es' ep' t' hsb T' p')
end
end
end L2
set_option Elab.async false
set_option maxHeartbeats 4000000
set_option maxRecDepth 100000
namespace L2
open PySem PySem.Spec PyProof.Rows
theorem entry_set_iter : entryFor table "set.__iter__" = some Builtin.«frozenset.__iter__» :=
  entryFor_alias (id' := "frozenset.__iter__") (by kernel_rfl) rfl (by decide +kernel) (by kernel_rfl)
theorem slot_si_next : Slot "set_iterator" "__next__" "set_iterator.__next__" :=
  .of (owner := "set_iterator") (n := "__next__") (by rw [typeLookup_type, builtinLookup_eq_fast]; kernel_rfl) (by decide +kernel) (by decide +kernel) (by decide +kernel)
    (by first | exact .inl (by decide +kernel) | exact .inr (by decide +kernel)) (by rw [isSubtype_type]; kernel_rfl)
theorem entry_si_next : entryFor table "set_iterator.__next__" = some Builtin.«set_iterator.__next__» := entryFor_of_tree (by kernel_rfl)
theorem owner_si : Manifest.owners.lookup (String.ofList ['r', 'o', 't', 'a', 'r', 'e', 't', 'i', '_', 't', 'e', 's'].reverse) = some Manifest.sig_set_iterator := by kernel_rfl
theorem args_si_next (a : Value) : argsOk "set_iterator.__next__" ⟨[a], []⟩ := by
  unfold argsOk; rw [signature?_of (id := "set_iterator.__next__") (n := ['_', '_', 't', 'x', 'e', 'n', '_', '_']) (o := ['r', 'o', 't', 'a', 'r', 'e', 't', 'i', '_', 't', 'e', 's']) (by kernel_rfl) owner_si]; kernel_rfl
theorem slot_si_iter : Slot "set_iterator" "__iter__" "set_iterator.__iter__" :=
  .of (owner := "set_iterator") (n := "__iter__") (by rw [typeLookup_type, builtinLookup_eq_fast]; kernel_rfl) (by decide +kernel) (by decide +kernel) (by decide +kernel)
    (by first | exact .inl (by decide +kernel) | exact .inr (by decide +kernel)) (by rw [isSubtype_type]; kernel_rfl)
theorem entry_si_iter : entryFor table "set_iterator.__iter__" = some Builtin.«dict_keyiterator.__iter__» :=
  entryFor_alias (id' := "dict_keyiterator.__iter__") (by kernel_rfl) rfl (by decide +kernel) (by kernel_rfl)
theorem args_si_iter (a : Value) : argsOk "set_iterator.__iter__" ⟨[a], []⟩ := by
  unfold argsOk; rw [signature?_of (id := "set_iterator.__iter__") (n := ['_', '_', 'r', 'e', 't', 'i', '_', '_']) (o := ['r', 'o', 't', 'a', 'r', 'e', 't', 'i', '_', 't', 'e', 's']) (by kernel_rfl) owner_si]; kernel_rfl
def SIter (h : Heap) (it a : Addr) (first : Value) (i n ep : Nat) : Prop :=
  ∃ o, h.get? it = some o ∧ o.cls = .type "set_iterator" ∧ o.data = .fields #[first, .int i 0, .ref a, .int n 0, .int ep 0]
theorem SIter.typeIs {s : Shared} {it a : Addr} {first : Value} {i n ep : Nat} (x : SIter s.heap it a first i n ep) : s.TypeIs (.ref it) "set_iterator" := let ⟨o, ho, hc, _⟩ := x; ⟨o, ho, hc⟩
theorem SIter.at' {h h' : Heap} {it a : Addr} {first : Value} {i n ep : Nat} (x : SIter h it a first i n ep) (k : ∀ o, h.get? it = some o → h'.get? it = some o) : SIter h' it a first i n ep := let ⟨o, ho, r⟩ := x; ⟨o, k _ ho, r⟩
section
variable {prog : Program} {w : World} {A : Around} {E : Value → Shared → Prop} {s : Shared} {a I : Addr} {es : Array (Int × Value)} {ep : Nat} {t : SetTable}
def sFirst (w : World) (es : Array (Int × Value)) (t : SetTable) (T : Addr) (i : Nat) : Value :=
  if w.params.followText "set-order" = true then .int 0 0 else if es.size > 1 then .ref T else if i = 0 then .int 0 0 else .int ((t.place.getD 0 0 + 1 : Nat) : Int) 0
def sOrder (w : World) (a : Addr) (es : Array (Int × Value)) (ep : Nat) (ps : List Nat) : List (Int × Value) :=
  if w.params.followText "set-order" = true then (pickOrder (w.params.setOrder a ep) es).toList else if es.size > 1 then ps.filterMap fun p => es[p]? else es.toList
structure SSt (prog : Program) (w : World) (a I T : Addr) (es : Array (Int × Value)) (ep : Nat) (t : SetTable) (ps : List Nat) (i : Nat) (h : Heap) : Prop where
  set : TxAt prog w h a es ep t
  it : SIter h I a (sFirst w es t T i) i es.size ep
  tup : w.params.followText "set-order" = false → es.size > 1 → IsTup h T (ps.map fun (p : Nat) => Value.int p 0).toArray
theorem filterMap_of_perm (es : Array (Int × Value)) {ps : List Nat} (h : ps.Perm (List.range es.size)) : (ps.filterMap fun p => es[p]?).Perm es.toList := by
  have := h.filterMap fun p => es[p]?
  rwa [filterMap_getElem?_range] at this
theorem filterMap_at (es : Array (Int × Value)) : ∀ (ps : List Nat), (∀ p ∈ ps, p < es.size) → ∀ i : Nat, (ps.filterMap fun p => es[p]?)[i]? = (ps[i]?).bind fun p => es[p]?
  | [], _, i => by simp
  | p :: r, h, i => by
    have hp : p < es.size := h p List.mem_cons_self
    rw [List.filterMap_cons_some (b := es[p]) (by simp [hp])]
    cases i with
    | zero => simp [hp]
    | succ i =>
      rw [List.getElem?_cons_succ, List.getElem?_cons_succ]
      exact filterMap_at es r (fun q hq => h q (List.mem_cons_of_mem _ hq)) i
theorem below_one (j k : Nat) (hk : k ≤ j) : SetTable.below #[j] k = 0 := by
  unfold SetTable.below
  simp only [List.size_toArray, List.length_cons, List.length_nil, Nat.zero_add]
  unfold SetTable.below.go
  rw [if_pos (by decide : 0 < 1)]
  simp only
  have : (0 + 1) / 2 = 0 := by decide
  rw [this]
  have e : (#[j] : Array Nat).getD 0 k = j := rfl
  rw [e, if_neg (by (first | lia | omega))]
  rfl
theorem below_one' (j : Nat) : SetTable.below #[j] (j + 1) = 1 := by
  unfold SetTable.below
  simp only [List.size_toArray, List.length_cons, List.length_nil, Nat.zero_add]
  unfold SetTable.below.go
  rw [if_pos (by decide : 0 < 1)]
  simp only
  have : (0 + 1) / 2 = 0 := by decide
  rw [this]
  have e : (#[j] : Array Nat).getD 0 (j + 1) = j := rfl
  rw [e, if_pos (by (first | lia | omega))]
  rfl
theorem below_nil (k : Nat) : SetTable.below #[] k = 0 := rfl
theorem stop_end {Q : Option Value → Shared → Prop} {s₁ : Shared} (hh : A.handled = none) (hQ : ∀ h', (∀ b o, s₁.heap.get? b = some o → h'.get? b = some o) → Q none { s₁ with heap := h' }) :
    wpAny (model prog w) A.in1 (do raiseNew (← newExc (.type "StopIteration") [])) (fun fin s' => ∃ r, fin = Fin.done (.ret r) ∧ wpAny (model prog w) A (match Except.ok (ε := Value) (some r) with | .ok (some v) => pure (some v) | .ok none => unsupported "x" | .error e => throw e) Q E s')
      (fun e s' => wpAny (model prog w) A (do if ← isInstance e (.type "StopIteration") then pure none else throw e) Q E s') s₁ := by
  refine wpAny_bind ?_
  simp only [newExc, newTuple]
  refine wpAny_bind (wpAny_newObj_type ?_ (by size_fits))
  refine wpAny_bind (m := firstArgMember _ _) (wpAny_of_eq (a := Value.none) (by first | rfl | (simp only [firstArgMember]; rfl)) ?_)
  refine wpAny_newObj_type ?_ (by size_fits)
  simp only [raiseNew]
  refine wpAny_bind (wpAny_handled ?_)
  rw [show A.in1.handled = none from hh]
  refine wpAny_bind (wpAny_pure (wpAny_throw ?_))
  refine wpAny_bind (wpAny_isInstance (T := "StopIteration") (b := true) ⟨_, Heap.get?_push_size _ rfl, rfl⟩ isSubtype_stop ?_)
  exact wpAny_pure (hQ _ fun b o e => Heap.get?_push_of_some _ (Heap.get?_push_of_some _ e))
end
end L2
set_option Elab.async false
set_option maxHeartbeats 4000000
set_option maxRecDepth 100000
namespace L2
open PySem PySem.Spec PyProof.Rows
def nextFew (es : Array (Int × Value)) (t : SetTable) (slot : Nat) : Option (Value × Nat) :=
  match es[SetTable.below t.place slot]?, t.place[SetTable.below t.place slot]? with
      | some (_, x), some j => some (x, j + 1)
      | _, _ => none
def ledIf (b : Bool) : Sem Unit := do
  if b then unsupported "set:maker-not-led"
theorem setDrawn_eq (a : Addr) : setDrawn a = (do
    let (es, _, t) ← setState a
    let byText ← setsByText
    return !byText && (!t.plain && decide (es.size > 1))) := rfl
theorem setWalk_eq (a : Addr) : setWalk a = (do
    let (es, epoch, t) ← setState a
    if ← setsByText then return pickOrder ((← ask).params.setOrder a epoch) es
    if (!t.plain && decide (es.size > 1)) then return (← drawOrder es.size es.toList).toArray
    ledIf (!t.led && decide (es.size > 1)) >>= fun _ => pure es) := rfl
theorem setNext_eq (a : Addr) (slot given epochThen : Nat) : setNext a slot given epochThen = (do
    let (es, epoch, t) ← setState a
    if ← setsByText then
      if epoch != epochThen then unsupported "set_iterator.__next__:elements-changed"
      return ((← setWalk a)[given]?).map fun e => (e.2, slot)
    if (!t.plain && decide (es.size > 1)) then unsupported "set_iterator.__next__:the-table-is-plain-no-more"
    ledIf (!t.led && !es.isEmpty) >>= fun _ => pure (nextFew es t slot)) := rfl
section
variable {prog : Program} {w : World} {A : Around} {E : Value → Shared → Prop} {s : Shared} {a I T : Addr} {es : Array (Int × Value)} {ep : Nat} {t : SetTable} {ps : List Nat}
theorem wpAny_setsByText {Q : Bool → Shared → Prop} (h : Q (w.params.followText "set-order") s) : wpAny (model prog w) A setsByText Q E s := by
  unfold setsByText
  exact wpAny_bind (wpAny_askSetting (wpAny_pure h))
theorem setDrawn_of {Q : Bool → Shared → Prop} (x : TxAt prog w s.heap a es ep t) (h : Q (!w.params.followText "set-order" && decide (es.size > 1)) s) : wpAny (model prog w) A (setDrawn a) Q E s := by
  rw [setDrawn_eq]
  refine wpAny_bind (wpAny_setState_of x.get rfl x.fit ?_)
  dsimp only
  refine wpAny_bind (wpAny_setsByText (wpAny_pure ?_))
  have e : (!t.plain && decide (es.size > 1)) = decide (es.size > 1) := by
    rcases x.pl with q | q
    · rw [q]; rfl
    · subst q; simp
  rw [e]
  exact h
theorem setWalk_text {Q : Array (Int × Value) → Shared → Prop} (x : TxAt prog w s.heap a es ep t) (ht : w.params.followText "set-order" = true) (h : Q (pickOrder (w.params.setOrder a ep) es) s) : wpAny (model prog w) A (setWalk a) Q E s := by
  rw [setWalk_eq]
  refine wpAny_bind (wpAny_setState_of x.get rfl x.fit ?_)
  dsimp only
  refine wpAny_bind (wpAny_setsByText ?_)
  rw [ht]
  simp only [if_true]
  exact wpAny_bind (wpAny_askSetting (wpAny_pure h))
theorem setNext_text {Q : Option (Value × Nat) → Shared → Prop} {given : Nat} (x : TxAt prog w s.heap a es ep t) (ht : w.params.followText "set-order" = true) (h : Q (((pickOrder (w.params.setOrder a ep) es)[given]?).map fun e => (e.2, 0)) s) :
    wpAny (model prog w) A (setNext a 0 given ep) Q E s := by
  rw [setNext_eq]
  refine wpAny_bind (wpAny_setState_of x.get rfl x.fit ?_)
  dsimp only
  refine wpAny_bind (wpAny_setsByText ?_)
  rw [ht]
  simp only [if_true, bne_self_eq_false, Bool.false_eq_true, if_false]
  refine wpAny_bind (setWalk_text x ht (wpAny_pure h))
theorem setNext_few {Q : Option (Value × Nat) → Shared → Prop} {slot given : Nat} (x : TxAt prog w s.heap a es ep t) (ht : w.params.followText "set-order" = false) (hs : ¬ es.size > 1)
    (h : Q (nextFew es t slot) s) :
    wpAny (model prog w) A (setNext a slot given ep) Q E s := by
  rw [setNext_eq]
  refine wpAny_bind (wpAny_setState_of x.get rfl x.fit ?_)
  dsimp only
  refine wpAny_bind (wpAny_setsByText ?_)
  have hl : t.led = true := by rw [x.led, ht]; rfl
  rw [ht]
  simp only [Bool.false_eq_true, if_false, decide_eq_false hs, Bool.and_false, hl, Bool.not_true, Bool.false_and, ledIf]
  exact wpAny_bind (wpAny_pure (wpAny_pure h))
theorem place_few (x : TxAt prog w s.heap a es ep t) (hs : ¬ es.size > 1) : (es = #[] ∧ t.place = #[]) ∨ ∃ e j, es = #[e] ∧ t.place = #[j] := by
  have hp : t.place.size = es.size := by
    have := x.fit
    simp only [SetTable.fits, Bool.and_eq_true, beq_iff_eq] at this
    exact this.1
  by_cases h0 : es.size = 0
  · exact .inl ⟨Array.size_eq_zero_iff.mp h0, Array.size_eq_zero_iff.mp (by (first | lia | omega))⟩
  · have h1 : es.size = 1 := by (first | lia | omega)
    obtain ⟨e, he⟩ := Array.size_eq_one_iff.mp h1
    obtain ⟨j, hj⟩ := Array.size_eq_one_iff.mp (hp.trans h1)
    exact .inr ⟨e, j, he, hj⟩
theorem order_perm (hps : ps.Perm (List.range es.size)) : (sOrder w a es ep ps).Perm es.toList := by
  unfold sOrder
  split
  · exact pickOrder_perm _ _
  · split
    · exact filterMap_of_perm es hps
    · exact .rfl
end
end L2
set_option Elab.async false
set_option maxHeartbeats 4000000
set_option maxRecDepth 100000
namespace L2
open PySem PySem.Spec PyProof.Rows
section
variable {prog : Program} {w : World} {A : Around} {E : Value → Shared → Prop} {s : Shared} {a I T : Addr} {es : Array (Int × Value)} {ep : Nat} {t : SetTable} {ps : List Nat} {i : Nat}
theorem sit_set {f x : Value} {n : Nat} {Q : Unit → Shared → Prop} (hit : SIter s.heap I a f i n ep) (h : ∀ h', SIter h' I a x i n ep → Heap.SameBut I s.heap h' → Q () { s with heap := h' }) : wpAny (model prog w) A (setField (.ref I) 0 x) Q E s := by
  obtain ⟨o, ho, hc, hd⟩ := hit
  refine wpAny_setField ho hd (by simp) (h _ ⟨_, Heap.get?_update_self _ ho (Obj.isFreed_of_fields (Obj.data_mapFields hd _)), (Obj.cls_mapFields ..).trans hc, by rw [Obj.data_mapFields hd]; simp⟩ (Heap.SameBut.update ..))
theorem sit_go {f : Value} {n : Nat} {Q : Unit → Shared → Prop} (hit : SIter s.heap I a f i n ep) (h : ∀ h', SIter h' I a f (i + 1) n ep → Heap.SameBut I s.heap h' → Q () { s with heap := h' }) : wpAny (model prog w) A (setField (.ref I) 1 (rawInt ((i : Int) + 1))) Q E s := by
  obtain ⟨o, ho, hc, hd⟩ := hit
  refine wpAny_setField ho hd (by simp) (h _ ⟨_, Heap.get?_update_self _ ho (Obj.isFreed_of_fields (Obj.data_mapFields hd _)), (Obj.cls_mapFields ..).trans hc, by rw [Obj.data_mapFields hd]; simp [rawInt]⟩ (Heap.SameBut.update ..))
theorem sit_off {f : Value} {n : Nat} {Q : Unit → Shared → Prop} (hit : SIter s.heap I a f i n ep) (h : ∀ h', Heap.SameBut I s.heap h' → Q () { s with heap := h' }) : wpAny (model prog w) A (setField (.ref I) 2 .none) Q E s := by
  obtain ⟨o, ho, hc, hd⟩ := hit
  exact wpAny_setField ho hd (by simp) (h _ (Heap.SameBut.update ..))
theorem SSt.next {s' : Heap} (hit : SSt prog w a I T es ep t ps i s') (hI : a ≠ I) (hT : T ≠ I) (i' : Nat) {h' : Heap} (he : SIter h' I a (sFirst w es t T i') i' es.size ep) (k : ∀ b o, b ≠ I → s'.get? b = some o → h'.get? b = some o) : SSt prog w a I T es ep t ps i' h' :=
  ⟨hit.set.at' fun o e => k a o hI e, he, fun h1 h2 => by
    obtain ⟨o, e, c⟩ := hit.tup h1 h2
    exact ⟨o, k T o hT e, c⟩⟩
theorem next_head {Q : Option Value → Shared → Prop} (hst : SSt prog w a I T es ep t ps i s.heap)
    (h : wpAny (model prog w) A.in1 (match sFirst w es t T i with
    | Value.int slot tok => do
      match ← setNext a slot.toNat (i : Int).toNat (ep : Int).toNat with
        | some (x, next) => do
          setField (Value.ref I) 0 (rawInt (next : Nat))
          setField (Value.ref I) 1 (rawInt ((i : Int) + 1))
          ret x
        | none => do
          setField (Value.ref I) 2 Value.none
          raiseNew (← newExc (Value.type "StopIteration") [])
    | _ => do
      let some places ← seqItems? (sFirst w es t T i) | unsupported "internal:set_iterator"
      match places[(i : Int).toNat]? with
          | some (Value.int place tok) => do
            let x ← setNextDrawn a place.toNat (ep : Int).toNat
            setField (Value.ref I) 1 (rawInt ((i : Int) + 1))
            ret x
          | some _ => unsupported "internal:set_iterator"
          | none => do
            setField (Value.ref I) 0 (rawInt 0)
            setField (Value.ref I) 2 Value.none
            raiseNew (← newExc (Value.type "StopIteration") []))
    (fun fin s' => ∃ v, fin = Fin.done (Flow.ret v) ∧ wpAny (model prog w) A (pure (some v)) Q E s')
    (fun e s' =>
      wpAny (model prog w) A
        (do
          if ← isInstance e (Value.type "StopIteration") then pure none else throw e)
        Q E s')
    s) : wpAny (model prog w) A (pyNext (.ref I)) Q E s := by
  obtain ⟨o, ho, hc, hd⟩ := id hst.it
  obtain ⟨oc, odict, odata, oslots⟩ := o
  simp only at hc hd
  subst hc hd
  unfold pyNext
  refine wpAny_bind (wpAny_attempt (wpAny_callSpecial?_slot (name := Str.ofString "__next__") hst.it.typeIs slot_si_next
    (wpAny_call_entry slot_si_next hst.it.typeIs entry_si_next ?_ (args_si_next _))))
  unfold Builtin.«set_iterator.__next__»
  refine wpAny_bind (wpAny_pure ?_)
  refine wpAny_bind (wpAny_fieldsOf ho rfl ?_)
  dsimp only
  refine wpAny_bind (wpAny_setEntries_of hst.set.get rfl hst.set.fit ?_)
  simp only [bne_self_eq_false, Bool.false_eq_true, if_false]
  exact h
theorem setNextDrawn_of {Q : Value → Shared → Prop} {p : Nat} {e : Int × Value} (x : TxAt prog w s.heap a es ep t) (hp : es[p]? = some e) (h : Q e.2 s) : wpAny (model prog w) A (setNextDrawn a p ep) Q E s := by
  unfold setNextDrawn
  refine wpAny_bind (wpAny_setState_of x.get rfl x.fit ?_)
  simp only [bne_self_eq_false, Bool.false_eq_true, if_false, hp]
  exact wpAny_pure h
theorem sb_but {h h' : Heap} (x : Heap.SameBut I h h') : ∀ b o, b ≠ I → h.get? b = some o → h'.get? b = some o := fun b o hb e => (x.2 b hb).trans e
theorem set_next_item {Q : Option Value → Shared → Prop} (hst : SSt prog w a I T es ep t ps i s.heap) (hps : ps.Perm (List.range es.size)) (hI : a ≠ I) (hT : T ≠ I) (hi : i < es.size)
    (hQ : ∀ v h' tk, (sOrder w a es ep ps)[i]?.map (·.2) = some v → SSt prog w a I T es ep t ps (i + 1) h' → (∀ b o, b ≠ I → s.heap.get? b = some o → h'.get? b = some o) → Q (some v) { s with heap := h', toks := tk }) :
    wpAny (model prog w) A (pyNext (.ref I)) Q E s := by
  refine next_head hst ?_
  have ol : (sOrder w a es ep ps).length = es.size := by rw [(order_perm (w := w) (a := a) (ep := ep) hps).length_eq, Array.length_toList]
  obtain ⟨e, he⟩ : ∃ e, (sOrder w a es ep ps)[i]? = some e := ⟨_, List.getElem?_eq_getElem (by (first | lia | omega))⟩
  have hit := hst.it
  rw [Int.toNat_natCast, Int.toNat_natCast]
  cases hb : w.params.followText "set-order" with
  | true =>
    have ef : ∀ j, sFirst w es t T j = .int 0 0 := fun j => by unfold sFirst; rw [if_pos hb]
    rw [ef i] at hit ⊢
    dsimp only
    rw [Int.toNat_zero]
    refine wpAny_bind (setNext_text hst.set hb ?_)
    have e2 : (pickOrder (w.params.setOrder a ep) es)[i]? = some e := by
      unfold sOrder at he
      rw [if_pos hb, Array.getElem?_toList] at he
      exact he
    rw [e2]
    dsimp only [Option.map]
    refine wpAny_bind (sit_set (x := .int 0 0) hit fun h1 it1 k1 => ?_)
    refine wpAny_bind (sit_go it1 fun h2 it2 k2 => ?_)
    have k12 := (k1.trans k2)
    exact wpAny_pure ⟨_, rfl, wpAny_pure (hQ e.2 h2 s.toks (by rw [he]; rfl) (hst.next hI hT (i + 1) (by rw [ef]; exact it2) (sb_but k12)) (sb_but k12))⟩
  | false =>
    by_cases hs : es.size > 1
    · have ef : ∀ j, sFirst w es t T j = .ref T := fun j => by unfold sFirst; rw [if_neg (by rw [hb]; exact Bool.false_ne_true), if_pos hs]
      rw [ef i] at hit ⊢
      dsimp only
      obtain ⟨oT, hoT, hcT, nT, hdT⟩ := hst.tup hb hs
      have hlt : i < ps.length := by rw [hps.length_eq, List.length_range]; exact hi
      refine wpAny_bind (wpAny_seqItems hoT hdT ?_)
      dsimp only
      have e1 : (ps.map fun (p : Nat) => Value.int p 0).toArray[i]? = some (.int ps[i] 0) := by simp [hlt]
      rw [e1]
      dsimp only
      rw [Int.toNat_natCast]
      have pl : ∀ p ∈ ps, p < es.size := fun p hp => List.mem_range.mp (hps.mem_iff.mp hp)
      have e2 : es[ps[i]]? = some e := by
        unfold sOrder at he
        rw [if_neg (by rw [hb]; exact Bool.false_ne_true), if_pos hs, filterMap_at es ps pl i, List.getElem?_eq_getElem hlt] at he
        exact he
      refine wpAny_bind (setNextDrawn_of hst.set e2 ?_)
      refine wpAny_bind (sit_go hit fun h2 it2 k2 => ?_)
      exact wpAny_pure ⟨_, rfl, wpAny_pure (hQ e.2 h2 s.toks (by rw [he]; rfl) (hst.next hI hT (i + 1) (by rw [ef]; exact it2) (sb_but k2)) (sb_but k2))⟩
    · rcases place_few hst.set hs with ⟨e0, _⟩ | ⟨e0, j, ee, ej⟩
      · subst e0; simp at hi
      have i0 : i = 0 := by rw [ee] at hi; simp at hi; exact hi
      subst i0
      have ef0 : sFirst w es t T 0 = .int 0 0 := by unfold sFirst; rw [if_neg (by rw [hb]; exact Bool.false_ne_true), if_neg hs, if_pos rfl]
      have ef1 : sFirst w es t T 1 = .int ((j + 1 : Nat) : Int) 0 := by unfold sFirst; rw [if_neg (by rw [hb]; exact Bool.false_ne_true), if_neg hs, if_neg (by decide), ej]; rfl
      rw [ef0] at hit ⊢
      dsimp only
      rw [Int.toNat_zero]
      refine wpAny_bind (setNext_few hst.set hb hs ?_)
      have e2 : e = e0 := by
        unfold sOrder at he
        rw [if_neg (by rw [hb]; exact Bool.false_ne_true), if_neg hs, ee] at he
        simpa using he.symm
      have em : nextFew es t 0 = some (e0.2, j + 1) := by
        unfold nextFew
        rw [ej, below_one j 0 (Nat.zero_le _), ee]; rfl
      rw [em]
      dsimp only
      refine wpAny_bind (sit_set (x := .int ((j + 1 : Nat) : Int) 0) hit fun h1 it1 k1 => ?_)
      refine wpAny_bind (sit_go it1 fun h2 it2 k2 => ?_)
      have k12 := (k1.trans k2)
      exact wpAny_pure ⟨_, rfl, wpAny_pure (hQ e0.2 h2 s.toks (by rw [he, e2]; rfl) (hst.next hI hT 1 (by rw [ef1]; exact it2) (sb_but k12)) (sb_but k12))⟩
theorem set_next_done {Q : Option Value → Shared → Prop} (hh : A.handled = none) (hst : SSt prog w a I T es ep t ps es.size s.heap) (hps : ps.Perm (List.range es.size))
    (hQ : ∀ h' tk, (∀ b o, b ≠ I → s.heap.get? b = some o → h'.get? b = some o) → Q none { s with heap := h', toks := tk }) :
    wpAny (model prog w) A (pyNext (.ref I)) Q E s := by
  refine next_head hst ?_
  have hit := hst.it
  have fin : ∀ {h1 : Heap}, Heap.SameBut I s.heap h1 → wpAny (model prog w) A.in1 (do raiseNew (← newExc (.type "StopIteration") [])) (fun fin s' => ∃ v, fin = Fin.done (Flow.ret v) ∧ wpAny (model prog w) A (pure (some v)) Q E s')
      (fun e s' => wpAny (model prog w) A (do if ← isInstance e (Value.type "StopIteration") then pure none else throw e) Q E s') { s with heap := h1 } := fun {h1} k1 =>
    stop_end (s₁ := { s with heap := h1 }) hh fun h' k => hQ h' s.toks fun b o hb e => k b o (sb_but k1 b o hb e)
  rw [Int.toNat_natCast, Int.toNat_natCast]
  cases hb : w.params.followText "set-order" with
  | true =>
    have ef : ∀ j, sFirst w es t T j = .int 0 0 := fun j => by unfold sFirst; rw [if_pos hb]
    rw [ef] at hit ⊢
    dsimp only
    rw [Int.toNat_zero]
    refine wpAny_bind (setNext_text hst.set hb ?_)
    have e2 : (pickOrder (w.params.setOrder a ep) es)[es.size]? = none := by
      have := (pickOrder_perm (w.params.setOrder a ep) es).length_eq
      rw [Array.length_toList, Array.length_toList] at this
      exact Array.getElem?_eq_none (by (first | lia | omega))
    rw [e2]
    dsimp only [Option.map]
    exact wpAny_bind (sit_off hit fun h1 k1 => fin k1)
  | false =>
    by_cases hs : es.size > 1
    · have ef : ∀ j, sFirst w es t T j = .ref T := fun j => by unfold sFirst; rw [if_neg (by rw [hb]; exact Bool.false_ne_true), if_pos hs]
      rw [ef] at hit ⊢
      dsimp only
      obtain ⟨oT, hoT, hcT, nT, hdT⟩ := hst.tup hb hs
      refine wpAny_bind (wpAny_seqItems hoT hdT ?_)
      dsimp only
      have e1 : (ps.map fun (p : Nat) => Value.int p 0).toArray[es.size]? = none := by
        have := hps.length_eq
        rw [List.length_range] at this
        simp [this]
      rw [e1]
      dsimp only
      refine wpAny_bind (sit_set (x := .int 0 0) hit fun h1 it1 k1 => ?_)
      exact wpAny_bind (sit_off it1 fun h2 k2 => fin (k1.trans k2))
    · rcases place_few hst.set hs with ⟨ee, ej⟩ | ⟨e0, j, ee, ej⟩
      · have ef0 : sFirst w es t T es.size = .int 0 0 := by unfold sFirst; rw [if_neg (by rw [hb]; exact Bool.false_ne_true), if_neg hs, ee, if_pos (by simp)]
        rw [ef0] at hit ⊢
        dsimp only
        rw [Int.toNat_zero]
        refine wpAny_bind (setNext_few hst.set hb hs ?_)
        have em : nextFew es t 0 = none := by
          unfold nextFew
          rw [ej, below_nil, ee]; rfl
        rw [em]
        dsimp only
        exact wpAny_bind (sit_off hit fun h1 k1 => fin k1)
      · have ef1 : sFirst w es t T es.size = .int ((j + 1 : Nat) : Int) 0 := by unfold sFirst; rw [if_neg (by rw [hb]; exact Bool.false_ne_true), if_neg hs, ee, if_neg (by simp), ej]; rfl
        rw [ef1] at hit ⊢
        dsimp only
        rw [Int.toNat_natCast]
        refine wpAny_bind (setNext_few hst.set hb hs ?_)
        have em : nextFew es t (j + 1) = none := by
          unfold nextFew
          rw [ej, below_one', ee]; rfl
        rw [em]
        dsimp only
        exact wpAny_bind (sit_off hit fun h1 k1 => fin k1)
theorem si_self {Q : Value → Shared → Prop} {f : Value} {n : Nat} (hit : SIter s.heap I a f i n ep) (h : Q (.ref I) s) : wpAny (model prog w) A (pyIter (.ref I)) Q E s := by
  refine wpAny_pyIter_slot hit.typeIs slot_si_iter (wpAny_call_entry slot_si_iter hit.typeIs entry_si_iter ?_ (args_si_iter _))
  show wpAny _ _ (ret (.ref I)) _ _ s
  exact wpAny_pure ⟨_, rfl, "set_iterator", _, hit.typeIs, slot_si_next.lookup, h⟩
theorem Walks.set (hh : A.handled = none) (hI : a ≠ I) (hT : T ≠ I) (hps : ps.Perm (List.range es.size)) :
    Walks prog w A I [I, a, T] [I] es.size (fun i v => (sOrder w a es ep ps)[i]?.map (·.2) = some v) (fun i h => SSt prog w a I T es ep t ps i h) where
  sub := fun b hb => by simp at hb; simp [hb]
  frame := fun i h h' st hk => ⟨st.set.at' fun o e => hk a (by simp) o e, st.it.at' fun o e => hk I (by simp) o e, fun h1 h2 => let ⟨o, e, c⟩ := st.tup h1 h2; ⟨o, hk T (by simp) o e, c⟩⟩
  item := fun i s Q E hi st hQ => set_next_item st hps hI hT hi fun v h' tk e st' k => hQ v h' tk e st' fun b o hb q => k b o (fun z => hb (by simp [z])) q
  done := fun s Q E st hQ => set_next_done hh st hps fun h' tk k => hQ h' tk fun b o hb q => k b o (fun z => hb (by simp [z])) q
  self := fun i s Q E st hQ => si_self st.it hQ
theorem set_pyIter {Q : Value → Shared → Prop} (x : TxAt prog w s.heap a es ep t)
    (h : ∀ (I T : Addr) (ps : List Nat) (h' : Heap) (d : Drawn), ps.Perm (List.range es.size) → a ≠ I → T ≠ I → s.heap.objs.size ≤ I → (T = a ∨ s.heap.objs.size ≤ T) → I < h'.objs.size → T < h'.objs.size → SSt prog w a I T es ep t ps 0 h' → (∀ b o, s.heap.get? b = some o → h'.get? b = some o) → Q (.ref I) { s with heap := h', drawn := d }) :
    wpAny (model prog w) A (pyIter (.ref a)) Q E s := by
  have hT : s.TypeIs (.ref a) "set" := ⟨_, x.get, rfl⟩
  have hlt : a < s.heap.objs.size := Heap.lt_size x.get
  refine wpAny_pyIter_slot hT F.slot_set_iter (wpAny_call_entry F.slot_set_iter hT entry_set_iter ?_ (F.args_set_iter_1 _))
  unfold Builtin.«frozenset.__iter__» Builtin.Frozenset.slot0 slotArgs
  simp only [List.isEmpty_nil, Bool.not_true, Bool.false_eq_true, ↓reduceIte, bind_assoc, List.length_nil, bne_self_eq_false]
  unfold Builtin.Frozenset.addrOf Builtin.Frozenset.sizeOf
  refine wpAny_bind (wpAny_pure ?_)
  try dsimp only
  refine wpAny_bind (wpAny_pure ?_)
  refine wpAny_bind (wpAny_bind (wpAny_setEntries_of x.get rfl x.fit (wpAny_pure ?_)))
  refine wpAny_bind (setDrawn_of x ?_)
  have fin : ∀ (T : Addr) (ps : List Nat) (h1 : Heap) (d : Drawn), ps.Perm (List.range es.size) → (T = a ∨ s.heap.objs.size ≤ T) → T < h1.objs.size → (∀ b o, s.heap.get? b = some o → h1.get? b = some o) → s.heap.objs.size ≤ h1.objs.size →
      (w.params.followText "set-order" = false → es.size > 1 → IsTup h1 T (ps.map fun (p : Nat) => Value.int p 0).toArray) →
      wpAny (model prog w) A.in1 (do
        let r ← newFields "set_iterator" [sFirst w es t T 0, rawInt 0, Value.ref a, rawInt (es.size : Nat), rawInt (ep : Nat)]
        ret r) (fun fin s' => ∃ v, fin = Fin.done (Flow.ret v) ∧ ∃ T' r, s'.TypeIs v T' ∧ typeLookup (Value.type T') (Str.ofString "__next__") = pure (some r) ∧ Q v s') E { s with heap := h1, drawn := d } := fun T ps h1 d hps hTa hTl k hz hp => by
    refine wpAny_bind (wpAny_newObj_type (wpAny_pure ⟨_, rfl, "set_iterator", _, ⟨_, Heap.get?_push_size _ rfl, rfl⟩, slot_si_next.lookup, ?_⟩))
    have k2 : ∀ b o, h1.get? b = some o → (h1.push { cls := .type "set_iterator", data := .fields #[sFirst w es t T 0, rawInt 0, Value.ref a, rawInt (es.size : Nat), rawInt (ep : Nat)] }).get? b = some o := fun b o e => Heap.get?_push_of_some _ e
    refine h h1.objs.size T ps (h1.push { cls := .type "set_iterator", data := .fields #[sFirst w es t T 0, rawInt 0, Value.ref a, rawInt (es.size : Nat), rawInt (ep : Nat)] }) d hps (Nat.ne_of_lt (Nat.lt_of_lt_of_le hlt hz)) (Nat.ne_of_lt hTl) hz hTa (by rw [Heap.size_push]; exact Nat.lt_succ_self _) (by rw [Heap.size_push]; exact Nat.lt_succ_of_lt hTl) ⟨x.at' fun o e => k2 _ _ (k _ _ e), ⟨_, Heap.get?_push_size _ rfl, rfl, rfl⟩, fun h1 h2 => ?_⟩ fun b o e => k2 _ _ (k _ _ e)
    obtain ⟨o, e, c⟩ := hp h1 h2
    exact ⟨o, k2 _ _ e, c⟩
  by_cases hd : w.params.followText "set-order" = false ∧ es.size > 1
  · have e1 : (!w.params.followText "set-order" && decide (es.size > 1)) = true := by rw [hd.1, decide_eq_true hd.2]; rfl
    rw [e1]
    simp only [if_true]
    refine wpAny_bind (wpAny_drawOrder _ _ _ _ (by simp) fun ys d p => ?_)
    simp only [newTuple]
    have hys : ys.length ≤ sizeLine := by rw [p.length_eq, List.length_range]; exact fits_of_scanBound x.bd
    refine wpAny_bind (wpAny_newObj_type ?_ (by show (List.map (fun (i : Nat) => rawInt i) ys).toArray.size ≤ sizeLine; simpa using hys))
    refine wpAny_bind (wpAny_setEpoch_of (Heap.get?_push_of_some _ x.get) rfl x.fit ?_)
    have ef : sFirst w es t s.heap.objs.size 0 = .ref s.heap.objs.size := by unfold sFirst; rw [if_neg (by rw [hd.1]; exact Bool.false_ne_true), if_pos hd.2]
    have q := fin s.heap.objs.size ys (s.heap.push { cls := .type "tuple", data := .seq (ys.map fun (p : Nat) => Value.int p 0).toArray }) d p (.inr (Nat.le_refl _)) (by rw [Heap.size_push]; exact Nat.lt_succ_self _) (fun b o e => Heap.get?_push_of_some _ e) (by rw [Heap.size_push]; exact Nat.le_succ _) (fun _ _ => ⟨_, Heap.get?_push_size _ rfl, rfl, _, rfl⟩)
    rw [ef] at q
    exact q
  · have e1 : (!w.params.followText "set-order" && decide (es.size > 1)) = false := by
      rw [Bool.eq_false_iff]
      intro z
      rw [Bool.and_eq_true, Bool.not_eq_true', decide_eq_true_eq] at z
      exact hd z
    rw [e1]
    simp only [Bool.false_eq_true, if_false]
    refine wpAny_bind (wpAny_pure ?_)
    refine wpAny_bind (wpAny_setEpoch_of x.get rfl x.fit ?_)
    have ef : sFirst w es t a 0 = rawInt 0 := by
      unfold sFirst
      split
      · rfl
      · split
        · rename_i q1 q2
          exact absurd ⟨by simpa using q1, q2⟩ hd
        · rfl
    have q := fin a (List.range es.size) s.heap s.drawn .rfl (.inl rfl) hlt (fun _ _ e => e) (Nat.le_refl _) (fun h1 h2 => absurd ⟨h1, h2⟩ hd)
    rw [ef] at q
    exact q
end
end L2
set_option Elab.async false
set_option maxHeartbeats 4000000
set_option maxRecDepth 100000
namespace L2
open PySem PySem.Spec PyProof.Rows PySem.W
section
variable {prog : Program} {w : World} {A : Around} {E : Value → Shared → Prop} {s : Shared} {a I T : Addr} {es : Array (Int × Value)} {ep : Nat} {t : SetTable} {ps : List Nat} {i : Nat}
theorem set_hint {Q : Bool → Shared → Prop} (hT : s.TypeIs (.ref a) "set") (h : Q false s) : wpAny (model prog w) A (Builtin.List.listLengthHint (.ref a)) Q E s := by
  unfold Builtin.List.listLengthHint
  refine wpAny_bind (wpAny_specialOf hT PySem.F.slot_set_len.lookup ?_)
  generalize hid : ("set.__len__" : String) = id0
  wp_delta
  rw [show splitId id0 = some ("set", "__len__") from by subst hid; decide +kernel]
  subst hid
  refine wpAny_bind (wpAny_isInstance (T := "set") (b := true) hT (by rw [isSubtype_type]; kernel_rfl) ?_)
  refine wpAny_ite_split (fun hab => absurd hab (by decide)) (fun _ => ?_)
  refine wpAny_ite_split (fun _ => ?_) (fun hab => absurd (by decide +kernel) hab)
  refine wpAny_bind (wpAny_typeOf hT ?_)
  exact wpAny_pure h
theorem set_extend {R : Result → Shared → Prop} (hh : A.handled = none) (x : TxAt prog w s.heap a es ep t) (S : Addr) (hSa : S ≠ a) (res : Value) (c₀ : Nat) (hS : s.heap.get? S = some { cls := .type "list", data := .seq #[] c₀ })
    (hR : ∀ h' d tk acc' c' ps, ps.Perm (List.range es.size) → (∀ b o, b ≠ S → s.heap.get? b = some o → h'.get? b = some o) → h'.get? S = some { cls := .type "list", dict := none, data := .seq acc' c', slots := #[] } → ItemsOf (fun i v => (sOrder w a es ep ps)[i]?.map (·.2) = some v) acc' es.size → R (.ok (.ret res)) { s with heap := h', drawn := d, toks := tk }) :
    wpAny (model prog w) A.in1 (Builtin.List.listExtendWith (.ref S) (.ref a) res)
      (fun fin s' => match fin with | .done f => R (.ok f) s' | .again c' => c'.quiet = true ∧ codeAny (model prog w) A c' R s') (fun e s' => R (.error e) s') s := by
  have hn : es.size ≤ sizeLine := fits_of_scanBound x.bd
  have hSlt : S < s.heap.objs.size := Heap.lt_size hS
  unfold Builtin.List.listExtendWith
  refine wpAny_bind (wpAny_typeOf (T := "set") ⟨_, x.get, rfl⟩ ?_)
  have h1 : Builtin.List.listSameRef (.ref S) (.ref a) = false := by simp [Builtin.List.listSameRef, hSa]
  have h2 : (Value.type "set" == Value.type "list") = false := by decide
  have h3 : (Value.type "set" == Value.type "tuple") = false := by decide
  simp only [h1, h2, h3, Bool.or_false, Bool.false_eq_true, if_false]
  refine wpAny_bind (set_pyIter x fun I T ps h1 d hps haI hTI hIs hTs hIl hTl st k1 => ?_)
  have hSI : S ≠ I := Nat.ne_of_lt (Nat.lt_of_lt_of_le hSlt hIs)
  have hST : S ≠ T := by
    rcases hTs with z | z
    · rw [z]; exact hSa
    · exact Nat.ne_of_lt (Nat.lt_of_lt_of_le hSlt z)
  have hSf : S ∉ [I, a, T] := by simp only [List.mem_cons, List.not_mem_nil, or_false, not_or]; exact ⟨hSI, hSa, hST⟩
  have W : Walks prog w A.in1 I [I, a, T] [I] es.size (fun i v => (sOrder w a es ep ps)[i]?.map (·.2) = some v) (fun i h => SSt prog w a I T es ep t ps i h) := Walks.set hh haI hTI hps
  have key : ∀ (h : Heap) (c₁ tk : Nat), SSt prog w a I T es ep t ps 0 h → (∀ b o, b ≠ S → s.heap.get? b = some o → h.get? b = some o) →
      h.get? S = some { cls := .type "list", data := .seq #[] c₁ } → codeAny (model prog w) A (.builtin "list.extend.loop" ⟨[.ref S, .ref I, res], []⟩) R { s with heap := h, drawn := d, toks := tk } := by
    intro h c₁ tk hst hk hS₁
    refine codeAny_extend_loopS W.toS hn S hSf res es.size 0 _ #[] c₁ rfl (Nat.zero_le _) hst hS₁ (ItemsOf.nil _) fun s' acc' c' hm hS' hacc => ?_
    rw [Moved.eq_with hm]
    refine hR s'.heap _ s'.toks acc' c' ps hps (fun b o hb e => hm.heap b o (fun hmem => ?_) (hk b o hb e)) hS' hacc
    rcases List.mem_cons.mp hmem with e' | hmem
    · exact hb e'
    · rw [List.mem_singleton.mp hmem] at e
      exact absurd (Nat.lt_of_lt_of_le (Heap.lt_size e) hIs) (Nat.lt_irrefl _)
  have hS₁ := k1 _ _ hS
  refine wpAny_bind (wpAny_holding (set_hint ⟨_, k1 _ _ x.get, rfl⟩ ?_))
  refine wpAny_ite_split (fun _ => ?_) (fun _ => wpAny_pure ⟨plainId_quiet PySem.F.plain_extend_loop _, key _ c₀ _ st (fun b o _ e => k1 _ _ e) hS₁⟩)
  refine wpAny_bind (wpAny_rule ?_)
  refine wpAny_bind ?_
  show wpAny _ _ (updateSeq S (·.push .none) >>= fun _ => updateSeq S (·.pop)) _ _ _
  refine wpAny_bind (wpAny_updateSeq hS₁ rfl ?_)
  have hS₂ := Heap.get?_update_self (Obj.mapSeq (·.push Value.none)) hS₁ rfl
  refine wpAny_updateSeq (hz := by seq_fits) hS₂ rfl ?_
  have hS₃ := Heap.get?_update_self (Obj.mapSeq (·.pop)) hS₂ rfl
  refine wpAny_pure ⟨plainId_quiet PySem.F.plain_extend_loop _, key _ _ _ ?_ (fun b o hb e => ?_) hS₃⟩
  · refine W.frame 0 _ _ st fun b hb o e => ?_
    have hbS : b ≠ S := fun h => hSf (h ▸ hb)
    exact (Heap.get?_update_other _ _ (Ne.symm hbS)).trans ((Heap.get?_update_other _ _ (Ne.symm hbS)).trans e)
  · exact (Heap.get?_update_other _ _ (Ne.symm hb)).trans ((Heap.get?_update_other _ _ (Ne.symm hb)).trans (k1 _ _ e))
theorem set_collect {R : List Value → Shared → Prop} (hh : A.handled = none) (x : TxAt prog w s.heap a es ep t)
    (h : ∀ (h' : Heap) (d : Drawn) (tk : Nat) (acc : List Value), (∀ b o, s.heap.get? b = some o → h'.get? b = some o) → s.heap.objs.size ≤ h'.objs.size → acc.Perm (es.toList.map (·.2)) → R acc { s with heap := h', drawn := d, toks := tk }) :
    wpAny (model prog w) A (collect (.ref a)) R E s := by
  have hlt : a < s.heap.objs.size := Heap.lt_size x.get
  have fin : ∀ (acc : Array Value) (ps : List Nat), ps.Perm (List.range es.size) → ItemsOf (fun i v => (sOrder w a es ep ps)[i]?.map (·.2) = some v) acc es.size → acc.toList.Perm (es.toList.map (·.2)) := fun acc ps hps ha => by
    have e : acc.toList = (sOrder w a es ep ps).map (·.2) := by
      apply List.ext_getElem?
      intro i
      rw [List.getElem?_map]
      cases q : acc.toList[i]? with
      | some v => exact (ha.2 i v (by rw [← Array.getElem?_toList]; exact q)).symm
      | none =>
        have := List.getElem?_eq_none_iff.mp q
        rw [Array.length_toList, ha.1] at this
        have ol : (sOrder w a es ep ps).length = es.size := by rw [(order_perm (w := w) (a := a) (ep := ep) hps).length_eq, Array.length_toList]
        rw [List.getElem?_eq_none (by (first | lia | omega))]
        rfl
    rw [e]
    exact (order_perm hps).map _
  unfold collect
  refine wpAny_bind (wpAny_runValue (codeAny_builtin entry_proto_collect' ?_))
  rw [Around.under_plainId PySem.F.plain_proto_collect _]
  show wpAny _ A.in1 (newList [] >>= fun l => again (.builtin "list.__iadd__" ⟨[l, .ref a], []⟩)) _ _ s
  refine wpAny_bind (wpAny_newObj_type ?_)
  refine wpAny_pure ⟨plainId_quiet PySem.F.plain_list_iadd _, codeAny_builtin entry_list_iadd' ?_⟩
  rw [Around.under_plainId PySem.F.plain_list_iadd _]
  have hS₁ : (s.heap.push { cls := .type "list", data := .seq ([] : List Value).toArray }).get? s.heap.objs.size = some { cls := .type "list", data := .seq #[] } := Heap.get?_push_size _ rfl
  show wpAny _ A.in1 (Builtin.List.listExtendWith (.ref s.heap.objs.size) (.ref a) (.ref s.heap.objs.size)) _ _ _
  have key := set_extend (A := A) (s := { s with heap := s.heap.push { cls := .type "list", data := .seq ([] : List Value).toArray } })
    (R := fun (q : Result) (s' : Shared) => ∃ (h' : Heap) (d : Drawn) (tk : Nat) (acc' : Array Value) (c' : Nat), q = .ok (.ret (.ref s.heap.objs.size)) ∧ s' = { s with heap := h', drawn := d, toks := tk } ∧
      (∀ b o, s.heap.get? b = some o → h'.get? b = some o) ∧ h'.get? s.heap.objs.size = some { cls := .type "list", dict := none, data := .seq acc' c', slots := #[] } ∧ acc'.toList.Perm (es.toList.map (·.2)))
    hh (x.at' fun o e => Heap.get?_push_of_some _ e) s.heap.objs.size (Nat.ne_of_gt hlt) (.ref s.heap.objs.size) 0 hS₁
    (fun h' d tk acc' c' ps hps hk hS' hacc => ⟨h', d, tk, acc', c', rfl, rfl, fun b o e => hk b o (Nat.ne_of_lt (Heap.lt_size e)) (Heap.get?_push_of_some _ e), hS', fin _ _ hps hacc⟩)
  refine wpAny_mono key (fun fin s' x => ?_) fun e s' x => ?_
  · cases fin with
    | done f =>
      obtain ⟨h', d, tk, acc', c', e, rfl, hk, hS', hacc⟩ := x
      cases e
      show wpAny _ A (load s.heap.objs.size >>= _) _ _ _
      refine wpAny_bind (wpAny_load hS' ?_)
      exact wpAny_pure (h h' d tk acc'.toList hk (Nat.le_of_lt (Heap.lt_size hS')) hacc)
    | again c₁ =>
      refine ⟨x.1, codeAny_mono x.2 fun q s₂ y => ?_⟩
      obtain ⟨h', d, tk, acc', c', rfl, rfl, hk, hS', hacc⟩ := y
      show wpAny _ A (load s.heap.objs.size >>= _) _ _ _
      refine wpAny_bind (wpAny_load hS' ?_)
      exact wpAny_pure (h h' d tk acc'.toList hk (Nat.le_of_lt (Heap.lt_size hS')) hacc)
  · obtain ⟨_, _, _, _, _, e', _⟩ := x
    cases e'
theorem tx_strs {l : List (Int × Value)} (h : ElemsOf (PySem.strKind prog w) l) : StrsAre (l.map (·.2)) (l.map fun e => strOf e.2) := by
  have := strsAre_map (l.map (·.2)) fun v hv => by
    obtain ⟨e, he, rfl⟩ := List.mem_map.mp hv
    obtain ⟨tk, e2⟩ := el_str h he
    exact ⟨strOf e.2, tk, by rw [e2]; rfl⟩
  rw [List.map_map] at this
  exact this
theorem sorted_set {Q : Value → Shared → Prop} {ss : List Str} (hh : A.handled = none) (x : TxSet prog w s.heap a ss) (h64 : ss.length < 64)
    (h : ∀ (h' : Heap) (d : Drawn) (tk : Nat) (l : Addr) (vs : List Value) (ss' : List Str) (e : Nat), (∀ b o, s.heap.get? b = some o → h'.get? b = some o) → s.heap.objs.size ≤ l → h'.get? l = some (seqObj "list" vs.toArray e) → StrsAre vs ss' → ss'.Perm ss → sortedS ss' = true → Q (.ref l) { s with heap := h', drawn := d, toks := tk }) :
    wpAny (model prog w) A (call (.builtin "sorted") [.ref a]) Q E s := by
  obtain ⟨es, ep, t, T, e, nd⟩ := x
  subst e
  refine Calls.call_function_entry kind_sorted plain_sorted entry_sorted (args_sorted1 _) ?_
  unfold Builtin.«sorted»
  refine wpAny_bind (m := checkCount "sorted" 1 1 _) (wpAny_pure ?_)
  refine wpAny_bind (set_collect (A := A.in1) hh T fun h1 d tk acc k1 hsz hp => ?_)
  have hst := tx_strs T.el
  have hS : StrsAre acc (acc.map strOf) := strsAre_map acc fun v hv => hst.all v (hp.mem_iff.mp hv)
  have hpm : (acc.map strOf).Perm (txOf es) := by
    have := hp.map strOf
    rw [List.map_map] at this
    exact this
  have hl : acc.length < 64 := by
    have := hpm.length_eq
    rw [List.length_map] at this
    (first | lia | omega)
  refine wpAny_bind (wpAny_newList ?_ (Nat.le_of_lt (Nat.lt_of_lt_of_le hl (by decide))))
  show wpAny _ _ _ _ _ { s with heap := h1.push (seqObj "list" acc.toArray 0), drawn := d, toks := tk }
  have hoL : (h1.push (seqObj "list" acc.toArray 0)).get? h1.objs.size = some (seqObj "list" acc.toArray 0) := Heap.get?_push_size _ rfl
  refine wpAny_bind (wpAny_holding (wpAny_call_entry slot_list_sort ⟨_, hoL, rfl⟩ entry_list_sort (list_sort_treeK strKind_oneLt hoL hS.keysOf (fun v₁ v₂ rest e => keyKind_strs (by rw [← e]; exact hS)) hl fun st' a1 a2 => ⟨_, rfl, ?_⟩) (args_list_sort _)))
  obtain ⟨ss', b1, b2, b3⟩ := sorted_out_str hS a1 a2
  obtain ⟨e, he⟩ := sortedHeap_at (vs := acc) (out := (arrOf st').map (·.2)) hoL
  refine wpAny_pure ⟨_, rfl, h _ d tk h1.objs.size ((arrOf st').map (·.2)).toList ss' e (fun b o q => ?_) hsz (by rw [Array.toArray_toList]; exact he) b1 (b2.trans hpm) b3⟩
  have q1 := k1 _ _ q
  rw [sortedHeap_old (Nat.ne_of_lt (Heap.lt_size q1)) (by rw [size_push']; exact Nat.lt_succ_of_lt (Heap.lt_size q1))]
  exact Heap.get?_push_of_some _ q1
end
end L2
set_option Elab.async false
set_option maxHeartbeats 4000000
set_option maxRecDepth 100000
namespace L2
open PySem PySem.Spec PyProof.Rows
def SetIs (ts ss : List Str) : Prop := ts.Nodup ∧ ∀ x, x ∈ ts ↔ x ∈ ss
section
variable {prog : Program} {w : World} {A : Around} {R : Result → Shared → Prop} {I : Addr} {fp wr : List Addr} {G : Array GenState → Array GenState → Prop} {n : Nat} {P : Nat → Value → Prop} {St : Nat → Shared → Prop}
theorem TxSet.nd {h : Heap} {a : Addr} {ss : List Str} (x : TxSet prog w h a ss) : ss.Nodup := let ⟨_, _, _, _, _, n⟩ := x; n
theorem set_update_loop (W : WalksS prog w A.in1 I fp wr G n P St) (S : Addr) (hSf : S ∉ fp) (val : Nat → Str) (hval : ∀ i v, P i v → ∃ t, v = .str (val i) t) (hb : n + 1 < scanBound) :
    ∀ (k i : Nat) (s : Shared) (ts : List Str), n - i = k → i ≤ n → St i s → TxSet prog w s.heap S ts → ts.length ≤ i → (∀ x, x ∈ ts ↔ ∃ j, j < i ∧ val j = x) →
      (∀ s' ts', Moved (S :: wr) G s s' → TxSet prog w s'.heap S ts' → (∀ x, x ∈ ts' ↔ ∃ j, j < n ∧ val j = x) → R (.ok (.ret .none)) s') →
      codeAny (model prog w) A (.builtin "set.update.loop" ⟨[.ref S, .ref I], []⟩) R s := by
  have hSw : S ∉ wr := fun h => hSf (W.sub _ h)
  have hsub : ∀ b ∈ wr, b ∈ S :: wr := fun b hb => List.mem_cons_of_mem _ hb
  intro k
  induction k with
  | zero =>
    intro i s ts hk hi hst hS hl hm hR
    have hin : i = n := by (first | lia | omega)
    subst hin
    refine codeAny_builtin F.entry_set_update_loop ?_
    rw [Around.under_plainId F.plain_set_update_loop _]
    show wpAny _ A.in1 (pyNext (.ref I) >>= _) _ _ s
    refine wpAny_bind (W.done s _ _ hst fun s' hmv => ?_)
    show wpAny _ A.in1 (ret Value.none) _ _ s'
    exact wpAny_pure (hR s' ts (hmv.mono hsub) (hS.at' fun o e => hmv.heap S _ hSw e) hm)
  | succ k ih =>
    intro i s ts hk hi hst hS hl hm hR
    have hlt : i < n := by (first | lia | omega)
    refine codeAny_builtin F.entry_set_update_loop ?_
    rw [Around.under_plainId F.plain_set_update_loop _]
    show wpAny _ A.in1 (pyNext (.ref I) >>= _) _ _ s
    refine wpAny_bind (W.item i s _ _ hlt hst fun v s' hP hst' hmv => ?_)
    obtain ⟨t, rfl⟩ := hval i v hP
    have hS' : TxSet prog w s'.heap S ts := hS.at' fun o e => hmv.heap S _ hSw e
    show wpAny _ A.in1 (holding [Value.str (val i) t] (setAdd S (.str (val i) t)) >>= _) _ _ s'
    refine wpAny_bind (wpAny_holding ?_)
    unfold setAdd
    refine wpAny_holding ?_
    refine wpAny_bind ((PySem.strKind prog w).pyHash (k := val i) ((is_str rfl).mpr rfl) ?_)
    refine wpAny_setAddTx (s := { s' with toks := s'.toks + 1 }) hS' (by (first | lia | omega)) fun h' ts' hsb hS2 alt => ?_
    have hl' : ts'.length ≤ i + 1 := by
      rcases alt with ⟨_, e⟩ | ⟨_, p⟩
      · rw [e]; (first | lia | omega)
      · rw [p.length_eq, List.length_append]; simp; (first | lia | omega)
    have hm' : ∀ x, x ∈ ts' ↔ ∃ j, j < i + 1 ∧ val j = x := fun x => by
      constructor
      · intro hx
        have : x ∈ ts ∨ x = val i := by
          rcases alt with ⟨_, e⟩ | ⟨_, p⟩
          · rw [e] at hx; exact .inl hx
          · rcases List.mem_append.mp (p.mem_iff.mp hx) with z | z
            · exact .inl z
            · exact .inr (List.mem_singleton.mp z)
        rcases this with z | z
        · obtain ⟨j, hj, e⟩ := (hm x).mp z
          exact ⟨j, by (first | lia | omega), e⟩
        · exact ⟨i, by (first | lia | omega), z.symm⟩
      · rintro ⟨j, hj, rfl⟩
        rcases alt with ⟨q, e⟩ | ⟨_, p⟩
        · rw [e]
          by_cases hji : j = i
          · subst hji; exact q
          · exact (hm _).mpr ⟨j, by (first | lia | omega), rfl⟩
        · refine p.mem_iff.mpr (List.mem_append.mpr ?_)
          by_cases hji : j = i
          · subst hji; exact .inr (List.mem_singleton.mpr rfl)
          · exact .inl ((hm _).mpr ⟨j, by (first | lia | omega), rfl⟩)
    refine wpAny_pure ⟨plainId_quiet F.plain_set_update_loop _, ih (i + 1) _ ts' (by (first | lia | omega)) hlt (W.frame _ s' _ _ hst' (Nat.le_succ _) fun b hb o e => ?_) hS2 hl' hm' fun s'' ts'' hm'' hS'' q => ?_⟩
    · rw [hsb.2 b (fun h : b = S => hSf (by rw [← h]; exact hb))]; exact e
    · refine hR s'' ts'' (Moved.trans W.gtrans ((hmv.mono hsub).then_heap (Nat.le_succ _) fun b o hb e => ?_) hm'') hS'' q
      rw [hsb.2 b (fun h : b = S => hb (by rw [h]; exact List.mem_cons_self))]; exact e
end
section
variable {prog : Program} {w : World} {A : Around} {E : Value → Shared → Prop} {s : Shared}
theorem code_set_new_tx (a : Value) {Q₁ : Value → Shared → Prop}
    (h : Q₁ (.ref s.heap.objs.size) { s with heap := s.heap.push { cls := .type "set", dict := none, data := .set #[] 0 (.fresh 0 0 (!w.params.followText "set-order")) } }) :
    codeAny (model prog w) A (.call (.builtin "set.__new__") ⟨[.type "set", a], []⟩) (wants Q₁ E) s := by
  refine codeAny_of_tree ?_
  show wpAny _ A.in1 (do checkBuiltinCall "set.__new__" ⟨[.type "set", a], []⟩; again (.builtin "set.__new__" ⟨[.type "set", a], []⟩)) _ _ s
  refine wpAny_bind (wpAny_of_eq (F.newCall_set_1 a) (wpAny_pure ⟨plainId_quiet F.plain_set_new _, codeAny_builtin F.entry_set_new ?_⟩))
  rw [Around.under_plainId F.plain_set_new _]
  unfold Builtin.«set.__new__» Builtin.Frozenset.newClass
  have hsub := sub_set_self
  obtain ⟨hp, g, d, tk, os⟩ := s
  dsimp only
  wp_walk
  refine wpAny_askSetting (wpAny_pure ?_)
  dsimp only
  simp only [newObj]
  refine wpAny_bind (wpAny_alloc (wpAny_pure ?_))
  exact wpAny_pure h
theorem tx_fresh (prog : Program) (w : World) (h : Heap) : TxSet prog w (h.push { cls := .type "set", dict := none, data := .set #[] 0 (.fresh 0 0 (!w.params.followText "set-order")) }) h.objs.size [] :=
  ⟨#[], 0, _, ⟨Heap.get?_push_size _ rfl, fun e he => by simp at he, by decide, rfl, rfl, .inr rfl⟩, rfl, List.nodup_nil⟩
theorem call_set_strs {l : Addr} {items : Array Value} {ss : List Str} {Q : Value → Shared → Prop}
    (hh : A.handled = none) (hl : s.heap.IsList l items) (hi : StrsAre items.toList ss) (hb : items.size + 1 < scanBound)
    (h : ∀ (h' : Heap) (tk : Nat) (ts : List Str), TxSet prog w h' s.heap.objs.size ts → SetIs ts ss →
      (∀ b o, b < s.heap.objs.size → s.heap.get? b = some o → h'.get? b = some o) → Q (.ref s.heap.objs.size) { s with heap := h', toks := tk }) :
    wpAny (model prog w) A (call (.type "set") [.ref l]) Q E s := by
  obtain ⟨c, tl, hmro⟩ := F.called_set.mro
  have hmade := F.called_set.made
  have hsub := F.called_set.sub
  refine wpAny_call (codeAny_of_tree ?_)
  show wpAny _ _ (callAny (.type "set") _) _ _ _
  refine wpAny_pure ⟨Code.quiet_builtin _ (by decide +kernel), codeAny_builtin F.entry_type_call ?_⟩
  rw [Around.under_plain (weight_type_call_type "set" [.ref l] []) rfl]
  have h1 := F.called_set.notType
  have h2 := F.called_set.canCreate
  have hct := F.typeCall_set_1 (.ref l)
  repeat (any_goals (first | assumption | wp_step))
  refine codeAny_mono (code_set_new_tx (.ref l) (E := E) (Q₁ := fun obj s₁ => obj = .ref s.heap.objs.size ∧ s₁ = { s with heap := s.heap.push { cls := .type "set", dict := none, data := .set #[] 0 (.fresh 0 0 (!w.params.followText "set-order")) } }) ⟨rfl, rfl⟩) fun r s₁ hr => ?_
  cases r with
  | error e => exact hr
  | ok fl =>
    cases fl with
    | ret obj =>
      obtain ⟨rfl, rfl⟩ := hr
      generalize hled : (!w.params.followText "set-order") = led at *
      have hS0 : TxSet prog w (s.heap.push { cls := .type "set", dict := none, data := .set #[] 0 (.fresh 0 0 led) }) s.heap.objs.size [] := by rw [← hled]; exact tx_fresh prog w s.heap
      have hS : (s.heap.push { cls := .type "set", dict := none, data := .set #[] 0 (.fresh 0 0 led) }).get? s.heap.objs.size = some { cls := .type "set", dict := none, data := .set #[] 0 (.fresh 0 0 led) } := Heap.get?_push_size _ rfl
      have hT : Shared.TypeIs { s with heap := s.heap.push { cls := .type "set", dict := none, data := .set #[] 0 (.fresh 0 0 led) } } (.ref s.heap.objs.size) "set" := ⟨_, hS, rfl⟩
      have hli := F.called_set.init.lookup
      have hbi := F.called_set.init.bind (.ref s.heap.objs.size)
      repeat (any_goals (first | assumption | wp_step))
      refine codeAny_mono (codeAny_call_builtin (R := wants (fun r s₂ => r = .none ∧ ∃ h' tk ts, s₂ = { s with heap := h', toks := tk } ∧ TxSet prog w h' s.heap.objs.size ts ∧ SetIs ts ss ∧
          (∀ b o, b < s.heap.objs.size → s.heap.get? b = some o → h'.get? b = some o)) E) F.called_set.init.plain F.entry_set_init (check_set_init_1 hT ?_)) fun r₂ s₂ hr₂ => ?_
      · obtain ⟨ol, hol, hcl, nl, hdl⟩ := hl
        obtain ⟨ocls, odict, odata, oslots⟩ := ol
        simp only at hcl hdl
        subst hcl; subst hdl
        have hol' : (s.heap.push { cls := .type "set", dict := none, data := .set #[] 0 (.fresh 0 0 led) }).get? l = some { cls := .type "list", dict := odict, data := .seq items nl, slots := oslots } := Heap.get?_push_of_some _ hol
        have hsls := F.sub_list_set
        have hslf := F.sub_list_frozenset
        have hne : (Value.type "list" == Value.type "dict") = false := by decide
        have hl1 : (s.heap.push { cls := .type "set", dict := none, data := .set #[] 0 (.fresh 0 0 led) }).IsList l items := ⟨_, hol', rfl, nl, rfl⟩
        unfold Builtin.«set.__init__» noKeywords Builtin.Frozenset.updateFrom
        generalize hPI : pyIter = PI
        wp_walk
        subst hPI
        refine wpAny_pyIter_list hl1 ?_
        refine wpAny_bind (wpAny_runValue ?_)
        have hlS : l < s.heap.objs.size := Heap.lt_size hol
        have hh3 : A.in1.in1.in1.handled = none := by simp [hh]
        have hneI : l ≠ (s.heap.push { cls := .type "set", dict := none, data := .set #[] 0 (.fresh 0 0 led) }).objs.size := by
          rw [Heap.size_push]; exact Nat.ne_of_lt (Nat.lt_succ_of_lt hlS)
        have hSf : s.heap.objs.size ∉ [(s.heap.push { cls := .type "set", dict := none, data := .set #[] 0 (.fresh 0 0 led) }).objs.size, l] := by
          rw [Heap.size_push]; simp only [List.mem_cons, List.mem_singleton, List.not_mem_nil, or_false, not_or]
          exact ⟨Nat.ne_of_lt (Nat.lt_succ_self _), Nat.ne_of_gt hlS⟩
        have hln : items.toList.length = ss.length := by
          have := congrArg List.length hi.strs
          rwa [List.length_map] at this
        have hval : ∀ (i : Nat) (v : Value), items[i]? = some v → ∃ t, v = .str ((fun i => ss.getD i ⟨#[]⟩) i) t := fun i v hv => by
          have hv' : items.toList[i]? = some v := by rw [Array.getElem?_toList]; exact hv
          obtain ⟨x, t, e⟩ := hi.all v (List.mem_of_getElem? hv')
          refine ⟨t, ?_⟩
          have e2 : ss[i]? = some (strOf v) := by rw [← hi.strs, List.getElem?_map, hv']; rfl
          rw [e]
          simp only [List.getD_eq_getElem?_getD, e2, e]
          rfl
        refine set_update_loop ((Walks.list hh3 _ l hneI items).toS) s.heap.objs.size
          hSf (fun i => ss.getD i ⟨#[]⟩) hval hb (items.size - 0) 0 _ [] (by (first | lia | omega)) (Nat.zero_le _)
          ⟨⟨_, Heap.get?_push_size _ rfl, rfl, rfl⟩, (hl1.push _)⟩ ?hS0 (Nat.le_refl _) (fun x => ?hM) ?hR
        case hS0 => exact hS0.at' fun o e => Heap.get?_push_of_some _ e
        case hM => exact ⟨(fun h => nomatch h), fun ⟨j, hj, _⟩ => absurd hj (Nat.not_lt_zero j)⟩
        case hR =>
          intro s' ts hm hS' hq
          obtain ⟨h', g', d', tk', os'⟩ := s'
          have eg : g' = s.gens := hm.gens
          have ed : d' = s.drawn := hm.drawn
          have eo : os' = s.os := hm.os
          subst eg; subst ed; subst eo
          show wpAny _ _ _ _ _ _
          refine wpAny_pure ?_
          show wpAny _ _ (ret Value.none) _ _ _
          refine wpAny_pure ⟨rfl, h', tk', ts, rfl, hS', ⟨hS'.nd, fun x => (hq x).trans ?_⟩, fun b o hb e => ?_⟩
          · have hz : items.size = ss.length := by rw [← hln, Array.length_toList]
            constructor
            · rintro ⟨j, hj, e⟩
              rw [hz] at hj
              rw [← e, List.getD_eq_getElem?_getD, List.getElem?_eq_getElem hj]
              exact List.getElem_mem hj
            · intro hx
              obtain ⟨j, hj, e⟩ := List.mem_iff_getElem.mp hx
              refine ⟨j, by rw [hz]; exact hj, ?_⟩
              rw [List.getD_eq_getElem?_getD, List.getElem?_eq_getElem hj]
              exact e
          · have hb1 : b ≠ s.heap.objs.size := Nat.ne_of_lt hb
            have hb2 : b ≠ (s.heap.push { cls := .type "set", dict := none, data := .set #[] 0 (.fresh 0 0 led) }).objs.size := by
              rw [Heap.size_push]; exact Nat.ne_of_lt (Nat.lt_succ_of_lt hb)
            exact hm.heap b o (by simp only [List.mem_cons, List.mem_singleton, List.not_mem_nil, or_false, not_or]; exact ⟨hb1, hb2⟩) (Heap.get?_push_of_some _ (Heap.get?_push_of_some _ e))
      · cases r₂ with
        | error e => exact hr₂
        | ok fl₂ =>
          cases fl₂ with
          | ret r =>
            obtain ⟨rfl, h', tk, ts, rfl, hS', hi', hk'⟩ := hr₂
            repeat (any_goals (first | assumption | wp_step))
            exact h _ _ ts hS' hi' hk'
          | _ => exact hr₂.elim
    | _ => exact hr.elim
end
end L2
set_option Elab.async false
set_option linter.all false
set_option maxHeartbeats 4000000
set_option maxRecDepth 100000
namespace L2
open PySem PySem.Spec PyProof.Rows
theorem Inv.drawn' {X : Cx} {pins : List (Addr × Obj)} {σ : St} {H : Hp} {s : Shared} (I : Inv X pins σ H s) (d : Drawn) : Inv X pins σ H { s with drawn := d } := ⟨I.ok, I.os, I.bare, I.base, I.loc, I.cell, I.free, I.freeC, I.pin, I.hok, I.len⟩
def setO (P : Program) (w : World) (a : Addr) (ss : List Str) : HO := .ext fun h => TxSet P w h a ss
theorem set_ok {P : Program} {w : World} {H : Hp} {h : Heap} {a : Addr} {ss : List Str} (x : TxSet P w h a ss) : ObjOk P w H h a (setO P w a ss) :=
  ⟨x, (let ⟨_, _, _, T, _⟩ := x; ⟨_, T.get⟩), fun _ _ y k => y.at' k⟩
theorem set_of {P : Program} {w : World} {H : Hp} {h : Heap} {a : Addr} {ss : List Str} (ok : HOk P w H h) (e : H a = some (setO P w a ss)) : TxSet P w h a ss := (ok a _ e).1
section
variable {X : Cx}
theorem call_sorted_set (hc : X.calm = true) : CallR X (.builtin "sorted") (fun xs H Q => ∃ (a : Addr) (ss : List Str), xs = [.ref a] ∧ H a = some (setO X.prog X.w a ss) ∧ ss.length < 64 ∧ ∀ (l : Addr) (ss' : List Str), H l = none → ss'.Perm ss → sortedS ss' = true → Q (.ref l) (upd H l (.lst (ss'.map V.str)))) := by
  intro pins s σ H xs us Q I r h
  obtain ⟨a, ss, rfl, e, hl, q⟩ := h
  obtain ⟨u, rfl, rx⟩ := vals1 r
  cases rx
  refine sorted_set (I.ok.hd hc) (set_of I.hok e) hl fun h' d tk l vs ss' ep k hz hg hS hp hs => ?_
  refine ⟨.ref l, _, ((I.laid (t' := tk) (o := .lst (ss'.map V.str)) k hz ⟨?_, vs, ep, of_strsAre hS, hg⟩).drawn' d), rfl, q l ss' (I.hok.fresh hz) hp hs⟩
  rw [List.length_map, hp.length_eq]
  exact Nat.le_of_lt (Nat.lt_of_lt_of_le hl (by decide))
theorem call_set_of (hc : X.calm = true) : CallR X (.type "set") (fun xs H Q => ∃ (p : Addr) (ss : List Str), xs = [.ref p] ∧ SqL X.K H p (ss.map V.str) ∧ ss.length + 1 < scanBound ∧ ∀ (a : Addr) (ts : List Str), H a = none → SetIs ts ss → Q (.ref a) (upd H a (setO X.prog X.w a ts))) := by
  intro pins s σ H xs us Q I r h
  obtain ⟨p, ss, rfl, hq, hb, q⟩ := h
  obtain ⟨u, rfl, rx⟩ := vals1 r
  cases rx
  obtain ⟨its, rv, pl, hz⟩ := I.list hq
  have hlen := rv.length
  rw [List.length_map] at hlen
  refine call_set_strs (I.ok.hd hc) pl.isList (by simpa using strsAre_of rv) (by simpa [← hlen] using hb) fun h' tk ts hS hi k => ?_
  exact ⟨.ref s.heap.objs.size, _, I.laid (t' := tk) (o := setO X.prog X.w s.heap.objs.size ts) (fun b o e => k b o (Heap.lt_size e) e) (Nat.le_refl _) (set_ok hS), rfl, q _ ts I.fresh hi⟩
end
section
variable {prog : Program} {w : World} {A : Around} {R : Result → Shared → Prop} {s : Shared}
end
section
variable {X : Cx}
end
end L2
set_option Elab.async false
set_option linter.all false
set_option maxHeartbeats 4000000
set_option maxRecDepth 100000
namespace L2
open PySem PySem.Spec PyProof.Rows PySem.W
section
variable {X : Cx} {pins : List (Addr × Obj)} {σ : St} {H : Hp} {s : Shared} {a : Addr} {o : Obj} {kvs : List (Key × V)}
end
section
variable {X : Cx} {tg : Expr}
end
section
variable {X : Cx}
end
end L2
set_option Elab.async false
set_option linter.all false
set_option maxHeartbeats 4000000
set_option maxRecDepth 100000
namespace L2
open PySem PySem.Spec PyProof.Rows
section
variable {nl : Nat} {ix : List Nat} {g : TG} {tf : TT} {tk tv : TE} {σ : St} {H1 : Hp} {D : Addr} {Q : VK} (Pv : Nat → List (Key × V) → Hp → Prop)
end
theorem turn_test {nl : Nat} {ix : List Nat} {te : TE} {tf : TT} {σ : St} {D : Addr} {ys : List V} {H : Hp} {x : V} {nxt : List V → Hp → Prop} {i : Nat} (h1 : ((capt nl ix σ).set i (some x)).drop nl = ix.map fun j => (σ[j]?).join)
    (h : tf ((capt nl ix σ).set i (some x)) H fun b H5 => if b = true then te ((capt nl ix σ).set i (some x)) H5 fun y H6 => H6 D = some (.lst ys) ∧ ys.length < sizeLine ∧ nxt (ys ++ [y]) (upd H6 D (.lst (ys ++ [y]))) else nxt ys H5) : CompTurn nl ix (gName i) tf te σ D ys H x nxt := by
  unfold CompTurn gName
  dsimp only
  exact ⟨⟨by simp, h1⟩, h⟩
end L2
set_option Elab.async false
set_option linter.all false
set_option maxHeartbeats 4000000
set_option maxRecDepth 100000
namespace L2
open PySem PySem.Spec PyProof.Rows
def tCut (t : TS) : TS := fun D σ H => ∃ N : St → Hp → Prop, (∀ σ' H', N σ' H' → D.nx σ' H') ∧ t { D with nx := N } σ H
theorem ps_cut {X : Cx} {st : Stmt} {t : TS} (h : PS X st t) : PS X st (tCut t) := by
  intro pins s σ H D I hw
  obtain ⟨N, hN, q⟩ := hw
  refine thn (h pins s σ H _ I q) fun f s1 q1 => ?_
  cases f with
  | next => obtain ⟨σ', H', I', n⟩ := q1; exact ⟨σ', H', I', hN _ _ n⟩
  | brk => exact q1
  | cont => exact q1
  | ret u => exact q1
theorem app_codes (a b : Str) : (a ++ b).cps.toList = a.cps.toList ++ b.cps.toList := by
  show (a.cps ++ b.cps).toList = _
  simp
theorem join_codes : ∀ ss : List Str, (Txt.join (Str.ofString "") ss).cps.toList = (ss.map (·.cps.toList)).flatten := by
  intro ss
  show (Builtin.Str.glued (PySem.Str.ofString "") ss).cps.toList = _
  rw [StrLaws.glued_eq_join]
  have e0 : (Str.ofString "").cps.toList = [] := by decide
  induction ss with
  | nil => rfl
  | cons a r ih =>
    cases r with
    | nil => simp [Str.join]
    | cons b r' =>
      have : Str.join (Str.ofString "") (a :: b :: r') = a ++ Str.ofString "" ++ Str.join (Str.ofString "") (b :: r') := rfl
      rw [this, app_codes, app_codes, e0, List.append_nil, ih]
      simp
end L2
set_option Elab.async false
set_option linter.all false
set_option maxHeartbeats 4000000
set_option maxRecDepth 100000
namespace L2
open PySem PySem.Spec PyProof.Rows
section
variable {X : Cx} {outer scope : Scope} {N N' : List Str} {nl : Nat} {ix : List Nat} {tg iter : Expr} {ifs : List Expr} {pos : Pos} {wi : TI} {g : TG} {tf : TT}
theorem pe_lc {elt : Expr} {te : TE} (h1 : X.env.scope = outer) (h2 : X.N = N) (hc : X.calm = true) (hi : PI X tg iter wi)
    (hg : ∀ C fp s₀ H₀, PG (X.comp scope N' C fp s₀ H₀) tg g) (hf : ∀ C fp s₀ H₀, PIf (X.comp scope N' C fp s₀ H₀) ifs tf) (he : ∀ C fp s₀ H₀, PE (X.comp scope N' C fp s₀ H₀) elt te)
    (hck : compOk outer scope N N' nl ix = true := by decide +kernel) (hs : ∀ x, foldedSetIterable iter X.env x = pure x := by intro _; rfl) : PE X (.ListComp elt [⟨tg, iter, ifs, 0⟩] scope pos) (tLComp nl ix wi g tf te) :=
  let ⟨S, Cp⟩ := comp_of h1 h2 hck
  pe_lcomp hc S Cp hi hg hf he hs
end
end L2
set_option Elab.async false
set_option linter.all false
set_option maxHeartbeats 4000000
set_option maxRecDepth 100000
namespace L2
open PySem PySem.Spec PyProof.Rows
section
variable {X : Cx} {pins : List (Addr × Obj)} {σ : St} {H : Hp} {s : Shared} {h' : Heap}
theorem Inv.turnedL {t' : Nat} {fp : List Addr} (I : Inv X pins σ H s) (k : ∀ b o, b ∉ fp → s.heap.get? b = some o → h'.get? b = some o) (hf : ∀ b ∈ fp, FpOk X pins H b) : Inv X pins σ H { s with heap := h', toks := t' } := by
  have nit : ∀ b u, H b = some u → b ∉ fp := fun b u e z => by have := (hf b z).1; rw [e] at this; cases this
  refine I.step (g' := s.gens) (d' := s.drawn) (ch := fp) (fun b hb => ?_) (fun b o _ _ hc e _ => k b o hc e) (fun b o _ _ hc e _ => ⟨o.slots, k b o hc e⟩) (fun _ _ _ _ n => n)
    (fun b o hc e => ⟨o, k b o hc e⟩) (fun _ _ e => e) (fun _ _ _ e => e) (fun b ps e => ⟨#[], by rw [e]; simp⟩) (fun m hm => ?_) (fun b u e => ?_) I.bare
  · obtain ⟨f0, f1, f2, f3, f4, f5⟩ := hf b hb
    exact ⟨f3, f1, f4, f5⟩
  · obtain ⟨o, es, ep, ho, r⟩ := hm
    exact ⟨o, es, ep, k _ o (fun z => (hf _ z).2.1 rfl) ho, r⟩
  · refine (I.hok b u e).stay (fun c v hc q => k c v ?_ q) (fun _ q => q) fun _ _ q => q
    rcases hc with z | z
    · rw [z]; exact nit b u e
    · exact nit c _ z
theorem Inv.turnedNew {t' : Nat} {fp : List Addr} {a : Addr} {o : HO} (I : Inv X pins σ H s) (k : ∀ b o, b ∉ fp → s.heap.get? b = some o → h'.get? b = some o) (hf : ∀ b ∈ fp, FpOk X pins H b) (hp : s.heap.objs.size ≤ a) (new : ObjOk X.prog X.w (upd H a o) h' a o) :
    Inv X pins σ (upd H a o) { s with heap := h', toks := t' } := by
  have ha : H a = none := I.hok.fresh hp
  have nit : ∀ b u, H b = some u → b ∉ fp := fun b u e z => by have := (hf b z).1; rw [e] at this; cases this
  have up : ∀ {b u}, H b = some u → upd H a o b = some u := fun {b u} e => by rw [upd_ne (ne_of_none e ha)]; exact e
  refine I.step (g' := s.gens) (d' := s.drawn) (ch := fp) (fun b hb => ?_) (fun b o _ _ hc e _ => k b o hc e) (fun b o _ _ hc e _ => ⟨o.slots, k b o hc e⟩) (fun b ob _ e n => ?_)
    (fun b o hc e => ⟨o, k b o hc e⟩) (fun _ _ e => up e) (fun _ _ _ e => up e) (fun b ps e => ⟨#[], by rw [up e]; simp⟩) (fun m hm => ?_) (fun b u e => ?_) I.bare
  · obtain ⟨f0, f1, f2, f3, f4, f5⟩ := hf b hb
    exact ⟨f3, f1, f4, f5⟩
  · rw [upd_ne (Nat.ne_of_lt (Nat.lt_of_lt_of_le (Heap.lt_size e) hp))]; exact n
  · obtain ⟨o, es, ep, ho, r⟩ := hm
    exact ⟨o, es, ep, k _ o (fun z => (hf _ z).2.1 rfl) ho, r⟩
  · by_cases hb : b = a
    · subst hb; rw [upd_same] at e; cases e; exact new
    · rw [upd_ne hb] at e
      refine (I.hok b u e).stay (fun c v hc q => k c v ?_ q) (fun _ q => up q) fun _ _ q => up q
      rcases hc with z | z
      · rw [z]; exact nit b u e
      · exact nit c _ z
end
def ItE (K : PySem.W.Frag) (a : Addr) : It :=
  ⟨fun i H => ∃ xs x, SqL K H a xs ∧ xs[i]? = some x, fun i H x H' => ∃ T v, x = .ref T ∧ H T = none ∧ H' = upd H T (.tup [.int (i : Int), v]) ∧ ∀ xs, SqL K H a xs → xs[i]? = some v, fun i H => ∃ xs, SqL K H a xs ∧ xs.length ≤ i⟩
theorem turn_enum {P : Program} {w : World} {K : PySem.W.Frag} {es : List Expr} {kk : Nat} {tp : Pos} (a e it : Addr) (hei : e ≠ it) : Turn P w K (.Tuple es kk tp) (ItE K a) [e, it] e (fun i h => (∃ old, IsEnum h e it (i : Int) old) ∧ h.IsListIter it a i) where
  mem := by simp
  obj := fun i h st b hb => by
    obtain ⟨⟨old, he⟩, hi⟩ := st
    rcases List.mem_cons.mp hb with z | hb
    · rw [z]; exact ⟨_, he, fun v z => by cases z⟩
    · rw [List.mem_singleton.mp hb]
      obtain ⟨o, e, c, d⟩ := hi
      exact ⟨o, e, fun v z => by rw [d] at z; cases z⟩
  keep := fun i h h' st k => ⟨let ⟨old, he⟩ := st.1; ⟨old, k e (by simp) _ he⟩, st.2.at fun o e => k it (by simp) o e⟩
  item := by
    intro X hP hw hK hc i pins s σ H E I hf st hg
    subst hP hw hK
    obtain ⟨xs, x, hq, hx⟩ := hg
    obtain ⟨its, rv, p, hz⟩ := I.list hq
    obtain ⟨u, hu, ru⟩ := rv.get hx
    obtain ⟨⟨old, he⟩, hit⟩ := st
    refine wpAny_pyNext_enum_item he hit p.isList (x := u) (by simpa using hu) hei fun h' ho hit' hT hsz k => ?_
    have hh : ∀ b o, b ∉ [e, it] → s.heap.get? b = some o → h'.get? b = some o := fun b o hb q => k b o (fun z => hb (by simp [z])) (fun z => hb (by simp [z])) q
    refine ⟨_, rfl, wpAny_letOwnedTupleGo_enum ho fun h2 he2 hs2 => ?_⟩
    have eT : s.heap.objs.size ≠ e := Nat.ne_of_gt (Heap.lt_size he)
    have hT2 : h2.get? s.heap.objs.size = some { cls := .type "tuple", data := .seq #[.int i s.toks, u] } := (hs2.2 _ eT).trans hT
    have hh2 : ∀ b o, b ∉ [e, it] → s.heap.get? b = some o → h2.get? b = some o := fun b o hb q => (hs2.2 b (fun z => hb (by simp [z]))).trans (hh b o hb q)
    have I2 := I.turnedNew (t' := s.toks + 1) (h' := h2) (o := .tup [.int (i : Int), x]) hh2 hf (Nat.le_refl _) ⟨by show 2 ≤ sizeLine; decide, [.int i s.toks, u], .cons ⟨_, rfl⟩ (.cons ru .nil), _, hT2, rfl, _, rfl⟩
    have fr : H s.heap.objs.size = none := I.fresh
    refine ⟨.ref s.heap.objs.size, _, I2, rfl, ⟨_, x, rfl, fr, rfl, fun ys hy => by rw [I.list_inj hy hq]; exact hx⟩, ⟨⟨_, by simpa using he2⟩, hit'.at fun o q => (hs2.2 it (Ne.symm hei)).trans q⟩, fun b hb => ?_⟩
    have hlt : b < s.heap.objs.size := by
      rcases List.mem_cons.mp hb with z | hb
      · rw [z]; exact Heap.lt_size he
      · rw [List.mem_singleton.mp hb]; obtain ⟨o, q, _⟩ := hit; exact Heap.lt_size q
    rw [upd_ne (Nat.ne_of_lt hlt)]
    exact (hf b hb).1
  done := by
    intro X hP hw hK hc i pins s σ H E I hf st hg
    subst hP hw hK
    obtain ⟨xs, hq, hx⟩ := hg
    obtain ⟨its, rv, p, hz⟩ := I.list hq
    obtain ⟨⟨old, he⟩, hit⟩ := st
    have hl := rv.length
    exact wpAny_pyNext_enum_end (I.ok.hd hc) he hit p.isList (by simp; (first | lia | omega)) fun h' eb => ⟨rfl, I.turnedL (t' := s.toks) (fun b o hb q => eb b o (fun z => hb (by simp [z])) q) hf⟩
  self := fun _ _ _ _ _ st h => let ⟨⟨_, he⟩, _⟩ := st; wpAny_pyIter_enum he h
def iEnum (K : PySem.W.Frag) (ta : TA) : TI := fun σ H R => ta σ H fun vs H1 => ∃ a, vs = [.ref a] ∧ (∃ xs, SqL K H1 a xs) ∧ R (ItE K a) H1
section
variable {X : Cx}
theorem boot_enumerate : bootBuiltins "enumerate" = some (.type "enumerate") := by decide +kernel
theorem pi_enum {a : Expr} {ta : TA} {p pos : Pos} {es : List Expr} {kk : Nat} {tp : Pos} (hg : Gl X "enumerate") (hm : X.mg "enumerate" = none) (ha : PA X [a] ta) (hs : starEach [a] X.env = [(false, eval a X.env)] := by rfl) : PI X (.Tuple es kk tp) (.Call (.Name "enumerate" p) [a] [] pos) (iEnum X.K ta) := by
  intro pins s σ H R I h
  refine Call_ (ld_blt I hg hm boot_enumerate (PyProof.Rows.callWith_type1 (thn (ha pos pins s σ H _ I h) fun us s1 ⟨vs, H1, I1, r1, q1⟩ => ?_) hs rfl))
  obtain ⟨a, e, ⟨xs, hq⟩, q⟩ := q1
  subst e
  obtain ⟨u, rfl, ru⟩ := vals1 r1
  cases ru
  obtain ⟨its, rv, p, hz⟩ := I1.list hq
  refine call_enumerate_list p.isList fun h' he hi hsz k => ?_
  have I2 : Inv X pins σ H1 { s1 with heap := h' } := I1.kept (t' := s1.toks) k
  refine wpAny_pyIter_enum he ⟨s1.heap.objs.size + 1, [s1.heap.objs.size + 1, s1.heap.objs.size], _, ItE X.K a, H1, rfl, I2, turn_enum a _ _ (Nat.succ_ne_self _), ⟨⟨_, he⟩, hi⟩, fun b hb => ?_, q⟩
  rcases List.mem_cons.mp hb with z | hb
  · rw [z]; exact I1.fpOk (Nat.le_succ _) (I1.hok.fresh (Nat.le_succ _))
  · rw [List.mem_singleton.mp hb]; exact I1.fpOk (Nat.le_refl _) I1.fresh
end
theorem for_enum {K : PySem.W.Frag} {a : Addr} {xs : List V} {g : TG} {tb : TS} {D : Ends} {σ : St} {H : Hp} (Pv : Nat → St → Hp → Prop) (h0 : Pv 0 σ H) (hl : ∀ i σ H, i ≤ xs.length → Pv i σ H → SqL K H a xs)
    (hs : ∀ i x σ H T, xs[i]? = some x → Pv i σ H → H T = none → g (.ref T) σ (upd H T (.tup [.int (i : Int), x])) fun σ2 H2 => tb { D with nx := Pv (i + 1), ct := Pv (i + 1), bk := D.nx } σ2 H2) (hd : ∀ σ H, Pv xs.length σ H → D.nx σ H) :
    ∃ W : Nat → Nat → St → Hp → Prop, (∃ m, W 0 m σ H) ∧ ∀ i m σ H, W i m σ H →
      ((ItE K a).stop i H ∧ D.nx σ H) ∨ ((ItE K a).go i H ∧ ∃ N : St → Hp → Prop, (∀ σ' H', N σ' H' → ∃ m', m' < m ∧ W (i + 1) m' σ' H') ∧ ∀ x H', (ItE K a).yld i H x H' → g x σ H' fun σ2 H2 => tb { D with nx := N, ct := N, bk := D.nx } σ2 H2) := by
  refine ⟨fun i m σ H => m = xs.length - i ∧ i ≤ xs.length ∧ Pv i σ H, ⟨xs.length, by simp, Nat.zero_le _, h0⟩, ?_⟩
  rintro i m σ H ⟨rfl, hi, p⟩
  have q := hl i σ H hi p
  by_cases hlt : i < xs.length
  · refine .inr ⟨⟨xs, xs[i], q, by simp [hlt]⟩, Pv (i + 1), fun σ' H' p' => ⟨xs.length - (i + 1), by (first | lia | omega), rfl, hlt, p'⟩, fun x H' y => ?_⟩
    obtain ⟨T, v, ex, hT, eH, hv⟩ := y
    subst ex eH
    exact hs i v σ H T (hv xs q) p hT
  · have e : i = xs.length := by (first | lia | omega)
    subst e
    exact .inl ⟨⟨xs, q, Nat.le_refl _⟩, hd σ H p⟩
end L2
set_option Elab.async false
set_option linter.all false
set_option maxHeartbeats 4000000
set_option maxRecDepth 100000
namespace L2
open PySem PySem.Spec PyProof.Rows
section
variable {prog : Program} {w : World} {A : Around} {E : Value → Shared → Prop} {s : Shared}
end
section
variable {X : Cx}
variable {o e : Expr} {es : List Expr} {to : TE} {t : TA} {name : Str} {apos cpos : Pos} {T id : String} {r : V → List V → Hp → VK → Prop} {ty : V → Hp → Prop}
end
end L2
set_option Elab.async false
set_option linter.all false
set_option maxHeartbeats 4000000
set_option maxRecDepth 100000
namespace L2
open PySem PySem.Spec PyProof.Rows
section
variable {X : Cx} {K : PySem.W.Frag} {P : Program} {w : World}
theorem call_sorted_int : CallR X (.builtin "sorted") (fun xs H Q => ∃ (p : Addr) (ns : List Int), xs = [.ref p] ∧ SqL X.K H p (ns.map V.int) ∧ ns.length < 64 ∧ ∀ (l : Addr) (ns' : List Int), H l = none → ns'.Perm ns → ns'.Pairwise (· ≤ ·) → Q (.ref l) (upd H l (.lst (ns'.map V.int)))) := by
  intro pins s σ H xs us Q I r h
  obtain ⟨p, ns, rfl, hq, hl, q⟩ := h
  obtain ⟨u, rfl, rx⟩ := vals1 r
  cases rx
  obtain ⟨its, rv, pl, hz⟩ := I.list hq
  have hlen := rv.length
  rw [List.length_map] at hlen
  refine sorted_ints pl.isList (intsAre_of rv) (by (first | lia | omega)) fun out ns' a1 a2 a3 => ?_
  obtain ⟨e, he⟩ := sortedAll_at s.heap its out
  have hlen' : ns'.length = ns.length := a2.length_eq
  refine ⟨.ref (s.heap.objs.size + 1), _, I.laid (t' := s.toks) (o := .lst (ns'.map V.int)) (fun b o e => sortedAll_old e) (Nat.le_succ _) ⟨?_, out.toList, e, vals_ints a1, ?_⟩, rfl, q _ ns' (I.hok.fresh (Nat.le_succ _)) a2 a3⟩
  · rw [List.length_map]
    exact Nat.le_of_lt (Nat.lt_of_lt_of_le (by (first | lia | omega) : ns'.length < 64) (by decide))
  · simpa using he
end
end L2
set_option Elab.async false
set_option linter.all false
set_option maxHeartbeats 4000000
set_option maxRecDepth 100000
namespace L2
open PySem PySem.Spec PyProof.Rows
section
variable {X : Cx}
theorem ps_setC0 {i : Nat} {x : Str} {pos' spos : Pos} {elt tg iter : Expr} {ifs : List Expr} {scope : Scope} {pos : Pos} {N' : List Str} {nl : Nat} {ix : List Nat} {wi : TI} {g : TG} {tf : TT} {te : TE} (hN : X.N.Nodup) (hi' : X.N[i]? = some x) (hx : Loc X.env.scope x)
    (hc : X.calm = true) (S : CompScope X scope) (Cp : Capt X scope N' nl ix) (hi : PI X tg iter wi)
    (hg : ∀ C fp s₀ H₀, PG (X.comp scope N' C fp s₀ H₀) tg g) (hf : ∀ C fp s₀ H₀, PIf (X.comp scope N' C fp s₀ H₀) ifs tf) (he : ∀ C fp s₀ H₀, PE (X.comp scope N' C fp s₀ H₀) elt te)
    (hsw : swapsWith (.ListComp elt [⟨tg, iter, ifs, 0⟩] scope pos) (some (.Name x pos')) spos.line X.env = pure true)
    (hs : ∀ x, foldedSetIterable iter X.env x = pure x) (hfn : X.fn x = true ∨ X.env.scope.names.lookup x = some .local) : PS X (.Assign [.Name x pos'] (.ListComp elt [⟨tg, iter, ifs, 0⟩] scope pos) spos) (tAsg (tLComp nl ix wi g tf te) (gName i)) := by
  intro pins s σ H D I h
  rw [exec_Assign_Name_used _ _ _ _ hsw]
  refine wpAny_bind (wpAny_standAt (wpAny_bind ?_))
  show wpAny _ X.A (do let _ ← comprehension (.ListComp elt [⟨tg, iter, ifs, 0⟩] scope pos) scope X.env _ (newList []) false (eval iter X.env) (some (assign (.Name x pos') X.env))) _ _ s
  refine wpAny_bind (wpAny_mono (wpAny_comprehension_free (use := some (assign (.Name x pos') X.env)) (cl := clOf X.env scope.names []) (Q := fun _ s' => ∃ σ' H', Inv X pins σ' H' s' ∧ D.nx σ' H') rfl hs (closure_of (S.cells I.ok)) S.kind S.loc ?_) (fun _ s' hq => wpAny_pure (wpAny_pure hq)) fun _ _ e => e)
  refine thn (hi pins s σ H _ I h) fun v s1 h1 => thn h1 fun itv s2 h2 => ?_
  obtain ⟨it, fp, tn, J, H2, rfl, I2, T, st2, f2, h2⟩ := h2
  obtain ⟨W, ⟨m0, w0⟩, turn⟩ := h2 s2.heap.objs.size I2.fresh
  refine wpAny_newObj_type (wpAny_newFunctionEnv S.nocell (by intro y hy; simp at hy) (fun h₁ hns₁ hsb₁ => ?_) S.kind)
  dsimp only at hns₁ hsb₁ ⊢
  have fpo : ∀ b ∈ fp, b < s2.heap.objs.size := fun b hb => by
    obtain ⟨o, e, _⟩ := T.obj 0 _ st2 b hb
    exact Heap.lt_size e
  have I3 : Inv X pins σ (upd H2 s2.heap.objs.size (.lst [])) { s2 with heap := s2.heap.push { cls := .type "list", data := .seq ([] : List Value).toArray }, toks := s2.toks } := I2.lnew .nil (Nat.zero_le _)
  have hD : (upd H2 s2.heap.objs.size (.lst [])) s2.heap.objs.size = some (.lst []) := upd_same
  have f3 : ∀ b ∈ fp, FpOk X pins (upd H2 s2.heap.objs.size (.lst [])) b := fun b hb => by
    refine ⟨?_, (f2 b hb).2⟩
    rw [upd_ne (Nat.ne_of_lt (fpo b hb))]
    exact (f2 b hb).1
  generalize hS3 : s2.heap.push { cls := .type "list", dict := none, data := .seq ([] : List Value).toArray } = g3 at hns₁ hsb₁ I3 ⊢
  have sz3 : g3.objs.size = s2.heap.objs.size + 1 := by rw [← hS3, Heap.size_push]
  have fpo3 : ∀ b ∈ fp, b < ({ s2 with heap := g3, toks := s2.toks } : Shared).heap.objs.size := fun b hb => by
    show b < g3.objs.size
    rw [sz3]
    exact Nat.lt_succ_of_lt (fpo b hb)
  have old : ∀ b o, g3.get? b = some o → h₁.get? b = some o := fun b o e => hsb₁.extBut b o (Nat.ne_of_lt (Heap.lt_size e)) (Heap.get?_push_of_some _ e)
  have I4 := capt_inv (tk := s2.toks + ([] : List (Str × Value)).length) S Cp I3 f3 fpo3 hns₁ old
  generalize hX : X.comp scope N' g3.objs.size fp { s2 with heap := g3, toks := s2.toks } (upd H2 s2.heap.objs.size (.lst [])) = X' at *
  have hPr : X'.prog = X.prog := by rw [← hX]; rfl
  have hWr : X'.w = X.w := by rw [← hX]; rfl
  have hKr : X'.K = X.K := by rw [← hX]; rfl
  have hAr : X'.A = X.A := by rw [← hX]; rfl
  have hCa : X'.calm = true := by rw [← hX]; exact hc
  have hXe : X'.xe = fun _ _ => False := by rw [← hX]; rfl
  have hEx : X'.ex = fp := by rw [← hX]; rfl
  have hPn : X'.pn = [] := by rw [← hX]; rfl
  have hLo : X'.env.locals = g3.objs.size := by rw [← hX]; rfl
  have hEn : X'.env = compEnvC scope (clOf X.env scope.names []) g3.objs.size X.env := by rw [← hX]; rfl
  have hg' := hg g3.objs.size fp { s2 with heap := g3, toks := s2.toks } (upd H2 s2.heap.objs.size (.lst []))
  have hf' := hf g3.objs.size fp { s2 with heap := g3, toks := s2.toks } (upd H2 s2.heap.objs.size (.lst []))
  have he' := he g3.objs.size fp { s2 with heap := g3, toks := s2.toks } (upd H2 s2.heap.objs.size (.lst []))
  rw [hX] at hg' hf' he'
  have I4' : Inv X' [] (capt nl ix σ) (upd H2 s2.heap.objs.size (.lst [])) { s2 with heap := h₁, toks := s2.toks + ([] : List (Str × Value)).length } := I4
  have back : ∀ {H' : Hp} {σ' : St} {pins' : List (Addr × Obj)} {s' : Shared} {h' : Heap}, Inv X' pins' σ' H' s' → Heap.SameBut g3.objs.size s'.heap h' → Inv X pins σ H' { s' with heap := h' } := fun I' sb => by
    subst hX
    exact comp_back I3 f3 I' sb
  have stat : ∀ {H' : Hp}, (∀ b ∈ fp, H' b = none) → ∀ b ∈ fp, FpOk X' [] H' b := fun hn b hb => by
    refine ⟨hn b hb, ?_, ?_, .inl (by rw [hEx]; exact hb), ?_, fun p hp => by rw [hPn] at hp; cases hp⟩
    · rw [hLo]; exact Nat.ne_of_lt (fpo3 b hb)
    · exact I4'.ok.exfs b (by rw [hEx]; exact hb)
    · exact (I4'.ok.exf b (by rw [hEx]; exact hb)).2
  have loop : codeAny (model X.prog X.w) X.A (.compLoop (.ListComp elt [⟨tg, iter, ifs, 0⟩] scope pos) 0 (.ref it) (.ref s2.heap.objs.size) X'.env)
      (compPost (model X.prog X.w) X.A X.xe (some (assign (.Name x pos') X.env)) (fun _ s' => ∃ σ' H', Inv X pins σ' H' s' ∧ D.nx σ' H') (.ref s2.heap.objs.size) g3.objs.size) { s2 with heap := h₁, toks := s2.toks + ([] : List (Str × Value)).length } := by
    rw [← hPr, ← hWr, ← hAr]
    refine compLoop_L (fun n s' => ∃ i ys H', Inv X' [] (capt nl ix σ) H' s' ∧ tn i s'.heap ∧ (∀ b ∈ fp, H' b = none) ∧ W i n ys H') ?_ m0
      ⟨0, [], _, I4', T.keep _ _ _ st2 (fun b hb o e => old b o (by rw [← hS3]; exact Heap.get?_push_of_some _ e)), fun b hb => (f3 b hb).1, w0⟩
    rintro n s5 ⟨i, ys, H5, I5, st5, fr5, w5⟩
    obtain ⟨hD5, alt⟩ := turn i n ys H5 w5
    rcases alt with ⟨stop, qn⟩ | ⟨go, step⟩
    · rw [hPr, hWr]
      refine thn (T.done X' hPr hWr hKr hCa i [] s5 _ H5 _ I5 (stat fr5) st5 stop) fun r s6 ⟨hr, I6⟩ => ?_
      subst hr
      obtain ⟨m, hn, _⟩ := I6.loc
      rw [hLo] at hn
      have I7 : Inv X pins σ H5 s6 := back I6 (Heap.SameBut.refl _ _)
      have nC : H5 g3.objs.size = none := by
        have := I6.free
        rw [hLo] at this
        exact this
      have fC : FpOk X pins H5 g3.objs.size := I3.fpOk (Nat.le_refl _) nC
      show wpAny _ _ (assign (.Name x pos') X.env (.ref s2.heap.objs.size)) _ _ _
      refine wpAny_assign_Name (store_ok2 I7 hN hi' hx (v := .ref s2.heap.objs.size) rfl (fun s8 I8 ⟨a8, sb8, ha8⟩ => ?_) hfn)
      have nCa : g3.objs.size ≠ a8 := by
        rcases ha8 with z | z
        · rw [z]; exact fC.2.1
        · exact fun q => fC.2.2.2.2.1 x a8 z q.symm
      refine ⟨m, hn.sameBut sb8 nCa, fun h' sb => ⟨_, H5, ?_, qn⟩⟩
      exact I8.turnedL (t' := s8.toks) (fp := [g3.objs.size]) (fun b o hb e => (sb.2 b (fun z => hb (by rw [z]; exact List.mem_singleton.mpr rfl))).trans e) (fun b hb => by rw [List.mem_singleton.mp hb]; exact fC)
    · have it5 := T.item X' hPr hWr hKr hCa i [] s5 _ H5 (fun _ _ => False) I5 (stat fr5) st5 go
      rw [← hPr, ← hWr] at it5
      refine thn it5 fun r s6 ⟨u, hr, h6⟩ => ?_
      subst hr
      refine thn h6 fun _ s7 ⟨x, H7, I7, r7, y7, st7, fr7⟩ => ?_
      have I7' := I7.pinned (stat fr7) (T.obj _ _ st7)
      have g7 := hg' _ s7 _ H7 x u _ I7' r7 (step x H7 y7)
      rw [hXe] at g7
      refine thn g7 fun _ s8 ⟨σ8, H8, I8, ⟨hl8, hd8⟩, q8⟩ => ?_
      have f8 := hf' _ s8 σ8 H8 _ I8 q8
      rw [hXe] at f8
      refine thn f8 fun ok s9 ⟨H9, I9, q9⟩ => ?_
      have again : ∀ {H10 : Hp} {s10 : Shared} {ys' : List V}, Inv X' ([] ++ pinsAt fp s7.heap) σ8 H10 s10 → (∃ m', m' < n ∧ W (i + 1) m' ys' H10) → ∃ m, m < n ∧ ∃ i ys H', Inv X' [] (capt nl ix σ) H' s10 ∧ tn i s10.heap ∧ (∀ b ∈ fp, H' b = none) ∧ W i m ys H' := fun {H10 s10 ys'} I10 ⟨m', hm, w'⟩ => by
        refine ⟨m', hm, i + 1, ys', H10, capt_weak I10.unpinned hl8 hd8, T.keep _ _ _ st7 fun b hb o e => (I10.pin (b, o) (List.mem_append_right _ (List.mem_append_right _ (mem_pinsAt hb e)))).1, fun b hb => ?_, w'⟩
        obtain ⟨o, e, d⟩ := T.obj _ _ st7 b hb
        exact (I10.pin (b, o) (List.mem_append_right _ (List.mem_append_right _ (mem_pinsAt hb e)))).2.1
      cases ok with
      | false =>
        rw [if_neg Bool.false_ne_true] at q9 ⊢
        exact again I9 q9
      | true =>
        rw [if_pos rfl] at q9 ⊢
        have e9 := he' _ s9 σ8 H9 _ I9 q9
        rw [hXe] at e9
        refine thn e9 fun xv s10 ⟨y, H10, I10, r10, hD10, hz, mw⟩ => ?_
        have a10 := mt_append (X := X') _ s10 σ8 H10 (.ref s2.heap.objs.size) [y] _ [xv] (fun _ H' => H' = upd H10 s2.heap.objs.size (.lst (ys ++ [y]))) I10 rfl (.cons r10 .nil) ⟨_, ys, y, rfl, rfl, hD10, hz, rfl⟩
        rw [hXe] at a10
        refine thn a10 fun _ s11 ⟨_, H11, I11, _, e11⟩ => ?_
        subst e11
        exact again I11 mw
  rw [hEn] at loop
  exact codeAny_compStart_list loop (T.self _ 0 _ _ _ (T.keep _ _ _ st2 (fun b hb o e => old b o (by rw [← hS3]; exact Heap.get?_push_of_some _ e))) loop)
theorem ps_setC {i : Nat} {x : Str} {pos' spos : Pos} {elt tg iter : Expr} {ifs : List Expr} {outer scope : Scope} {pos : Pos} {N N' : List Str} {nl : Nat} {ix : List Nat} {wi : TI} {g : TG} {tf : TT} {te : TE} (hN : X.N.Nodup) (hi' : X.N[i]? = some x) (hx : Loc X.env.scope x)
    (h1 : X.env.scope = outer) (h2 : X.N = N) (hc : X.calm = true) (hi : PI X tg iter wi)
    (hg : ∀ C fp s₀ H₀, PG (X.comp scope N' C fp s₀ H₀) tg g) (hf : ∀ C fp s₀ H₀, PIf (X.comp scope N' C fp s₀ H₀) ifs tf) (he : ∀ C fp s₀ H₀, PE (X.comp scope N' C fp s₀ H₀) elt te)
    (hsw : swapsWith (.ListComp elt [⟨tg, iter, ifs, 0⟩] scope pos) (some (.Name x pos')) spos.line X.env = pure true := by rfl)
    (hck : compOk outer scope N N' nl ix = true := by decide +kernel) (hs : ∀ x, foldedSetIterable iter X.env x = pure x := by intro _; rfl) (hfn : X.fn x = true ∨ X.env.scope.names.lookup x = some .local := by first | exact .inl rfl | exact .inr rfl | assumption) :
    PS X (.Assign [.Name x pos'] (.ListComp elt [⟨tg, iter, ifs, 0⟩] scope pos) spos) (tAsg (tLComp nl ix wi g tf te) (gName i)) :=
  let ⟨S, Cp⟩ := comp_of h1 h2 hck
  ps_setC0 hN hi' hx hc S Cp hi hg hf he hsw hs hfn
end
end L2
set_option Elab.async false
set_option linter.all false
set_option maxHeartbeats 4000000
set_option maxRecDepth 100000
namespace L2
open PySem PySem.Spec PyProof.Rows
section
variable {X : Cx} {K : PySem.W.Frag} {P : Program} {w : World}
end
end L2
set_option Elab.async false
set_option linter.all false
set_option maxHeartbeats 4000000
set_option maxRecDepth 100000
namespace L2
open PySem PySem.Spec PyProof.Rows
theorem erase_at (k : Str) : ∀ {ss : List Str}, k ∈ ss → ∃ j, ss[j]? = some k ∧ (∀ m, m < j → ss[m]? ≠ some k) ∧ ss.erase k = ss.eraseIdx j
  | a :: r, h => by
    by_cases e : a = k
    · subst e
      exact ⟨0, rfl, fun m hm => absurd hm (Nat.not_lt_zero _), by simp⟩
    · have hk : k ∈ r := (List.mem_cons.mp h).resolve_left fun z => e z.symm
      obtain ⟨j, h1, h2, h3⟩ := erase_at k hk
      refine ⟨j + 1, by simpa using h1, fun m hm => ?_, ?_⟩
      · cases m with
        | zero => simpa using e
        | succ m => simpa using h2 m (by (first | lia | omega))
      · rw [List.erase_cons_tail (by simpa using e), h3]
        rfl
theorem strsAre_get {k : Str} : ∀ {vs : List Value} {ss : List Str}, StrsAre vs ss → ∀ j (hj : j < vs.length), isStrOf k vs[j] = true ↔ ss[j]? = some k
  | _, _, .nil, j, hj => absurd hj (Nat.not_lt_zero _)
  | _, _, .cons x t r, 0, hj => by simp [isStrOf]
  | _, _, .cons x t r, j + 1, hj => by
    have := strsAre_get (k := k) r j (by simpa using hj)
    simpa using this
theorem map_erase {α β : Type} (f : α → β) : ∀ (l : List α) (j : Nat), (l.eraseIdx j).map f = (l.map f).eraseIdx j
  | [], _ => rfl
  | _ :: _, 0 => rfl
  | a :: l, j + 1 => by
    show f a :: (l.eraseIdx j).map f = f a :: (l.map f).eraseIdx j
    rw [map_erase f l j]
section
variable {X : Cx}
def rRemove : V → List V → Hp → VK → Prop := fun x vs H Q => ∃ (l : Addr) (ss : List Str) (k : Str), x = .ref l ∧ vs = [.str k] ∧ H l = some (.lst (ss.map V.str)) ∧ k ∈ ss ∧ Q .non (upd H l (.lst ((ss.erase k).map V.str)))
theorem mt_remove : MtM X "list.remove" rRemove := by
  intro pins s σ H x vs v us Q I rx rv h
  obtain ⟨l, ss, k, rfl, rfl, hH, hk, q⟩ := h
  cases rx
  obtain ⟨u, rfl, t, rfl⟩ := rv.one
  obtain ⟨z, its, n, r, hl, e⟩ := I.lstM hH
  have hi : StrsAre its ss := strsAre_of r
  obtain ⟨j, h1, h2, h3⟩ := erase_at k hk
  have hjs : j < ss.length := (List.getElem?_eq_some_iff.mp h1).1
  have hlen : its.length = ss.length := by rw [← hl, List.length_map]
  have hj : j < its.length := by (first | lia | omega)
  refine call_meets F.slot_list_remove ⟨_, e, rfl⟩ F.entry_list_remove (F.args_list_remove_2 _ _)
    (MeetsSeq.list_remove l its.toArray n (.str k t) (isStrOf k) (fun y hy => eq_isStrOf k t hi y (by simpa using hy)) j (by simpa using hj) (by simpa using (strsAre_get hi j hj).mpr h1) (fun m hm hlt => ?_) (by rw [List.size_toArray]; (first | lia | omega))) ⟨e, ?_⟩
  · have hm' : m < its.length := by simpa using hm
    have := h2 m hlt
    rw [← Bool.not_eq_true]
    intro c
    exact this ((strsAre_get hi m hm').mp (by simpa using c))
  rw [h3, map_erase] at q
  refine ⟨.non, _, I.lset (its' := its.eraseIdx j) hH e ?_ (r.eraseIdx j) ?_, rfl, q⟩
  · show its.toArray.eraseIdxIfInBounds j = (its.eraseIdx j).toArray
    rw [List.eraseIdxIfInBounds_toArray]
  · have := len_erase (ss.map V.str) j
    (first | lia | omega)
def tNotT (K : PySem.W.Frag) (ta : TE) : TE := fun σ H Q => ta σ H fun x H1 => ∃ k, TruV K x H1 k ∧ Q (.bl (!k)) H1
theorem pe_notV {a : Expr} {ta : TE} {pos : Pos} (ha : PE X a ta) : PE X (.UnaryOp .Not a pos) (tNotT X.K ta) := by
  intro pins s σ H Q I h
  refine UnaryOp_ (thn (ha pins s σ H _ I h) fun v s1 ⟨x, H1, I1, r1, k, tr, q1⟩ => ?_)
  exact not_of (thn (tru_ok pins s1 σ H1 x v (fun b H' => Q (.bl (!b)) H') I1 r1 ⟨k, tr, q1⟩) fun b s2 ⟨H2, I2, q2⟩ => ⟨.bl (!b), H2, I2, rfl, q2⟩)
end
end L2
set_option Elab.async false
set_option linter.all false
set_option maxHeartbeats 4000000
set_option maxRecDepth 100000
namespace L2
open PySem PySem.Spec PyProof.Rows
section
variable {prog : Program} {w : World} {A : Around} {E : Value → Shared → Prop}
theorem draw_lst {it t : Addr} {items : Array Value} (hne : t ≠ it) : ∀ (n i : Nat) (s : Shared) (Q : List Value → Shared → Prop), s.heap.IsListIter it t i → s.heap.IsList t items → i + n ≤ items.size →
    (∀ h', h'.IsListIter it t (i + n) → Heap.SameBut it s.heap h' → Q ((items.toList.drop i).take n) { s with heap := h' }) → wpAny (model prog w) A (draw (.ref it) n) Q E s
  | 0, i, s, Q, hit, _, _, hQ => by
    show wpAny _ _ (pure []) Q E s
    exact wpAny_pure (by simpa using hQ s.heap hit (Heap.SameBut.refl ..))
  | n + 1, i, s, Q, hit, ht, hle, hQ => by
    have hlt : i < items.size := by (first | lia | omega)
    show wpAny _ _ (pyNext (.ref it) >>= _) Q E s
    refine wpAny_bind (wpAny_pyNext_list_item hit ht (x := items[i]) (by simp [hlt]) fun h₁ hit₁ hs₁ => ?_)
    have ht₁ : h₁.IsList t items := let ⟨o, ho, r⟩ := ht; ⟨o, (hs₁.2 t hne).trans ho, r⟩
    refine wpAny_bind (wpAny_holding (draw_lst hne n (i + 1) _ _ hit₁ ht₁ (by (first | lia | omega)) fun h₂ hit₂ hs₂ => wpAny_pure ?_))
    have hd : items.toList.drop i = items[i] :: items.toList.drop (i + 1) := by simp [List.drop_eq_getElem_cons, hlt]
    have := hQ h₂ (by rw [show i + (n + 1) = i + 1 + n by (first | lia | omega)]; exact hit₂) (hs₁.trans hs₂)
    rw [hd, List.take_succ_cons] at this
    exact this
theorem assign_Tuple_lst {env : Env} {elts : List Expr} {x1} {pos : Pos} {t : Addr} {items : Array Value} {Q : Unit → Shared → Prop} {s : Shared} (hh : A.handled = none) (ht : s.heap.IsList t items)
    (hn : (assignEach elts env).length = items.size) (hstar : (assignEach elts env).findIdx? (·.1) = none)
    (h : ∀ h', Heap.ExtBut s.heap.objs.size s.heap h' → wpAny (model prog w) A (assignInOrder ((assignEach elts env).map (·.2)) items.toList) Q E { s with heap := h' }) :
    wpAny (model prog w) A (assign (.Tuple elts x1 pos) env (.ref t)) Q E s := by
  rw [assign_Tuple]
  refine wpAny_bind (wpAny_standAt ?_)
  unfold unpack
  rw [hn, hstar]
  refine wpAny_bind (wpAny_holding ?_)
  have hlt : t ≠ s.heap.objs.size := by obtain ⟨o, ho, _⟩ := ht; exact Nat.ne_of_lt (Heap.lt_size ho)
  unfold unpackItems
  refine wpAny_bind ?_
  unfold notIterableAtAll
  refine wpAny_bind (wpAny_specialOf ht.typeIs slot_list_iter.lookup ?_)
  refine wpAny_pure ?_
  simp only [Bool.false_eq_true, if_false]
  refine wpAny_bind (wpAny_holding (wpAny_pyIter_list ht ?_))
  have htp : (s.heap.push { cls := .type "list_iterator", data := .fields #[.ref t, .int 0 0] }).IsList t items := ht.push _
  refine wpAny_bind (wpAny_holding (draw_lst hlt items.size 0 _ _ ⟨_, Heap.get?_push_size _ rfl, rfl, rfl⟩ htp (by (first | lia | omega)) fun h₁ hit₁ hs₁ => ?_))
  have hall : List.take items.size (List.drop 0 items.toList) = items.toList := by
    rw [List.drop_zero]; exact List.take_of_length_le (by simp)
  rw [hall]
  rw [if_neg (by simp)]
  have ht₁ : h₁.IsList t items := let ⟨o, ho, r⟩ := htp; ⟨o, (hs₁.2 t hlt).trans ho, r⟩
  refine wpAny_bind (wpAny_holding (wpAny_pyNext_list_end hh hit₁ ht₁ (by simp) fun h₂ he₂ => ?_))
  simp only [Option.isSome_none, Bool.false_eq_true, if_false]
  refine wpAny_pure (h h₂ fun b o hb e => he₂ b o hb (hs₁.extBut b o hb (Heap.get?_push_of_some _ e)))
end
section
variable {X : Cx}
def gLst (K : PySem.W.Frag) (n : Nat) (t : TGs) : TG := fun v σ H Q => ∃ a xs, v = .ref a ∧ SqL K H a xs ∧ xs.length = n ∧ t xs σ H Q
theorem pg_lst {es : List Expr} {k : Nat} {t : TGs} {n : Nat} {pos : Pos} (hc : X.calm = true) (h : PGs X es t)
    (hn : (assignEach es X.env).length = n := by rfl) (hst : (assignEach es X.env).findIdx? (·.1) = none := by rfl) : PG X (.Tuple es k pos) (gLst X.K n t) := by
  intro pins s σ H v u Q I r hw
  obtain ⟨a, xs, e1, hq, hl, hw⟩ := hw
  subst e1
  cases r
  obtain ⟨its, rv, ht, hz⟩ := I.list hq
  refine assign_Tuple_lst (I.ok.hd hc) ht.isList (by simp [hn, ← hl, rv.length]) hst fun h' hx => ?_
  have I1 : Inv X pins σ H { s with heap := h' } := I.kept (t' := s.toks) fun b o e => hx b o (Nat.ne_of_lt (Heap.lt_size e)) e
  exact h pins _ σ H xs _ Q I1 (by simpa using rv) hw
end
end L2
set_option linter.all false
namespace L2
theorem tvE {i : Nat} {σ : St} {H : Hp} {Q : VK} {v : V} (h : σ[i]? = some (some v)) (k : Q v H) : tVar i σ H Q := ⟨v, h, k⟩
end L2
set_option Elab.async false
set_option linter.all false
set_option maxHeartbeats 4000000
set_option maxRecDepth 100000
namespace TS
open PySem PyProof.Rows
def gallop' : Bool → Keyed → Array Keyed → Nat → Nat → Nat → StateT SortSt Sem (Option Nat) := sortPriv% PySem.Builtin.gallop
def kk (κ : KeyKind) (p : Keyed) : κ.α := (κ.keyOf p.1).getD κ.dflt
def Va (κ : KeyKind) (p : Keyed) : Prop := ∃ a, κ.keyOf p.1 = some a
theorem KK_of {κ : KeyKind} {xs : Array Keyed} {i : Nat} {p : Keyed} (h : xs[i]? = some p) : KK κ xs i = kk κ p := by
  unfold KK kk
  rw [h]
section
variable {prog : Program} {w : World} {A : Around} {E : Value → Shared → Prop} {s : Shared} {κ : KeyKind}
theorem lt_v (hO : κ.OneLt) {st : SortSt} {x y : Keyed} {Q : Option Bool → SortSt → Prop} (hk : kindOf st = oneType') (hx : Va κ x) (hy : Va κ y) (h : Q (some (κ.blt (kk κ x) (kk κ y))) st) : wpS (model prog w) A E s (lt' x y) Q st := by
  obtain ⟨a, ha⟩ := hx
  obtain ⟨b, hb⟩ := hy
  have ea : kk κ x = a := by unfold kk; rw [ha]; rfl
  have eb : kk κ y = b := by unfold kk; rw [hb]; rfl
  rw [ea, eb] at h
  rw [lt'_eq]
  refine wpS_bind (wpS_get ?_)
  rw [hk, keyLt'_oneType]
  exact wpS_bind (wpS_lift (wpAny_attempt (hO prog w A _ s x.1 y.1 a b ha hb ⟨rfl, wpS_pure h⟩)))
theorem elem_v {arr : Array Keyed} {i : Nat} {p : Keyed} {st : SortSt} {Q : Keyed → SortSt → Prop} (h : arr[i]? = some p) (q : Q p st) : wpS (model prog w) A E s (elem' arr i) Q st := by
  rw [elem'_eq, h]
  exact wpS_pure q
def bey (κ : KeyKind) (left : Bool) (key : Keyed) (arr : Array Keyed) (base i : Nat) : Bool := if left = true then κ.blt (KK κ arr (base + i)) (kk κ key) else !κ.blt (kk κ key) (KK κ arr (base + i))
theorem bey_v (hO : κ.OneLt) {left : Bool} {key : Keyed} {arr : Array Keyed} {base i : Nat} {st : SortSt} {Q : Option Bool → SortSt → Prop} (hk : kindOf st = oneType') (hkey : Va κ key) (hv : ∃ p, arr[base + i]? = some p ∧ Va κ p) (h : Q (some (bey κ left key arr base i)) st) :
    wpS (model prog w) A E s (elem' arr (base + i) >>= fun x => if left = true then lt' x key else lt' key x >>= fun l => pure (l.map fun b => !b)) Q st := by
  obtain ⟨p, hp, vp⟩ := hv
  unfold bey at h
  rw [KK_of hp] at h
  refine wpS_bind (elem_v hp ?_)
  cases left with
  | true =>
    rw [if_pos rfl] at h ⊢
    exact lt_v hO hk vp hkey h
  | false =>
    rw [if_neg Bool.false_ne_true] at h ⊢
    exact wpS_bind (lt_v hO hk hkey vp (wpS_pure h))
theorem wpS_gallop (hO : κ.OneLt) {left : Bool} {key : Keyed} {arr : Array Keyed} {base n hint : Nat} {st : SortSt} {Q : Option Nat → SortSt → Prop} (hk : kindOf st = oneType') (hkey : Va κ key) (hv : ∀ i, i < n → ∃ p, arr[base + i]? = some p ∧ Va κ p) (hn : hint < n)
    (mono : ∀ i j, i ≤ j → j < n → bey κ left key arr base j = true → bey κ left key arr base i = true)
    (h : ∀ k, k ≤ n → (∀ i, i < k → bey κ left key arr base i = true) → (∀ i, k ≤ i → i < n → bey κ left key arr base i = false) → Q (some k) st) :
    wpS (model prog w) A E s (gallop' left key arr base n hint) Q st := by
  have down : ∀ i j, i ≤ j → j < n → bey κ left key arr base i = false → bey κ left key arr base j = false := fun i j hij hj e => by
    cases q : bey κ left key arr base j with
    | false => rfl
    | true => rw [mono i j hij hj q] at e; cases e
  refine wpS_bind (bey_v hO hk hkey (hv hint hn) ?_)
  dsimp -zeta -zetaHave only
  lift_lets
  extract_lets jp
  have hjp : ∀ lastofs ofs lo hi, lo ≤ hi → hi ≤ n → (∀ i, i < lo → bey κ left key arr base i = true) → (∀ i, hi ≤ i → i < n → bey κ left key arr base i = false) → wpS (model prog w) A E s (jp () lastofs ofs lo hi) Q st := by
    intro lastofs ofs lo hi h1 h2 h3 h4
    refine wpS_bind (wpS_mono (wpS_forRange (I := fun x c st' => st' = st ∧ ∃ l r, c = (none, l, r) ∧ l ≤ r ∧ r ≤ n ∧ r - l ≤ n - x ∧ (∀ i, i < l → bey κ left key arr base i = true) ∧ (∀ i, r ≤ i → i < n → bey κ left key arr base i = false))
      (Q := fun c st' => st' = st ∧ ∃ l r, c = (none, l, r) ∧ r ≤ n ∧ (∀ i, i < r → bey κ left key arr base i = true) ∧ (∀ i, r ≤ i → i < n → bey κ left key arr base i = false)) ?_ ?_ ⟨rfl, lo, hi, rfl, h1, h2, by (first | lia | omega), h3, h4⟩) ?_)
    · rintro x c st' _ hx ⟨rfl, l, r, rfl, g1, g2, g3, g4, g5⟩
      dsimp only
      by_cases hge : l ≥ r
      · rw [if_pos hge]
        have e : l = r := by (first | lia | omega)
        subst e
        exact wpS_pure ⟨rfl, l, l, rfl, g2, g4, g5⟩
      · rw [if_neg hge]
        refine wpS_bind (bey_v hO hk hkey (hv _ (by (first | lia | omega))) ?_)
        dsimp only
        cases q : bey κ left key arr base (l + (r - l) / 2) with
        | true =>
          rw [if_pos rfl]
          exact wpS_pure ⟨rfl, _, r, rfl, by (first | lia | omega), g2, by (first | lia | omega), fun i hi => mono i _ (by (first | lia | omega)) (by (first | lia | omega)) q, g5⟩
        | false =>
          rw [if_neg Bool.false_ne_true]
          exact wpS_pure ⟨rfl, l, _, rfl, by (first | lia | omega), by (first | lia | omega), by (first | lia | omega), g4, fun i hi hin => down _ i hi hin q⟩
    · rintro c st' ⟨rfl, l, r, rfl, g1, g2, g3, g4, g5⟩
      have e : l = r := by (first | lia | omega)
      subst e
      exact ⟨rfl, l, l, rfl, g2, g4, g5⟩
    · rintro c st' ⟨rfl, l, r, rfl, g2, g4, g5⟩
      exact wpS_pure (h r g2 g4 g5)
  clear_value jp
  cases q0 : bey κ left key arr base hint with
  | true =>
    rw [if_pos rfl]
    refine wpS_bind (wpS_mono (wpS_forRange (I := fun x c st' => st' = st ∧ ∃ lf of, c = (none, lf, of) ∧ x + 1 ≤ of ∧ lf < of ∧ hint + lf < n ∧ bey κ left key arr base (hint + lf) = true)
      (Q := fun c st' => st' = st ∧ ∃ lf of, c = (none, lf, of) ∧ lf < of ∧ hint + lf < n ∧ bey κ left key arr base (hint + lf) = true ∧ (n - hint ≤ of ∨ bey κ left key arr base (hint + of) = false)) ?_ ?_ ⟨rfl, 0, 1, rfl, by (first | lia | omega), by (first | lia | omega), by (first | lia | omega), q0⟩) ?_)
    · rintro x c st' _ hx ⟨rfl, lf, of, rfl, g1, g2, g3, g4⟩
      dsimp only
      by_cases hge : of ≥ n - hint
      · rw [if_pos hge]
        exact wpS_pure ⟨rfl, lf, of, rfl, g2, g3, g4, .inl hge⟩
      · rw [if_neg hge]
        refine wpS_bind (bey_v hO hk hkey (hv _ (by (first | lia | omega))) ?_)
        dsimp only
        cases q : bey κ left key arr base (hint + of) with
        | true =>
          rw [if_neg (by simp)]
          exact wpS_pure ⟨rfl, of, _, rfl, by (first | lia | omega), by (first | lia | omega), by (first | lia | omega), q⟩
        | false =>
          rw [if_pos (show (!false) = true from rfl)]
          exact wpS_pure ⟨rfl, lf, of, rfl, g2, g3, g4, .inr q⟩
    · rintro c st' ⟨rfl, lf, of, rfl, g1, g2, g3, g4⟩
      exact ⟨rfl, lf, of, rfl, g2, g3, g4, .inl (by (first | lia | omega))⟩
    · rintro c st' ⟨rfl, lf, of, rfl, g2, g3, g4, g5⟩
      dsimp only
      refine hjp _ _ _ _ (by (first | lia | omega)) (by (first | lia | omega)) (fun i hi => mono i (hint + lf) (by (first | lia | omega)) g3 g4) (fun i hi hin => ?_)
      rcases g5 with g5 | g5
      · (first | lia | omega)
      · exact down (hint + of) i (by (first | lia | omega)) hin g5
  | false =>
    rw [if_neg Bool.false_ne_true]
    refine wpS_bind (wpS_mono (wpS_forRange (I := fun x c st' => st' = st ∧ ∃ lf of, c = (none, lf, of) ∧ x + 1 ≤ of ∧ lf < of ∧ lf ≤ hint ∧ bey κ left key arr base (hint - lf) = false)
      (Q := fun c st' => st' = st ∧ ∃ lf of, c = (none, lf, of) ∧ lf < of ∧ lf ≤ hint ∧ bey κ left key arr base (hint - lf) = false ∧ (hint + 1 ≤ of ∨ bey κ left key arr base (hint - of) = true)) ?_ ?_ ⟨rfl, 0, 1, rfl, by (first | lia | omega), by (first | lia | omega), by (first | lia | omega), q0⟩) ?_)
    · rintro x c st' _ hx ⟨rfl, lf, of, rfl, g1, g2, g3, g4⟩
      dsimp only
      by_cases hge : of ≥ hint + 1
      · rw [if_pos hge]
        exact wpS_pure ⟨rfl, lf, of, rfl, g2, g3, g4, .inl hge⟩
      · rw [if_neg hge]
        refine wpS_bind (bey_v hO hk hkey (hv _ (by (first | lia | omega))) ?_)
        dsimp only
        cases q : bey κ left key arr base (hint - of) with
        | true =>
          rw [if_pos rfl]
          exact wpS_pure ⟨rfl, lf, of, rfl, g2, g3, g4, .inr q⟩
        | false =>
          rw [if_neg Bool.false_ne_true]
          exact wpS_pure ⟨rfl, of, _, rfl, by (first | lia | omega), by (first | lia | omega), by (first | lia | omega), q⟩
    · rintro c st' ⟨rfl, lf, of, rfl, g1, g2, g3, g4⟩
      exact ⟨rfl, lf, of, rfl, g2, g3, g4, .inl (by (first | lia | omega))⟩
    · rintro c st' ⟨rfl, lf, of, rfl, g2, g3, g4, g5⟩
      dsimp only
      refine hjp _ _ _ _ (by (first | lia | omega)) (by (first | lia | omega)) (fun i hi => ?_) (fun i hi hin => down (hint - lf) i (by (first | lia | omega)) hin g4)
      rcases g5 with g5 | g5
      · (first | lia | omega)
      · exact mono i (hint - of) (by (first | lia | omega)) (by (first | lia | omega)) g5
end
end TS
set_option Elab.async false
set_option linter.all false
set_option maxHeartbeats 4000000
set_option maxRecDepth 100000
namespace TS
open PySem PyProof.Rows
def mergeLo' : Array Keyed → Array Keyed → StateT SortSt Sem (Array Keyed) := sortPriv% PySem.Builtin.mergeLo
def mergeHi' : Array Keyed → Array Keyed → StateT SortSt Sem (Array Keyed) := sortPriv% PySem.Builtin.mergeHi
def le (κ : KeyKind) (x y : Keyed) : Prop := κ.kle (kk κ x) (kk κ y)
def lt (κ : KeyKind) (x y : Keyed) : Prop := κ.klt (kk κ x) (kk κ y)
def SL (κ : KeyKind) (l : List Keyed) : Prop := l.Pairwise (le κ)
section
variable {κ : KeyKind}
theorem le_trans {x y z : Keyed} (a : le κ x y) (b : le κ y z) : le κ x z := KeyOrd.kle_trans a b
theorem le_of_lt {x y : Keyed} (a : lt κ x y) : le κ x y := KeyOrd.kle_of_klt a
theorem le_refl (x : Keyed) : le κ x x := KeyOrd.kle_refl _
structure Mg (κ : KeyKind) (LL o A B : List Keyed) : Prop where
  perm : (o ++ (A ++ B)).Perm LL
  sa : SL κ (o ++ A)
  sb : SL κ (o ++ B)
def Good (κ : KeyKind) (LL m : List Keyed) : Prop := m.Perm LL ∧ SL κ m
theorem Mg.a {LL o c A B : List Keyed} (h : Mg κ LL o (c ++ A) B) (hc : ∀ x ∈ c, ∀ y ∈ B, le κ x y) : Mg κ LL (o ++ c) A B := by
  refine ⟨?_, ?_, ?_⟩
  · have := h.perm
    rw [List.append_assoc] at this
    rw [List.append_assoc]
    exact this
  · rw [List.append_assoc]; exact h.sa
  · have s1 := h.sa
    have s2 := h.sb
    unfold SL at *
    rw [← List.append_assoc] at s1
    rw [List.pairwise_append] at s1 s2 ⊢
    refine ⟨s1.1, s2.2.1, fun x hx y hy => ?_⟩
    rcases List.mem_append.mp hx with hx | hx
    · exact s2.2.2 x hx y hy
    · exact hc x hx y hy
theorem Mg.b {LL o c A B : List Keyed} (h : Mg κ LL o A (c ++ B)) (hc : ∀ y ∈ c, ∀ x ∈ A, le κ y x) : Mg κ LL (o ++ c) A B := by
  refine ⟨?_, ?_, ?_⟩
  · refine List.Perm.trans ?_ h.perm
    rw [List.append_assoc]
    refine List.Perm.append_left o ?_
    rw [← List.append_assoc, ← List.append_assoc]
    exact List.Perm.append_right B List.perm_append_comm
  · have s1 := h.sa
    have s2 := h.sb
    unfold SL at *
    rw [← List.append_assoc] at s2
    rw [List.pairwise_append] at s1 s2 ⊢
    refine ⟨s2.1, s1.2.1, fun x hx y hy => ?_⟩
    rcases List.mem_append.mp hx with hx | hx
    · exact s1.2.2 x hx y hy
    · exact hc x hx y hy
  · rw [List.append_assoc]; exact h.sb
theorem Mg.endA {LL o A : List Keyed} (h : Mg κ LL o A []) : Good κ LL (o ++ A) := ⟨by have := h.perm; rwa [List.append_nil] at this, h.sa⟩
theorem Mg.endB {LL o B : List Keyed} (h : Mg κ LL o [] B) : Good κ LL (o ++ B) := ⟨h.perm, h.sb⟩
theorem Mg.last {LL o B : List Keyed} {z : Keyed} (h : Mg κ LL o [z] B) (hz : ∀ y ∈ B, le κ y z) : Good κ LL (o ++ B ++ [z]) := by
  refine ⟨?_, ?_⟩
  · refine List.Perm.trans ?_ h.perm
    rw [List.append_assoc]
    exact List.Perm.append_left o List.perm_append_comm
  · have s1 := h.sa
    have s2 := h.sb
    unfold SL at *
    rw [List.pairwise_append] at s1 ⊢
    refine ⟨s2, s1.2.1, fun x hx y hy => ?_⟩
    rcases List.mem_append.mp hx with hx | hx
    · exact s1.2.2 x hx y hy
    · rw [List.mem_singleton.mp hy]; exact hz x hx
theorem SL.at {l : List Keyed} (h : SL κ l) {i j : Nat} {x y : Keyed} (hij : i ≤ j) (hx : l[i]? = some x) (hy : l[j]? = some y) : le κ x y := by
  obtain ⟨hi, ex⟩ := List.getElem?_eq_some_iff.mp hx
  obtain ⟨hj, ey⟩ := List.getElem?_eq_some_iff.mp hy
  rcases Nat.lt_or_eq_of_le hij with q | q
  · rw [← ex, ← ey]
    exact List.pairwise_iff_getElem.mp h i j hi hj q
  · subst q
    rw [← ex, ← ey]
    exact le_refl _
theorem SL.head {l : List Keyed} {x : Keyed} (h : SL κ (x :: l)) : ∀ y ∈ x :: l, le κ x y := fun y hy => by
  rcases List.mem_cons.mp hy with e | e
  · rw [e]; exact le_refl _
  · exact (List.pairwise_cons.mp h).1 y e
theorem SL.drop {l : List Keyed} (h : SL κ l) (n : Nat) : SL κ (l.drop n) := List.Pairwise.sublist (List.drop_sublist _ _) h
theorem SL.take {l : List Keyed} (h : SL κ l) (n : Nat) : SL κ (l.take n) := List.Pairwise.sublist (List.take_sublist _ _) h
end
section
variable {prog : Program} {w : World} {A : Around} {E : Value → Shared → Prop} {s : Shared} {κ : KeyKind}
theorem gallop_seg (hO : κ.OneLt) {left : Bool} {key : Keyed} {arr : Array Keyed} {base n hint : Nat} {st : SortSt} {Q : Option Nat → SortSt → Prop} (hk : kindOf st = oneType') (hkey : Va κ key) (hb : base + n ≤ arr.size) (va : ∀ p ∈ (arr.toList.drop base).take n, Va κ p) (so : SL κ ((arr.toList.drop base).take n)) (hn : hint < n)
    (h : ∀ k, k ≤ n → (∀ x ∈ ((arr.toList.drop base).take n).take k, if left = true then lt κ x key else le κ x key) → (∀ x ∈ ((arr.toList.drop base).take n).drop k, if left = true then le κ key x else lt κ key x) → Q (some k) st) :
    wpS (model prog w) A E s (gallop' left key arr base n hint) Q st := by
  have at_ : ∀ i, i < n → ∃ p, arr[base + i]? = some p ∧ ((arr.toList.drop base).take n)[i]? = some p := fun i hi => by
    refine ⟨arr[base + i], getElem?_pos _ _ (by (first | lia | omega)), ?_⟩
    rw [List.getElem?_take_of_lt hi, List.getElem?_drop]
    simp
  have len : ((arr.toList.drop base).take n).length = n := by
    rw [List.length_take, List.length_drop, Array.length_toList]
    (first | lia | omega)
  generalize (arr.toList.drop base).take n = S at va so h at_ len
  refine wpS_gallop hO hk hkey (fun i hi => ?_) hn (fun i j hij hj e => ?_) fun k hkn h1 h2 => h k hkn (fun x hx => ?_) (fun x hx => ?_)
  · obtain ⟨p, e1, e2⟩ := at_ i hi
    exact ⟨p, e1, va p (List.mem_of_getElem? e2)⟩
  · obtain ⟨p, e1, e2⟩ := at_ i (by (first | lia | omega))
    obtain ⟨q, e3, e4⟩ := at_ j hj
    have hle := so.at hij e2 e4
    unfold bey at e ⊢
    rw [KK_of e1]
    rw [KK_of e3] at e
    cases left with
    | true =>
      rw [if_pos rfl] at e ⊢
      exact KeyOrd.klt_of_kle_of_klt hle e
    | false =>
      rw [if_neg Bool.false_ne_true] at e ⊢
      have e' : κ.blt (kk κ key) (kk κ q) = false := by simpa using e
      have this : κ.blt (kk κ key) (kk κ p) = false := KeyOrd.kle_trans hle e'
      rw [this]
      rfl
  · obtain ⟨i, hi, ex⟩ := List.mem_iff_getElem.mp hx
    rw [List.length_take] at hi
    rw [List.getElem_take] at ex
    obtain ⟨p, e1, e2⟩ := at_ i (by (first | lia | omega))
    have q := h1 i (by (first | lia | omega))
    rw [List.getElem?_eq_getElem (by (first | lia | omega))] at e2
    rw [ex] at e2
    cases e2
    unfold bey at q
    rw [KK_of e1] at q
    cases left with
    | true => exact q
    | false =>
      rw [if_neg Bool.false_ne_true] at q ⊢
      show κ.blt (kk κ key) (kk κ x) = false
      simpa using q
  · obtain ⟨i, hi, ex⟩ := List.mem_iff_getElem.mp hx
    rw [List.length_drop] at hi
    rw [List.getElem_drop] at ex
    obtain ⟨p, e1, e2⟩ := at_ (k + i) (by (first | lia | omega))
    have q := h2 (k + i) (by (first | lia | omega)) (by (first | lia | omega))
    rw [List.getElem?_eq_getElem (by (first | lia | omega))] at e2
    rw [ex] at e2
    cases e2
    unfold bey at q
    rw [KK_of e1] at q
    cases left with
    | true => exact q
    | false =>
      rw [if_neg Bool.false_ne_true] at q ⊢
      show κ.blt (kk κ key) (kk κ x) = true
      simpa using q
end
def Eqv (st st' : SortSt) : Prop := kindOf st' = kindOf st ∧ arrOf st' = arrOf st ∧ pendingOf st' = pendingOf st ∧ failedOf st' = failedOf st
theorem Eqv.refl (st : SortSt) : Eqv st st := ⟨rfl, rfl, rfl, rfl⟩
def setG' : Nat → StateT SortSt Sem Unit := sortPriv% PySem.Builtin.setMinGallop
theorem setG_v {prog : Program} {w : World} {A : Around} {E : Value → Shared → Prop} {s : Shared} {g : Nat} {st0 st : SortSt} {Q : Unit → SortSt → Prop} (e : Eqv st0 st) (h : ∀ st', Eqv st0 st' → Q () st') : wpS (model prog w) A E s (setG' g) Q st :=
  wpS_modify (h _ e)
theorem drop_cons {a : Array Keyed} {i : Nat} {x : Keyed} (h : a[i]? = some x) : a.toList.drop i = [x] ++ a.toList.drop (i + 1) := by
  obtain ⟨hi, e⟩ := Array.getElem?_eq_some_iff.mp h
  rw [List.drop_eq_getElem_cons (by simpa using hi)]
  simp [e]
theorem push_list (o : Array Keyed) (x : Keyed) : (o.push x).toList = o.toList ++ [x] := by simp
theorem ext_list (o a : Array Keyed) (i k : Nat) : (o ++ a.extract i (i + k)).toList = o.toList ++ (a.toList.drop i).take k := by
  simp [Array.toList_extract, List.extract_eq_take_drop]
theorem end_list (o a : Array Keyed) (i : Nat) : (o ++ a.extract i a.size).toList = o.toList ++ a.toList.drop i := by
  simp only [Array.toList_append, Array.toList_extract, List.extract_eq_take_drop]
  rw [List.take_of_length_le (by simp)]
end TS
set_option Elab.async false
set_option linter.all false
set_option maxHeartbeats 4000000
set_option maxRecDepth 100000
namespace TS
open PySem PyProof.Rows
section
variable {κ : KeyKind} {LL : List Keyed} {a b out : Array Keyed} {ia ib : Nat}
theorem fin_b (M : Mg κ LL out.toList (a.toList.drop ia) (b.toList.drop ib)) (c : ib = b.size) : Good κ LL (out ++ a.extract ia a.size ++ b.extract ib b.size).toList := by
  rw [end_list, end_list]
  have e : b.toList.drop ib = [] := List.drop_of_length_le (by rw [Array.length_toList]; (first | lia | omega))
  rw [e] at M ⊢
  rw [List.append_nil]
  exact M.endA
theorem fin_a (M : Mg κ LL out.toList (a.toList.drop ia) (b.toList.drop ib)) (c : ia = a.size) : Good κ LL (out ++ a.extract ia a.size ++ b.extract ib b.size).toList := by
  rw [end_list, end_list]
  have e : a.toList.drop ia = [] := List.drop_of_length_le (by rw [Array.length_toList]; (first | lia | omega))
  rw [e] at M ⊢
  rw [List.append_nil]
  exact M.endB
theorem fin_l (M : Mg κ LL out.toList (a.toList.drop ia) (b.toList.drop ib)) (c : ia + 1 = a.size) (P2 : ∀ y ∈ b.toList, ∀ z ∈ a.toList.drop (a.size - 1), le κ y z) : Good κ LL (out ++ b.extract ib b.size ++ a.extract ia a.size).toList := by
  rw [end_list, end_list]
  have hp : a[ia]? = some a[ia] := getElem?_pos _ _ (by (first | lia | omega))
  have e : a.toList.drop ia = [a[ia]] := by
    rw [drop_cons hp, List.drop_of_length_le (by rw [Array.length_toList]; (first | lia | omega)), List.append_nil]
  rw [e] at M ⊢
  refine M.last fun y hy => P2 y (List.mem_of_mem_drop hy) _ ?_
  rw [show a.size - 1 = ia by (first | lia | omega), e]
  exact List.mem_singleton.mpr rfl
theorem rest_seg (x : Array Keyed) (i : Nat) : (x.toList.drop i).take (x.size - i) = x.toList.drop i := List.take_of_length_le (by rw [List.length_drop, Array.length_toList]; (first | lia | omega))
theorem split_at_ (x : Array Keyed) (i k : Nat) : x.toList.drop i = (x.toList.drop i).take k ++ x.toList.drop (i + k) := by
  have := (List.take_append_drop k (x.toList.drop i)).symm
  rwa [List.drop_drop] at this
theorem some_at {x : Array Keyed} {i : Nat} (h : i < x.size) : ∃ p, x[i]? = some p ∧ p ∈ x.toList := ⟨x[i], getElem?_pos x i h, by simp⟩
end
section
variable {prog : Program} {w : World} {A : Around} {E : Value → Shared → Prop} {s : Shared} {κ : KeyKind}
theorem ifp {M : Model} {σ α : Type} {c : Prop} [Decidable c] {m1 m2 : StateT σ Sem α} {Q : α → σ → Prop} {st : σ} (hc : c) (h : wpS M A E s m1 Q st) : wpS M A E s (if c then m1 else m2) Q st := by
  rw [if_pos hc]
  exact h
theorem ifn {M : Model} {σ α : Type} {c : Prop} [Decidable c] {m1 m2 : StateT σ Sem α} {Q : α → σ → Prop} {st : σ} (hc : ¬ c) (h : wpS M A E s m2 Q st) : wpS M A E s (if c then m1 else m2) Q st := by
  rw [if_neg hc]
  exact h
theorem ifs {M : Model} {σ α : Type} {c : Prop} [Decidable c] {m1 m2 : StateT σ Sem α} {Q : α → σ → Prop} {st : σ} (h1 : c → wpS M A E s m1 Q st) (h2 : ¬ c → wpS M A E s m2 Q st) : wpS M A E s (if c then m1 else m2) Q st := by
  by_cases hc : c
  · exact ifp hc (h1 hc)
  · exact ifn hc (h2 hc)
theorem share {M : Model} {σ α β γ : Type} {jp : Unit → β → γ → StateT σ Sem α} {m : StateT σ Sem α} {Q : α → σ → Prop} {st : σ} (R : β → γ → Prop) (h1 : ∀ x y, R x y → wpS M A E s (jp () x y) Q st) (h2 : (∀ x y, R x y → wpS M A E s (jp () x y) Q st) → wpS M A E s m Q st) : wpS M A E s m Q st := h2 h1
theorem ifj {M : Model} {σ α β : Type} {c : Prop} [Decidable c] {jp : Unit → β → StateT σ Sem α} {x y : β} {Q : α → σ → Prop} {st : σ} (h : ∀ g, wpS M A E s (jp () g) Q st) : wpS M A E s (if c then jp () x else jp () y) Q st := ifs (fun _ => h x) (fun _ => h y)
theorem wpS_mergeLo (hO : κ.OneLt) {a b : Array Keyed} {st : SortSt} {Q : Array Keyed → SortSt → Prop} (hk : kindOf st = oneType') (va : ∀ p ∈ a.toList, Va κ p) (vb : ∀ p ∈ b.toList, Va κ p) (ha : 1 ≤ a.size) (hb : 1 ≤ b.size) (sa : SL κ a.toList) (sb : SL κ b.toList)
    (P1 : ∀ y ∈ b.toList.take 1, ∀ x ∈ a.toList, le κ y x) (P2 : ∀ y ∈ b.toList, ∀ z ∈ a.toList.drop (a.size - 1), le κ y z)
    (h : ∀ m st', Eqv st st' → Good κ (a.toList ++ b.toList) m.toList → Q m st') : wpS (model prog w) A E s (mergeLo' a b) Q st := by
  have hL : ∃ LL, LL = a.toList ++ b.toList := ⟨_, rfl⟩
  obtain ⟨LL, eL⟩ := hL
  rw [← eL] at h
  obtain ⟨b0, hb0, mb0⟩ := some_at (x := b) (i := 0) (by (first | lia | omega))
  have M0 : Mg κ LL [] a.toList b.toList := ⟨by rw [eL]; exact List.Perm.refl _, sa, sb⟩
  have M1 : Mg κ LL (#[b0] : Array Keyed).toList (a.toList.drop 0) (b.toList.drop 1) := by
    have e : b.toList = [b0] ++ b.toList.drop 1 := by
      have := drop_cons hb0
      rwa [List.drop_zero] at this
    have M0' := M0
    rw [e] at M0'
    rw [List.drop_zero]
    refine Mg.b M0' fun y hy x hx => P1 y ?_ x hx
    rw [e]
    rw [List.mem_singleton.mp hy]
    simp
  refine wpS_bind (wpS_lift (wpAny_rule ⟨rfl, ?_⟩))
  refine wpS_bind (elem_v hb0 ?_)
  by_cases c1 : 1 = b.size
  · rw [if_pos (by simpa using c1)]
    exact wpS_pure (h _ _ (Eqv.refl _) (fin_b M1 c1))
  rw [if_neg (by simpa using c1)]
  by_cases c2 : 0 + 1 = a.size
  · rw [if_pos (by simpa using c2)]
    exact wpS_pure (h _ _ (Eqv.refl _) (fin_l M1 c2 P2))
  rw [if_neg (by simpa using c2)]
  refine wpS_bind (wpS_get ?_)
  refine wpS_bind (wpS_mono (wpS_forRange (I := fun x c st' => Eqv st st' ∧ ∃ out ia ib mg, c = (none, out, ia, ib, mg) ∧ Mg κ LL out.toList (a.toList.drop ia) (b.toList.drop ib) ∧ ia + 1 < a.size ∧ ib < b.size ∧ x + 1 ≤ ia + ib)
    (Q := fun c st' => Eqv st st' ∧ ∃ m r, c = (some m, r) ∧ Good κ LL m.toList) ?_ ?_ ⟨Eqv.refl _, _, _, _, _, rfl, M1, by (first | lia | omega), by (first | lia | omega), by (first | lia | omega)⟩) ?_)
  rotate_left
  · rintro c st' ⟨ev, out, ia, ib, mg, rfl, M, hia, hib, hpr⟩
    (first | lia | omega)
  · rintro c st' ⟨ev, m, r, rfl, g⟩
    exact wpS_pure (h _ _ ev g)
  rintro x c st1 _ hx ⟨ev1, out, ia, ib, mg, rfl, M, hia, hib, hpr⟩
  refine wpS_bind (wpS_mono (wpS_forRange (I := fun y c st2 => Eqv st st2 ∧ ∃ out' ia' ib' ac bc, c = (none, out', ia', ib', ac, bc) ∧ Mg κ LL out'.toList (a.toList.drop ia') (b.toList.drop ib') ∧ ia' + 1 < a.size ∧ ib' < b.size ∧ ia + ib + y ≤ ia' + ib')
    (Q := fun c st2 => Eqv st st2 ∧ ((∃ m r, c = (some m, r) ∧ Good κ LL m.toList) ∨ ∃ out' ia' ib' ac bc, c = (none, out', ia', ib', ac, bc) ∧ Mg κ LL out'.toList (a.toList.drop ia') (b.toList.drop ib') ∧ ia' + 1 < a.size ∧ ib' < b.size ∧ ia + ib + 1 ≤ ia' + ib')) ?_ ?_ ⟨ev1, out, ia, ib, _, _, rfl, M, hia, hib, Nat.le_refl _⟩) ?_)
  · rintro y c st2 _ hy ⟨ev2, out', ia', ib', ac, bc, rfl, M', hia', hib', hpr'⟩
    obtain ⟨q, hq, mq⟩ := some_at hib'
    obtain ⟨p, hp, mp⟩ := some_at (x := a) (i := ia') (by (first | lia | omega))
    have sB := sb.drop ib'
    have sA := sa.drop ia'
    rw [drop_cons hq] at sB
    rw [drop_cons hp] at sA
    refine wpS_bind (elem_v hq (wpS_bind (elem_v hp (wpS_bind (lt_v hO (ev2.1.trans hk) (vb q mq) (va p mp) ?_)))))
    cases hw : κ.blt (kk κ q) (kk κ p) with
    | true =>
      refine ifp rfl ?_
      refine wpS_bind (elem_v hq ?_)
      have M2 : Mg κ LL (out'.push q).toList (a.toList.drop ia') (b.toList.drop (ib' + 1)) := by
        rw [push_list]
        refine Mg.b (by rw [← drop_cons hq]; exact M') fun y hy x hx => ?_
        rw [List.mem_singleton.mp hy]
        rw [drop_cons hp] at hx
        exact le_trans (le_of_lt hw) (sA.head x hx)
      by_cases c : ib' + 1 = b.size
      · refine ifp (beq_iff_eq.mpr c) ?_
        exact wpS_pure ⟨ev2, .inl ⟨_, _, rfl, fin_b M2 c⟩⟩
      refine ifn (fun z => c (beq_iff_eq.mp z)) ?_
      refine ifs (fun _ => ?_) (fun _ => ?_)
      · exact wpS_pure ⟨ev2, .inr ⟨_, ia', ib' + 1, _, _, rfl, M2, hia', by (first | lia | omega), by (first | lia | omega)⟩⟩
      · exact wpS_pure ⟨ev2, _, ia', ib' + 1, _, _, rfl, M2, hia', by (first | lia | omega), by (first | lia | omega)⟩
    | false =>
      refine ifn Bool.false_ne_true ?_
      refine wpS_bind (elem_v hp ?_)
      have M2 : Mg κ LL (out'.push p).toList (a.toList.drop (ia' + 1)) (b.toList.drop ib') := by
        rw [push_list]
        refine Mg.a (by rw [← drop_cons hp]; exact M') fun y hy x hx => ?_
        rw [List.mem_singleton.mp hy]
        rw [drop_cons hq] at hx
        exact le_trans (show le κ p q from hw) (sB.head x hx)
      by_cases c : ia' + 1 + 1 = a.size
      · refine ifp (beq_iff_eq.mpr c) ?_
        exact wpS_pure ⟨ev2, .inl ⟨_, _, rfl, fin_l M2 c P2⟩⟩
      refine ifn (fun z => c (beq_iff_eq.mp z)) ?_
      refine ifs (fun _ => ?_) (fun _ => ?_)
      · exact wpS_pure ⟨ev2, .inr ⟨_, ia' + 1, ib', _, _, rfl, M2, by (first | lia | omega), by (first | lia | omega), by (first | lia | omega)⟩⟩
      · exact wpS_pure ⟨ev2, _, ia' + 1, ib', _, _, rfl, M2, by (first | lia | omega), by (first | lia | omega), by (first | lia | omega)⟩
  · rintro c st2 ⟨ev2, out', ia', ib', ac, bc, rfl, M', hia', hib', hpr'⟩
    exact ⟨ev2, .inr ⟨_, _, _, _, _, rfl, M', hia', hib', by (first | lia | omega)⟩⟩
  rintro c st2 ⟨ev2, hc⟩
  rcases hc with ⟨m, r, rfl, g⟩ | ⟨out1, ia1, ib1, ac1, bc1, rfl, N1, hia1, hib1, hpr1⟩
  · exact wpS_pure ⟨ev2, m, _, rfl, g⟩
  refine wpS_bind (wpS_lift (wpAny_rule ⟨rfl, ?_⟩))
  refine wpS_bind (wpS_mono (wpS_forRange (I := fun y c st3 => Eqv st st3 ∧ ∃ out' ia' ib' mg' ac bc, c = (none, out', ia', ib', mg', ac, bc) ∧ Mg κ LL out'.toList (a.toList.drop ia') (b.toList.drop ib') ∧ ia' + 1 < a.size ∧ ib' < b.size ∧ ia1 + ib1 ≤ ia' + ib')
    (Q := fun c st3 => Eqv st st3 ∧ ((∃ m r, c = (some m, r) ∧ Good κ LL m.toList) ∨ ∃ out' ia' ib' mg' ac bc, c = (none, out', ia', ib', mg', ac, bc) ∧ Mg κ LL out'.toList (a.toList.drop ia') (b.toList.drop ib') ∧ ia' + 1 < a.size ∧ ib' < b.size ∧ ia1 + ib1 ≤ ia' + ib')) ?_ ?_ ⟨ev2, out1, ia1, ib1, _, ac1, bc1, rfl, N1, hia1, hib1, Nat.le_refl _⟩) ?_)
  rotate_left
  · rintro c st3 ⟨ev3, out', ia', ib', mg', ac, bc, rfl, M', hia', hib', hpr'⟩
    exact ⟨ev3, .inr ⟨_, _, _, _, _, _, rfl, M', hia', hib', by (first | lia | omega)⟩⟩
  · rintro c st3 ⟨ev3, hc⟩
    rcases hc with ⟨m, r, rfl, g⟩ | ⟨out2, ia2, ib2, mg2, ac2, bc2, rfl, N2, hia2, hib2, hpr2⟩
    · exact wpS_pure ⟨ev3, m, _, rfl, g⟩
    refine wpS_bind (setG_v ev3 fun st4 ev4 => ?_)
    exact wpS_pure ⟨ev4, _, ia2, ib2, _, rfl, N2, hia2, hib2, by (first | lia | omega)⟩
  rintro y c st3 _ hy ⟨ev3, out2, ia2, ib2, mg2, ac2, bc2, rfl, M', hia', hib', hpr'⟩
  obtain ⟨q, hq, mq⟩ := some_at hib'
  have sB := sb.drop ib2
  rw [drop_cons hq] at sB
  dsimp -zeta -zetaHave only
  lift_lets
  extract_lets s1 v1 s2 v2 s3 v3 s4 v4 s5 v5 v6 v7 jp
  refine ifj (jp := jp) (fun g => ?_)
  · refine wpS_bind (setG_v ev3 fun st4 ev4 => ?_)
    refine wpS_bind (elem_v hq (wpS_bind (gallop_seg (left := false) (key := q) (arr := a) (base := ia2) (n := a.size - ia2) (hint := 0) hO (ev4.1.trans hk) (vb q mq) (by (first | lia | omega)) (by rw [rest_seg]; exact fun p hp => va p (List.mem_of_mem_drop hp)) (by rw [rest_seg]; exact sa.drop _) (by (first | lia | omega)) fun k hkn g1 g2 => ?_)))
    rw [rest_seg] at g1 g2
    rw [List.drop_drop] at g2
    simp only [Bool.false_eq_true, if_false] at g1 g2
    dsimp -zeta -zetaHave only
    lift_lets
    extract_lets w1 jp2
    refine share (jp := jp2) (fun (out3 : Array Keyed) (ia3 : Nat) => Mg κ LL out3.toList (a.toList.drop ia3) (b.toList.drop ib2) ∧ ia3 + 1 < a.size ∧ ia2 ≤ ia3 ∧ ∀ x ∈ a.toList.drop ia3, le κ q x) (fun out3 ia3 hR => ?_) (fun hj => ?_)
    · obtain ⟨M3, hA1, hA2, hA⟩ := hR
      refine wpS_bind (elem_v hq ?_)
      have M4 : Mg κ LL (out3.push q).toList (a.toList.drop ia3) (b.toList.drop (ib2 + 1)) := by
        rw [push_list]
        refine Mg.b (by rw [← drop_cons hq]; exact M3) fun y hy x hx => ?_
        rw [List.mem_singleton.mp hy]
        exact hA x hx
      by_cases c4 : ib2 + 1 = b.size
      · refine ifp (beq_iff_eq.mpr c4) ?_
        exact wpS_pure ⟨ev4, .inl ⟨_, _, rfl, fin_b M4 c4⟩⟩
      refine ifn (fun z => c4 (beq_iff_eq.mp z)) ?_
      obtain ⟨p, hp, mp⟩ := some_at (x := a) (i := ia3) (by (first | lia | omega))
      refine wpS_bind (elem_v hp (wpS_bind (gallop_seg (left := true) (key := p) (arr := b) (base := ib2 + 1) (n := b.size - (ib2 + 1)) (hint := 0) hO (ev4.1.trans hk) (va p mp) (by (first | lia | omega)) (by rw [rest_seg]; exact fun p hp => vb p (List.mem_of_mem_drop hp)) (by rw [rest_seg]; exact sb.drop _) (by (first | lia | omega)) fun k2 hkn2 g3 g4 => ?_)))
      rw [rest_seg] at g3 g4
      rw [List.drop_drop] at g4
      simp only [if_true] at g3 g4
      dsimp -zeta -zetaHave only
      lift_lets
      extract_lets w3 jp3
      refine share (jp := jp3) (fun (out5 : Array Keyed) (ib3 : Nat) => Mg κ LL out5.toList (a.toList.drop ia3) (b.toList.drop ib3) ∧ ib3 < b.size ∧ ib2 + 1 ≤ ib3 ∧ ∀ y ∈ b.toList.drop ib3, le κ p y) (fun out5 ib3 hR => ?_) (fun hj3 => ?_)
      · obtain ⟨M5, hB1, hB2, hB⟩ := hR
        refine wpS_bind (elem_v hp ?_)
        have M6 : Mg κ LL (out5.push p).toList (a.toList.drop (ia3 + 1)) (b.toList.drop ib3) := by
          rw [push_list]
          refine Mg.a (by rw [← drop_cons hp]; exact M5) fun y hy x hx => ?_
          rw [List.mem_singleton.mp hy]
          exact hB x hx
        by_cases c7 : ia3 + 1 + 1 = a.size
        · refine ifp (beq_iff_eq.mpr c7) ?_
          exact wpS_pure ⟨ev4, .inl ⟨_, _, rfl, fin_l M6 c7 P2⟩⟩
        refine ifn (fun z => c7 (beq_iff_eq.mp z)) ?_
        refine ifs (fun _ => ?_) (fun _ => ?_)
        · exact wpS_pure ⟨ev4, .inr ⟨_, ia3 + 1, ib3, _, _, _, rfl, M6, by (first | lia | omega), by (first | lia | omega), by (first | lia | omega)⟩⟩
        · exact wpS_pure ⟨ev4, _, ia3 + 1, ib3, _, _, _, rfl, M6, by (first | lia | omega), by (first | lia | omega), by (first | lia | omega)⟩
      by_cases hk2 : k2 = 0
      · subst hk2
        rw [Nat.add_zero] at g4
        exact ifn (show ¬ (0 > 0) by (first | lia | omega)) (hj3 _ (ib2 + 1) ⟨M4, by (first | lia | omega), Nat.le_refl _, g4⟩)
      · refine ifp (show k2 > 0 by (first | lia | omega)) ?_
        have M5 : Mg κ LL ((out3.push q) ++ b.extract (ib2 + 1) (ib2 + 1 + k2)).toList (a.toList.drop ia3) (b.toList.drop (ib2 + 1 + k2)) := by
          rw [ext_list]
          refine Mg.b (by rw [← split_at_]; exact M4) fun y hy x hx => ?_
          have sA := sa.drop ia3
          rw [drop_cons hp] at sA
          rw [drop_cons hp] at hx
          exact le_trans (le_of_lt (g3 y hy)) (sA.head x hx)
        by_cases c5 : ib2 + 1 + k2 = b.size
        · refine ifp (beq_iff_eq.mpr c5) ?_
          exact wpS_pure ⟨ev4, .inl ⟨_, _, rfl, fin_b M5 c5⟩⟩
        exact ifn (fun z => c5 (beq_iff_eq.mp z)) (hj3 _ (ib2 + 1 + k2) ⟨M5, by (first | lia | omega), by (first | lia | omega), g4⟩)
    by_cases hk0 : k = 0
    · subst hk0
      rw [Nat.add_zero] at g2
      exact ifn (show ¬ (0 > 0) by (first | lia | omega)) (hj _ ia2 ⟨M', hia', Nat.le_refl _, fun x hx => le_of_lt (g2 x hx)⟩)
    · refine ifp (show k > 0 by (first | lia | omega)) ?_
      have M3 : Mg κ LL (out2 ++ a.extract ia2 (ia2 + k)).toList (a.toList.drop (ia2 + k)) (b.toList.drop ib2) := by
        rw [ext_list]
        refine Mg.a (by rw [← split_at_]; exact M') fun y hy x hx => ?_
        rw [drop_cons hq] at hx
        exact le_trans (g1 y hy) (sB.head x hx)
      by_cases c2' : ia2 + k + 1 = a.size
      · refine ifp (beq_iff_eq.mpr c2') ?_
        exact wpS_pure ⟨ev4, .inl ⟨_, _, rfl, fin_l M3 c2' P2⟩⟩
      refine ifn (fun z => c2' (beq_iff_eq.mp z)) ?_
      by_cases c3 : ia2 + k = a.size
      · refine ifp (beq_iff_eq.mpr c3) ?_
        exact wpS_pure ⟨ev4, .inl ⟨_, _, rfl, fin_a M3 c3⟩⟩
      exact ifn (fun z => c3 (beq_iff_eq.mp z)) (hj _ (ia2 + k) ⟨M3, by (first | lia | omega), by (first | lia | omega), fun x hx => le_of_lt (g2 x hx)⟩)
end
end TS
set_option Elab.async false
set_option linter.all false
set_option maxHeartbeats 4000000
set_option maxRecDepth 100000
namespace TS
open PySem PyProof.Rows
section
variable {κ : KeyKind}
structure MgH (κ : KeyKind) (LL o A B : List Keyed) : Prop where
  perm : (A ++ (B ++ o)).Perm LL
  sa : SL κ (A ++ o)
  sb : SL κ (B ++ o)
theorem MgH.a {LL o c A B : List Keyed} (h : MgH κ LL o (A ++ c) B) (hc : ∀ x ∈ c, ∀ y ∈ B, le κ y x) : MgH κ LL (c ++ o) A B := by
  refine ⟨?_, ?_, ?_⟩
  · refine List.Perm.trans ?_ h.perm
    rw [List.append_assoc]
    refine List.Perm.append_left A ?_
    rw [← List.append_assoc, ← List.append_assoc]
    exact List.Perm.append_right o List.perm_append_comm
  · rw [← List.append_assoc]; exact h.sa
  · have s1 := h.sa
    have s2 := h.sb
    unfold SL at *
    rw [List.append_assoc, List.pairwise_append] at s1
    rw [List.pairwise_append] at s2 ⊢
    refine ⟨s2.1, s1.2.1, fun x hx y hy => ?_⟩
    rcases List.mem_append.mp hy with hy | hy
    · exact hc y hy x hx
    · exact s2.2.2 x hx y hy
theorem MgH.b {LL o c A B : List Keyed} (h : MgH κ LL o A (B ++ c)) (hc : ∀ y ∈ c, ∀ x ∈ A, le κ x y) : MgH κ LL (c ++ o) A B := by
  refine ⟨?_, ?_, ?_⟩
  · have := h.perm
    rw [List.append_assoc] at this
    exact this
  · have s1 := h.sa
    have s2 := h.sb
    unfold SL at *
    rw [List.append_assoc, List.pairwise_append] at s2
    rw [List.pairwise_append] at s1 ⊢
    refine ⟨s1.1, s2.2.1, fun x hx y hy => ?_⟩
    rcases List.mem_append.mp hy with hy | hy
    · exact hc y hy x hx
    · exact s1.2.2 x hx y hy
  · rw [← List.append_assoc]; exact h.sb
theorem MgH.endA {LL o A : List Keyed} (h : MgH κ LL o A []) : Good κ LL (A ++ o) := ⟨h.perm, h.sa⟩
theorem MgH.endB {LL o B : List Keyed} (h : MgH κ LL o [] B) : Good κ LL (B ++ o) := ⟨h.perm, h.sb⟩
theorem MgH.first {LL o A : List Keyed} {z : Keyed} (h : MgH κ LL o A [z]) (hz : ∀ x ∈ A, le κ z x) : Good κ LL ([z] ++ A ++ o) := by
  refine ⟨?_, ?_⟩
  · refine List.Perm.trans ?_ h.perm
    rw [← List.append_assoc]
    exact List.Perm.append_right o List.perm_append_comm
  · have s1 := h.sa
    have s2 := h.sb
    unfold SL at *
    rw [List.append_assoc, List.singleton_append, List.pairwise_cons]
    rw [List.singleton_append, List.pairwise_cons] at s2
    refine ⟨fun y hy => ?_, s1⟩
    rcases List.mem_append.mp hy with hy | hy
    · exact hz y hy
    · exact s2.1 y hy
theorem take_snoc {a : Array Keyed} {n : Nat} {x : Keyed} (h : a[n]? = some x) : a.toList.take (n + 1) = a.toList.take n ++ [x] := by
  rw [List.take_add_one]
  have : a.toList[n]? = some x := by simpa using h
  rw [this]
  rfl
theorem push_rev (o : Array Keyed) (x : Keyed) : (o.push x).toList.reverse = [x] ++ o.toList.reverse := by simp
theorem ext_rev (o a : Array Keyed) (i n : Nat) : (o ++ (a.extract i n).reverse).toList.reverse = (a.toList.take n).drop i ++ o.toList.reverse := by
  simp [Array.toList_extract, List.extract_eq_take_drop, List.drop_take]
theorem split_to (a : Array Keyed) {i n : Nat} (h : i ≤ n) : a.toList.take n = a.toList.take i ++ (a.toList.take n).drop i := by
  have := (List.take_append_drop i (a.toList.take n)).symm
  rwa [List.take_take, Nat.min_eq_left h] at this
theorem all_list (o a b : Array Keyed) (na nb : Nat) : (a.extract 0 na ++ b.extract 0 nb ++ o.reverse).toList = a.toList.take na ++ b.toList.take nb ++ o.toList.reverse := by
  simp [Array.toList_extract, List.extract_eq_take_drop]
theorem SL.lastOf {l : List Keyed} {x : Keyed} (h : SL κ (l ++ [x])) : ∀ y ∈ l ++ [x], le κ y x := fun y hy => by
  rcases List.mem_append.mp hy with e | e
  · exact (List.pairwise_append.mp h).2.2 y e x (List.mem_singleton.mpr rfl)
  · rw [List.mem_singleton.mp e]; exact le_refl _
end
section
variable {κ : KeyKind} {LL : List Keyed} {a b out : Array Keyed} {na nb : Nat}
theorem fh_a (M : MgH κ LL out.toList.reverse (a.toList.take na) (b.toList.take nb)) (c : na = 0) : Good κ LL (a.extract 0 na ++ b.extract 0 nb ++ out.reverse).toList := by
  subst c
  rw [all_list, List.take_zero, List.nil_append]
  rw [List.take_zero] at M
  exact M.endB
theorem fh_b (M : MgH κ LL out.toList.reverse (a.toList.take na) (b.toList.take nb)) (c : nb = 0) : Good κ LL (a.extract 0 na ++ b.extract 0 nb ++ out.reverse).toList := by
  subst c
  rw [all_list, List.take_zero, List.append_nil]
  rw [List.take_zero] at M
  exact M.endA
theorem fh_f (M : MgH κ LL out.toList.reverse (a.toList.take na) (b.toList.take nb)) (c : nb = 1) (hb : 1 ≤ b.size) (P1 : ∀ y ∈ b.toList.take 1, ∀ x ∈ a.toList, le κ y x) : Good κ LL (b.extract 0 nb ++ a.extract 0 na ++ out.reverse).toList := by
  subst c
  rw [all_list]
  have hp : b[0]? = some b[0] := getElem?_pos _ _ (by (first | lia | omega))
  have e : b.toList.take 1 = [b[0]] := by rw [take_snoc hp, List.take_zero, List.nil_append]
  rw [e] at M P1 ⊢
  exact M.first fun x hx => P1 _ (List.mem_singleton.mpr rfl) x (List.mem_of_mem_take hx)
end
section
variable {prog : Program} {w : World} {A : Around} {E : Value → Shared → Prop} {s : Shared} {κ : KeyKind}
theorem wpS_mergeHi (hO : κ.OneLt) {a b : Array Keyed} {st : SortSt} {Q : Array Keyed → SortSt → Prop} (hk : kindOf st = oneType') (va : ∀ p ∈ a.toList, Va κ p) (vb : ∀ p ∈ b.toList, Va κ p) (ha : 1 ≤ a.size) (hb : 1 ≤ b.size) (sa : SL κ a.toList) (sb : SL κ b.toList)
    (P1 : ∀ y ∈ b.toList.take 1, ∀ x ∈ a.toList, le κ y x) (P2 : ∀ y ∈ b.toList, ∀ z ∈ a.toList.drop (a.size - 1), le κ y z)
    (h : ∀ m st', Eqv st st' → Good κ (a.toList ++ b.toList) m.toList → Q m st') : wpS (model prog w) A E s (mergeHi' a b) Q st := by
  have hL : ∃ LL, LL = a.toList ++ b.toList := ⟨_, rfl⟩
  obtain ⟨LL, eL⟩ := hL
  rw [← eL] at h
  obtain ⟨a0, ha0, ma0⟩ := some_at (x := a) (i := a.size - 1) (by (first | lia | omega))
  have M1 : MgH κ LL (#[a0] : Array Keyed).toList.reverse (a.toList.take (a.size - 1)) (b.toList.take b.size) := by
    have e : a.toList = a.toList.take (a.size - 1) ++ [a0] := by
      have := take_snoc ha0
      rwa [show a.size - 1 + 1 = a.size by (first | lia | omega), List.take_of_length_le (by rw [Array.length_toList]; exact Nat.le_refl _)] at this
    have M0 : MgH κ LL [] (a.toList.take (a.size - 1) ++ [a0]) b.toList := by
      refine ⟨?_, ?_, ?_⟩
      · rw [← e, List.append_nil, eL]
      · rw [← e, List.append_nil]; exact sa
      · rw [List.append_nil]; exact sb
    rw [List.take_of_length_le (l := b.toList) (by rw [Array.length_toList]; exact Nat.le_refl _)]
    refine MgH.a M0 fun x hx y hy => P2 y hy x ?_
    rw [drop_cons ha0, List.mem_singleton.mp hx]
    simp
  refine wpS_bind (wpS_lift (wpAny_rule ⟨rfl, ?_⟩))
  refine wpS_bind (elem_v ha0 ?_)
  by_cases c1 : a.size - 1 = 0
  · refine ifp (beq_iff_eq.mpr c1) ?_
    exact wpS_pure (h _ _ (Eqv.refl _) (fh_a M1 c1))
  refine ifn (fun z => c1 (beq_iff_eq.mp z)) ?_
  by_cases c2 : b.size = 1
  · refine ifp (beq_iff_eq.mpr c2) ?_
    exact wpS_pure (h _ _ (Eqv.refl _) (fh_f M1 c2 hb P1))
  refine ifn (fun z => c2 (beq_iff_eq.mp z)) ?_
  refine wpS_bind (wpS_get ?_)
  refine wpS_bind (wpS_mono (wpS_forRange (I := fun x c st' => Eqv st st' ∧ ∃ na nb out mg, c = (none, na, nb, out, mg) ∧ MgH κ LL out.toList.reverse (a.toList.take na) (b.toList.take nb) ∧ 1 ≤ na ∧ na ≤ a.size ∧ 2 ≤ nb ∧ nb ≤ b.size ∧ na + nb + x + 1 ≤ a.size + b.size)
    (Q := fun c st' => Eqv st st' ∧ ∃ m r, c = (some m, r) ∧ Good κ LL m.toList) ?_ ?_ ⟨Eqv.refl _, a.size - 1, b.size, _, _, rfl, M1, by (first | lia | omega), by (first | lia | omega), by (first | lia | omega), by (first | lia | omega), by (first | lia | omega)⟩) ?_)
  rotate_left
  · rintro c st' ⟨ev, na, nb, out, mg, rfl, M, _, _, _, _, hpr⟩
    (first | lia | omega)
  · rintro c st' ⟨ev, m, r, rfl, g⟩
    exact wpS_pure (h _ _ ev g)
  rintro x c st1 _ hx ⟨ev1, na, nb, out, mg, rfl, M, hna, hna2, hnb, hnb2, hpr⟩
  refine wpS_bind (wpS_mono (wpS_forRange (I := fun y c st2 => Eqv st st2 ∧ ∃ na' nb' out' ac bc, c = (none, na', nb', out', ac, bc) ∧ MgH κ LL out'.toList.reverse (a.toList.take na') (b.toList.take nb') ∧ 1 ≤ na' ∧ na' ≤ a.size ∧ 2 ≤ nb' ∧ nb' ≤ b.size ∧ na' + nb' + y ≤ na + nb)
    (Q := fun c st2 => Eqv st st2 ∧ ((∃ m r, c = (some m, r) ∧ Good κ LL m.toList) ∨ ∃ na' nb' out' ac bc, c = (none, na', nb', out', ac, bc) ∧ MgH κ LL out'.toList.reverse (a.toList.take na') (b.toList.take nb') ∧ 1 ≤ na' ∧ na' ≤ a.size ∧ 2 ≤ nb' ∧ nb' ≤ b.size ∧ na' + nb' + 1 ≤ na + nb)) ?_ ?_ ⟨ev1, na, nb, out, _, _, rfl, M, hna, hna2, hnb, hnb2, Nat.le_refl _⟩) ?_)
  · rintro y c st2 _ hy ⟨ev2, na', nb', out', ac, bc, rfl, M', hna', hna2', hnb', hnb2', hpr'⟩
    obtain ⟨q, hq, mq⟩ := some_at (x := b) (i := nb' - 1) (by (first | lia | omega))
    obtain ⟨p, hp, mp⟩ := some_at (x := a) (i := na' - 1) (by (first | lia | omega))
    have tq := take_snoc hq
    have tp := take_snoc hp
    rw [show nb' - 1 + 1 = nb' by (first | lia | omega)] at tq
    rw [show na' - 1 + 1 = na' by (first | lia | omega)] at tp
    have sB := sb.take nb'
    have sA := sa.take na'
    rw [tq] at sB
    rw [tp] at sA
    refine wpS_bind (elem_v hq (wpS_bind (elem_v hp (wpS_bind (lt_v hO (ev2.1.trans hk) (vb q mq) (va p mp) ?_)))))
    cases hw : κ.blt (kk κ q) (kk κ p) with
    | true =>
      refine ifp rfl ?_
      refine wpS_bind (elem_v hp ?_)
      have M2 : MgH κ LL (out'.push p).toList.reverse (a.toList.take (na' - 1)) (b.toList.take nb') := by
        rw [push_rev]
        refine MgH.a (by rw [← tp]; exact M') fun x hx y hy => ?_
        rw [List.mem_singleton.mp hx]
        rw [tq] at hy
        exact le_trans (sB.lastOf y hy) (le_of_lt hw)
      by_cases c : na' - 1 = 0
      · refine ifp (beq_iff_eq.mpr c) ?_
        exact wpS_pure ⟨ev2, .inl ⟨_, _, rfl, fh_a M2 c⟩⟩
      refine ifn (fun z => c (beq_iff_eq.mp z)) ?_
      refine ifs (fun _ => ?_) (fun _ => ?_)
      · exact wpS_pure ⟨ev2, .inr ⟨na' - 1, nb', _, _, _, rfl, M2, by (first | lia | omega), by (first | lia | omega), by (first | lia | omega), by (first | lia | omega), by (first | lia | omega)⟩⟩
      · exact wpS_pure ⟨ev2, na' - 1, nb', _, _, _, rfl, M2, by (first | lia | omega), by (first | lia | omega), by (first | lia | omega), by (first | lia | omega), by (first | lia | omega)⟩
    | false =>
      refine ifn Bool.false_ne_true ?_
      refine wpS_bind (elem_v hq ?_)
      have M2 : MgH κ LL (out'.push q).toList.reverse (a.toList.take na') (b.toList.take (nb' - 1)) := by
        rw [push_rev]
        refine MgH.b (by rw [← tq]; exact M') fun y hy x hx => ?_
        rw [List.mem_singleton.mp hy]
        rw [tp] at hx
        exact le_trans (sA.lastOf x hx) (show le κ p q from hw)
      by_cases c : nb' - 1 = 1
      · refine ifp (beq_iff_eq.mpr c) ?_
        exact wpS_pure ⟨ev2, .inl ⟨_, _, rfl, fh_f M2 c hb P1⟩⟩
      refine ifn (fun z => c (beq_iff_eq.mp z)) ?_
      refine ifs (fun _ => ?_) (fun _ => ?_)
      · exact wpS_pure ⟨ev2, .inr ⟨na', nb' - 1, _, _, _, rfl, M2, by (first | lia | omega), by (first | lia | omega), by (first | lia | omega), by (first | lia | omega), by (first | lia | omega)⟩⟩
      · exact wpS_pure ⟨ev2, na', nb' - 1, _, _, _, rfl, M2, by (first | lia | omega), by (first | lia | omega), by (first | lia | omega), by (first | lia | omega), by (first | lia | omega)⟩
  · rintro c st2 ⟨ev2, na', nb', out', ac, bc, rfl, M', g1, g2, g3, g4, hpr'⟩
    exact ⟨ev2, .inr ⟨_, _, _, _, _, rfl, M', g1, g2, g3, g4, by (first | lia | omega)⟩⟩
  rintro c st2 ⟨ev2, hc⟩
  rcases hc with ⟨m, r, rfl, g⟩ | ⟨na1, nb1, out1, ac1, bc1, rfl, N1, i1, i2, i3, i4, hpr1⟩
  · exact wpS_pure ⟨ev2, m, _, rfl, g⟩
  refine wpS_bind (wpS_lift (wpAny_rule ⟨rfl, ?_⟩))
  refine wpS_bind (wpS_mono (wpS_forRange (I := fun y c st3 => Eqv st st3 ∧ ∃ na' nb' out' mg' ac bc, c = (none, na', nb', out', mg', ac, bc) ∧ MgH κ LL out'.toList.reverse (a.toList.take na') (b.toList.take nb') ∧ 1 ≤ na' ∧ na' ≤ a.size ∧ 2 ≤ nb' ∧ nb' ≤ b.size ∧ na' + nb' ≤ na1 + nb1)
    (Q := fun c st3 => Eqv st st3 ∧ ((∃ m r, c = (some m, r) ∧ Good κ LL m.toList) ∨ ∃ na' nb' out' mg' ac bc, c = (none, na', nb', out', mg', ac, bc) ∧ MgH κ LL out'.toList.reverse (a.toList.take na') (b.toList.take nb') ∧ 1 ≤ na' ∧ na' ≤ a.size ∧ 2 ≤ nb' ∧ nb' ≤ b.size ∧ na' + nb' ≤ na1 + nb1)) ?_ ?_ ⟨ev2, na1, nb1, out1, _, ac1, bc1, rfl, N1, i1, i2, i3, i4, Nat.le_refl _⟩) ?_)
  rotate_left
  · rintro c st3 ⟨ev3, na', nb', out', mg', ac, bc, rfl, M', g⟩
    exact ⟨ev3, .inr ⟨_, _, _, _, _, _, rfl, M', g⟩⟩
  · rintro c st3 ⟨ev3, hc⟩
    rcases hc with ⟨m, r, rfl, g⟩ | ⟨na2, nb2, out2, mg2, ac2, bc2, rfl, N2, j1, j2, j3, j4, hpr2⟩
    · exact wpS_pure ⟨ev3, m, _, rfl, g⟩
    refine wpS_bind (setG_v ev3 fun st4 ev4 => ?_)
    exact wpS_pure ⟨ev4, na2, nb2, _, _, rfl, N2, j1, j2, j3, j4, by (first | lia | omega)⟩
  rintro y c st3 _ hy ⟨ev3, na2, nb2, out2, mg2, ac2, bc2, rfl, M', j1, j2, j3, j4, hpr'⟩
  obtain ⟨q, hq, mq⟩ := some_at (x := b) (i := nb2 - 1) (by (first | lia | omega))
  have tq := take_snoc hq
  rw [show nb2 - 1 + 1 = nb2 by (first | lia | omega)] at tq
  have sB := sb.take nb2
  rw [tq] at sB
  dsimp -zeta -zetaHave only
  lift_lets
  extract_lets s1 v1 s2 v2 s3 v3 s4 v4 s5 v5 v6 v7 jp
  refine ifj (jp := jp) (fun g => ?_)
  · refine wpS_bind (setG_v ev3 fun st4 ev4 => ?_)
    refine wpS_bind (elem_v hq (wpS_bind (gallop_seg (left := false) (key := q) (arr := a) (base := 0) (n := na2) (hint := na2 - 1) hO (ev4.1.trans hk) (vb q mq) (by (first | lia | omega)) (by rw [List.drop_zero]; exact fun p hp => va p (List.mem_of_mem_take hp)) (by rw [List.drop_zero]; exact sa.take _) (by (first | lia | omega)) fun k hkn g1 g2 => ?_)))
    rw [List.drop_zero] at g1 g2
    rw [List.take_take, Nat.min_eq_left hkn] at g1
    simp only [Bool.false_eq_true, if_false] at g1 g2
    dsimp -zeta -zetaHave only
    lift_lets
    extract_lets w1 w2 jp2
    refine share (jp := jp2) (fun (na3 : Nat) (out3 : Array Keyed) => MgH κ LL out3.toList.reverse (a.toList.take na3) (b.toList.take nb2) ∧ 1 ≤ na3 ∧ na3 ≤ na2 ∧ ∀ x ∈ a.toList.take na3, le κ x q) (fun na3 out3 hR => ?_) (fun hj => ?_)
    · obtain ⟨M3, hA1, hA2, hA⟩ := hR
      refine wpS_bind (elem_v hq ?_)
      have M4 : MgH κ LL (out3.push q).toList.reverse (a.toList.take na3) (b.toList.take (nb2 - 1)) := by
        rw [push_rev]
        refine MgH.b (by rw [← tq]; exact M3) fun y hy x hx => ?_
        rw [List.mem_singleton.mp hy]
        exact hA x hx
      by_cases c4 : nb2 - 1 = 1
      · refine ifp (beq_iff_eq.mpr c4) ?_
        exact wpS_pure ⟨ev4, .inl ⟨_, _, rfl, fh_f M4 c4 hb P1⟩⟩
      refine ifn (fun z => c4 (beq_iff_eq.mp z)) ?_
      obtain ⟨p, hp, mp⟩ := some_at (x := a) (i := na3 - 1) (by (first | lia | omega))
      have tp := take_snoc hp
      rw [show na3 - 1 + 1 = na3 by (first | lia | omega)] at tp
      refine wpS_bind (elem_v hp (wpS_bind (gallop_seg (left := true) (key := p) (arr := b) (base := 0) (n := nb2 - 1) (hint := nb2 - 1 - 1) hO (ev4.1.trans hk) (va p mp) (by (first | lia | omega)) (by rw [List.drop_zero]; exact fun p hp => vb p (List.mem_of_mem_take hp)) (by rw [List.drop_zero]; exact sb.take _) (by (first | lia | omega)) fun k2 hkn2 g3 g4 => ?_)))
      rw [List.drop_zero] at g3 g4
      rw [List.take_take, Nat.min_eq_left hkn2] at g3
      simp only [if_true] at g3 g4
      dsimp -zeta -zetaHave only
      lift_lets
      extract_lets w3 w4 jp3
      refine share (jp := jp3) (fun (nb3 : Nat) (out5 : Array Keyed) => MgH κ LL out5.toList.reverse (a.toList.take na3) (b.toList.take nb3) ∧ 2 ≤ nb3 ∧ nb3 ≤ nb2 - 1 ∧ ∀ y ∈ b.toList.take nb3, le κ y p) (fun nb3 out5 hR => ?_) (fun hj3 => ?_)
      · obtain ⟨M5, hB1, hB2, hB⟩ := hR
        refine wpS_bind (elem_v hp ?_)
        have M6 : MgH κ LL (out5.push p).toList.reverse (a.toList.take (na3 - 1)) (b.toList.take nb3) := by
          rw [push_rev]
          refine MgH.a (by rw [← tp]; exact M5) fun x hx y hy => ?_
          rw [List.mem_singleton.mp hx]
          exact hB y hy
        by_cases c7 : na3 - 1 = 0
        · refine ifp (beq_iff_eq.mpr c7) ?_
          exact wpS_pure ⟨ev4, .inl ⟨_, _, rfl, fh_a M6 c7⟩⟩
        refine ifn (fun z => c7 (beq_iff_eq.mp z)) ?_
        refine ifs (fun _ => ?_) (fun _ => ?_)
        · exact wpS_pure ⟨ev4, .inr ⟨na3 - 1, nb3, _, _, _, _, rfl, M6, by (first | lia | omega), by (first | lia | omega), by (first | lia | omega), by (first | lia | omega), by (first | lia | omega)⟩⟩
        · exact wpS_pure ⟨ev4, na3 - 1, nb3, _, _, _, _, rfl, M6, by (first | lia | omega), by (first | lia | omega), by (first | lia | omega), by (first | lia | omega), by (first | lia | omega)⟩
      by_cases hk2 : k2 = nb2 - 1
      · subst hk2
        refine ifn (show ¬ (nb2 - 1 - (nb2 - 1) > 0) by (first | lia | omega)) (hj3 (nb2 - 1) _ ⟨M4, by (first | lia | omega), Nat.le_refl _, fun y hy => le_of_lt (g3 y hy)⟩)
      · refine ifp (show nb2 - 1 - k2 > 0 by (first | lia | omega)) ?_
        have M5 : MgH κ LL ((out3.push q) ++ (b.extract k2 (nb2 - 1)).reverse).toList.reverse (a.toList.take na3) (b.toList.take k2) := by
          rw [ext_rev]
          refine MgH.b (by rw [← split_to b hkn2]; exact M4) fun y hy x hx => ?_
          have sA := sa.take na3
          rw [tp] at sA
          rw [tp] at hx
          exact le_trans (sA.lastOf x hx) (g4 y hy)
        by_cases c5 : k2 = 1
        · refine ifp (beq_iff_eq.mpr c5) ?_
          exact wpS_pure ⟨ev4, .inl ⟨_, _, rfl, fh_f M5 c5 hb P1⟩⟩
        refine ifn (fun z => c5 (beq_iff_eq.mp z)) ?_
        by_cases c6 : k2 = 0
        · refine ifp (beq_iff_eq.mpr c6) ?_
          exact wpS_pure ⟨ev4, .inl ⟨_, _, rfl, fh_b M5 c6⟩⟩
        exact ifn (fun z => c6 (beq_iff_eq.mp z)) (hj3 k2 _ ⟨M5, by (first | lia | omega), by (first | lia | omega), fun y hy => le_of_lt (g3 y hy)⟩)
    by_cases hk0 : k = na2
    · subst hk0
      exact ifn (show ¬ (k - k > 0) by (first | lia | omega)) (hj k _ ⟨M', j1, Nat.le_refl _, fun x hx => g1 x hx⟩)
    · refine ifp (show na2 - k > 0 by (first | lia | omega)) ?_
      have M3 : MgH κ LL (out2 ++ (a.extract k na2).reverse).toList.reverse (a.toList.take k) (b.toList.take nb2) := by
        rw [ext_rev]
        refine MgH.a (by rw [← split_to a hkn]; exact M') fun x hx y hy => ?_
        rw [tq] at hy
        exact le_trans (sB.lastOf y hy) (le_of_lt (g2 x hx))
      by_cases c3 : k = 0
      · refine ifp (beq_iff_eq.mpr c3) ?_
        exact wpS_pure ⟨ev4, .inl ⟨_, _, rfl, fh_a M3 c3⟩⟩
      exact ifn (fun z => c3 (beq_iff_eq.mp z)) (hj k _ ⟨M3, by (first | lia | omega), hkn, fun x hx => g1 x hx⟩)
end
end TS
set_option Elab.async false
set_option linter.all false
set_option maxHeartbeats 4000000
set_option maxRecDepth 100000
namespace TS
open PySem PyProof.Rows
theorem fold_set (s : Nat) : ∀ (m : List Keyed) (off : Nat) (arr : Array Keyed), s + off + m.length ≤ arr.size →
    ((m.zipIdx off).foldl (fun a x => a.setIfInBounds (s + x.2) x.1) arr).toList = arr.toList.take (s + off) ++ (m ++ arr.toList.drop (s + off + m.length))
  | [], off, arr, h => by simp
  | x :: m, off, arr, h => by
    rw [List.zipIdx_cons, List.foldl_cons]
    rw [List.length_cons] at h
    rw [fold_set s m (off + 1) _ (by rw [Array.size_setIfInBounds]; (first | lia | omega))]
    have e : (arr.setIfInBounds (s + off) x).toList = arr.toList.set (s + off) x := by simp
    show (arr.setIfInBounds (s + off) x).toList.take _ ++ (m ++ (arr.setIfInBounds (s + off) x).toList.drop _) = _
    rw [e]
    have hl : s + off < arr.toList.length := by rw [Array.length_toList]; (first | lia | omega)
    have t1 : (arr.toList.set (s + off) x).take (s + (off + 1)) = arr.toList.take (s + off) ++ [x] := by
      rw [show s + (off + 1) = s + off + 1 by (first | lia | omega), List.take_add_one, List.take_set_of_le (Nat.le_refl _), List.getElem?_set_self hl]
      rfl
    have t2 : (arr.toList.set (s + off) x).drop (s + (off + 1) + m.length) = arr.toList.drop (s + off + (m.length + 1)) := by
      rw [List.drop_set_of_lt (by (first | lia | omega))]
      congr 1
      (first | lia | omega)
    rw [t1, t2, List.length_cons, List.append_assoc]
    rfl
section
variable {prog : Program} {w : World} {A : Around} {E : Value → Shared → Prop} {s : Shared} {κ : KeyKind}
theorem sl_join {X Y : List Keyed} (hX : SL κ X) (hY : SL κ Y) (h : ∀ x ∈ X, ∀ y ∈ Y, le κ x y) : SL κ (X ++ Y) := List.pairwise_append.mpr ⟨hX, hY, h⟩
theorem wpS_mergeAt (hO : κ.OneLt) {i : Nat} {st : SortSt} {P X Y R : List Keyed} {pw pw2 : Nat} {Q : Bool → SortSt → Prop} (hk : kindOf st = oneType') (hf : failedOf st = none)
    (hp1 : (pendingOf st)[i]? = some (P.length, X.length, pw)) (hp2 : (pendingOf st)[i + 1]? = some (P.length + X.length, Y.length, pw2)) (ea : (arrOf st).toList = P ++ (X ++ (Y ++ R)))
    (vX : ∀ p ∈ X, Va κ p) (vY : ∀ p ∈ Y, Va κ p) (sX : SL κ X) (sY : SL κ Y) (hX : 1 ≤ X.length) (hY : 1 ≤ Y.length)
    (h : ∀ M st', M.Perm (X ++ Y) → SL κ M → kindOf st' = oneType' → failedOf st' = none → (arrOf st').toList = P ++ (M ++ R) → pendingOf st' = ((pendingOf st).setIfInBounds i (P.length, X.length + Y.length, pw)).eraseIdxIfInBounds (i + 1) → Q true st') :
    wpS (model prog w) A E s (mergeAt' i) Q st := by
  have asz : (arrOf st).size = P.length + (X.length + (Y.length + R.length)) := by
    have := congrArg List.length ea
    simpa using this
  have dX : ((arrOf st).toList.drop P.length).take X.length = X := by rw [ea]; simp
  have dY : ((arrOf st).toList.drop (P.length + X.length)).take Y.length = Y := by
    rw [ea, ← List.append_assoc]
    rw [← List.length_append]
    simp
  obtain ⟨y0, Y', eY⟩ : ∃ y0 Y', Y = y0 :: Y' := by
    cases Y with
    | nil => simp at hY
    | cons y r => exact ⟨y, r, rfl⟩
  have my0 : y0 ∈ Y := by rw [eY]; exact List.mem_cons_self
  have hy0 : (arrOf st)[P.length + X.length]? = some y0 := by
    have : (arrOf st).toList[P.length + X.length]? = some y0 := by
      rw [ea, eY, ← List.append_assoc, List.getElem?_append_right (by simp)]
      simp
    simpa using this
  have y0le : ∀ y ∈ Y, le κ y0 y := by
    rw [eY] at sY ⊢
    exact sY.head
  refine wpS_bind (wpS_get ?_)
  have hmatch : ((pendingOf st)[i]?, (pendingOf st)[i + 1]?) = (some (P.length, X.length, pw), some (P.length + X.length, Y.length, pw2)) := by rw [hp1, hp2]
  rw [hmatch]
  refine wpS_bind (wpS_modify ?_)
  have k1 : kindOf (SortSt.mk' (kindOf st) (arrOf st) (((pendingOf st).setIfInBounds i (P.length, X.length + Y.length, pw)).eraseIdxIfInBounds (i + 1)) (gallopOf st) (failedOf st)) = oneType' := hk
  have f1 : failedOf (SortSt.mk' (kindOf st) (arrOf st) (((pendingOf st).setIfInBounds i (P.length, X.length + Y.length, pw)).eraseIdxIfInBounds (i + 1)) (gallopOf st) (failedOf st)) = none := hf
  have a1 : arrOf (SortSt.mk' (kindOf st) (arrOf st) (((pendingOf st).setIfInBounds i (P.length, X.length + Y.length, pw)).eraseIdxIfInBounds (i + 1)) (gallopOf st) (failedOf st)) = arrOf st := rfl
  have p1 : pendingOf (SortSt.mk' (kindOf st) (arrOf st) (((pendingOf st).setIfInBounds i (P.length, X.length + Y.length, pw)).eraseIdxIfInBounds (i + 1)) (gallopOf st) (failedOf st)) = ((pendingOf st).setIfInBounds i (P.length, X.length + Y.length, pw)).eraseIdxIfInBounds (i + 1) := rfl
  show wpS _ _ _ _ _ _ (SortSt.mk' (kindOf st) (arrOf st) (((pendingOf st).setIfInBounds i (P.length, X.length + Y.length, pw)).eraseIdxIfInBounds (i + 1)) (gallopOf st) (failedOf st))
  generalize SortSt.mk' (kindOf st) (arrOf st) (((pendingOf st).setIfInBounds i (P.length, X.length + Y.length, pw)).eraseIdxIfInBounds (i + 1)) (gallopOf st) (failedOf st) = st1 at k1 f1 a1 p1 ⊢
  have same : SL κ (X ++ Y) → Q true st1 := fun so => h (X ++ Y) st1 (List.Perm.refl _) so k1 f1 (by rw [a1, ea, List.append_assoc]) p1
  refine wpS_bind (elem_v hy0 (wpS_bind (gallop_seg (left := false) (key := y0) (arr := arrOf st) (base := P.length) (n := X.length) (hint := 0) hO k1 (vY y0 my0) (by (first | lia | omega)) (by rw [dX]; exact vX) (by rw [dX]; exact sX) (by (first | lia | omega)) fun k hkn g1 g2 => ?_)))
  rw [dX] at g1 g2
  simp only [Bool.false_eq_true, if_false] at g1 g2
  have sp := List.take_append_drop k X
  have l2 : (X.drop k).length = X.length - k := List.length_drop
  have l1 : (X.take k).length = k := by rw [List.length_take]; (first | lia | omega)
  have g1Y : ∀ x ∈ X.take k, ∀ y ∈ Y, le κ x y := fun x hx y hy => le_trans (g1 x hx) (y0le y hy)
  by_cases c1 : X.length - k = 0
  · refine ifp (beq_iff_eq.mpr c1) ?_
    refine wpS_pure (same (sl_join sX sY fun x hx y hy => g1Y x ?_ y hy))
    rw [List.take_of_length_le (by (first | lia | omega))]
    exact hx
  refine ifn (fun z => c1 (beq_iff_eq.mp z)) ?_
  obtain ⟨xl, hxl⟩ : ∃ xl, X[X.length - 1]? = some xl := ⟨_, List.getElem?_eq_getElem (by (first | lia | omega))⟩
  have mxl : xl ∈ X := List.mem_of_getElem? hxl
  have hxa : (arrOf st)[P.length + k + (X.length - k) - 1]? = some xl := by
    have : (arrOf st).toList[P.length + k + (X.length - k) - 1]? = some xl := by
      rw [ea, show P.length + k + (X.length - k) - 1 = P.length + (X.length - 1) by (first | lia | omega), List.getElem?_append_right (by (first | lia | omega)), Nat.add_sub_cancel_left, List.getElem?_append_left (by (first | lia | omega))]
      exact hxl
    simpa using this
  have lex : ∀ x ∈ X, le κ x xl := fun x hx => by
    obtain ⟨j, hj, ej⟩ := List.mem_iff_getElem.mp hx
    exact sX.at (i := j) (j := X.length - 1) (by (first | lia | omega)) (by rw [List.getElem?_eq_getElem hj, ej]) hxl
  refine wpS_bind (elem_v hxa (wpS_bind (gallop_seg (left := true) (key := xl) (arr := arrOf st) (base := P.length + X.length) (n := Y.length) (hint := Y.length - 1) hO k1 (vX xl mxl) (by (first | lia | omega)) (by rw [dY]; exact vY) (by rw [dY]; exact sY) (by (first | lia | omega)) fun k2 hkn2 g3 g4 => ?_)))
  rw [dY] at g3 g4
  simp only [if_true] at g3 g4
  by_cases c2 : k2 = 0
  · refine ifp (beq_iff_eq.mpr c2) ?_
    refine wpS_pure (same (sl_join sX sY fun x hx y hy => le_trans (lex x hx) (g4 y ?_)))
    rw [c2, List.drop_zero]
    exact hy
  refine ifn (fun z => c2 (beq_iff_eq.mp z)) ?_
  have l3 : (Y.take k2).length = k2 := by rw [List.length_take]; (first | lia | omega)
  have ex : ((arrOf st).extract (P.length + k) (P.length + X.length)).toList = X.drop k := by
    rw [Array.toList_extract, List.extract_eq_take_drop, ea, ← List.drop_drop, List.drop_left, List.drop_append_of_le_length hkn, show P.length + X.length - (P.length + k) = (X.drop k).length by rw [l2]; (first | lia | omega), List.take_left]
  have ey : ((arrOf st).extract (P.length + X.length) (P.length + X.length + k2)).toList = Y.take k2 := by
    rw [Array.toList_extract, List.extract_eq_take_drop, ea, ← List.drop_drop, List.drop_left, List.drop_left, show P.length + X.length + k2 - (P.length + X.length) = k2 by (first | lia | omega), List.take_append_of_le_length hkn2]
  have fin : ∀ (m : Array Keyed) (st2 : SortSt), Eqv st1 st2 → Good κ (X.drop k ++ Y.take k2) m.toList → Q true (SortSt.mk' (kindOf st2) ((m.toList.zipIdx).foldl (fun a x => a.setIfInBounds (P.length + k + x.2) x.1) (arrOf st2)) (pendingOf st2) (gallopOf st2) (failedOf st2)) := by
    intro m st2 ev g
    have ml : m.toList.length = X.length - k + k2 := by rw [g.1.length_eq, List.length_append, l2, l3]
    have msz : m.size = X.length - k + k2 := by rw [← Array.length_toList]; exact ml
    refine h (X.take k ++ (m.toList ++ Y.drop k2)) _ ?_ ?_ (ev.1.trans k1) (ev.2.2.2.trans f1) ?_ (ev.2.2.1.trans p1)
    · refine List.Perm.trans (List.Perm.append_left _ (List.Perm.append_right _ g.1)) ?_
      rw [List.append_assoc, List.take_append_drop, ← List.append_assoc, List.take_append_drop]
    · have inM : ∀ z ∈ m.toList, z ∈ X.drop k ∨ z ∈ Y.take k2 := fun z hz => List.mem_append.mp (g.1.mem_iff.mp hz)
      have sX' := sX
      rw [← sp] at sX'
      have cX := (List.pairwise_append.mp sX').2.2
      have sY' := sY
      rw [← List.take_append_drop k2 Y] at sY'
      have cY := (List.pairwise_append.mp sY').2.2
      refine sl_join (sX.take k) (sl_join g.2 (sY.drop k2) fun z hz y hy => ?_) fun x hx z hz => ?_
      · rcases inM z hz with q | q
        · exact le_trans (lex z (List.mem_of_mem_drop q)) (g4 y hy)
        · exact cY z q y hy
      · rcases List.mem_append.mp hz with hz | hz
        · rcases inM z hz with q | q
          · exact cX x hx z q
          · exact g1Y x hx z (List.mem_of_mem_take q)
        · exact g1Y x hx z (List.mem_of_mem_drop hz)
    · show ((m.toList.zipIdx).foldl (fun a x => a.setIfInBounds (P.length + k + x.2) x.1) (arrOf st2)).toList = _
      have asz2 : (arrOf st2).size = (arrOf st).size := by rw [ev.2.1, a1]
      rw [fold_set (P.length + k) m.toList 0 (arrOf st2) (by (first | lia | omega)), ev.2.1, a1, ea]
      have t1 : (P ++ (X ++ (Y ++ R))).take (P.length + k + 0) = P ++ X.take k := by
        rw [Nat.add_zero, List.take_length_add_append, List.take_append_of_le_length hkn]
      have t2 : (P ++ (X ++ (Y ++ R))).drop (P.length + k + 0 + m.toList.length) = Y.drop k2 ++ R := by
        rw [show P.length + k + 0 + m.toList.length = P.length + (X.length + k2) by (first | lia | omega), List.drop_length_add_append, List.drop_length_add_append, List.drop_append_of_le_length hkn2]
      rw [t1, t2]
      simp only [List.append_assoc]
  have P1' : ∀ y ∈ (Y.take k2).take 1, ∀ x ∈ X.drop k, le κ y x := fun y hy x hx => by
    rw [List.take_take, Nat.min_eq_left (by (first | lia | omega)), eY] at hy
    have : y = y0 := by simpa using hy
    rw [this]
    exact le_of_lt (g2 x hx)
  have P2' : ∀ y ∈ Y.take k2, ∀ z ∈ (X.drop k).drop (X.length - k - 1), le κ y z := fun y hy z hz => by
    rw [List.drop_drop, show k + (X.length - k - 1) = X.length - 1 by (first | lia | omega)] at hz
    have ez : X.drop (X.length - 1) = [xl] := by
      obtain ⟨hl, e⟩ := List.getElem?_eq_some_iff.mp hxl
      rw [List.drop_eq_getElem_cons hl, e, List.drop_of_length_le (by (first | lia | omega))]
    rw [ez] at hz
    rw [List.mem_singleton.mp hz]
    exact le_of_lt (g3 y hy)
  have xsz : ((arrOf st).extract (P.length + k) (P.length + X.length)).size = X.length - k := by rw [← Array.length_toList, ex, l2]
  have ysz : ((arrOf st).extract (P.length + X.length) (P.length + X.length + k2)).size = k2 := by rw [← Array.length_toList, ey, l3]
  refine ifs (fun _ => ?_) (fun _ => ?_)
  · refine wpS_bind (wpS_mergeLo hO k1 (by rw [ex]; exact fun p hp => vX p (List.mem_of_mem_drop hp)) (by rw [ey]; exact fun p hp => vY p (List.mem_of_mem_take hp)) (by rw [xsz]; (first | lia | omega)) (by rw [ysz]; (first | lia | omega)) (by rw [ex]; exact sX.drop k) (by rw [ey]; exact sY.take k2) (by rw [ex, ey]; exact P1') (by rw [ex, ey, xsz]; exact P2') fun m st2 ev g => ?_)
    rw [ex, ey] at g
    refine wpS_bind (wpS_modify (wpS_bind (wpS_get ?_)))
    have := fin m st2 ev g
    have e : (failedOf st2).isNone = true := by rw [ev.2.2.2, f1]; rfl
    refine wpS_pure ?_
    show Q (failedOf st2).isNone _
    rw [e]
    exact this
  · refine wpS_bind (wpS_mergeHi hO k1 (by rw [ex]; exact fun p hp => vX p (List.mem_of_mem_drop hp)) (by rw [ey]; exact fun p hp => vY p (List.mem_of_mem_take hp)) (by rw [xsz]; (first | lia | omega)) (by rw [ysz]; (first | lia | omega)) (by rw [ex]; exact sX.drop k) (by rw [ey]; exact sY.take k2) (by rw [ex, ey]; exact P1') (by rw [ex, ey, xsz]; exact P2') fun m st2 ev g => ?_)
    rw [ex, ey] at g
    refine wpS_bind (wpS_modify (wpS_bind (wpS_get ?_)))
    have := fin m st2 ev g
    have e : (failedOf st2).isNone = true := by rw [ev.2.2.2, f1]; rfl
    refine wpS_pure ?_
    show Q (failedOf st2).isNone _
    rw [e]
    exact this
end
end TS
set_option Elab.async false
set_option linter.all false
set_option maxHeartbeats 4000000
set_option maxRecDepth 100000
namespace TS
open PySem PyProof.Rows
structure Rl (lo : Nat) (st0 st : SortSt) : Prop where
  kind : kindOf st = oneType'
  failed : failedOf st = none
  pend : pendingOf st = pendingOf st0
  perm : (arrOf st).Perm (arrOf st0)
  pre : ∀ i, i < lo → (arrOf st)[i]? = (arrOf st0)[i]?
theorem Rl.size {lo : Nat} {st0 st : SortSt} (R : Rl lo st0 st) : (arrOf st).size = (arrOf st0).size := R.perm.size_eq
theorem Rl.mir {lo i j : Nat} {st0 st : SortSt} (R : Rl lo st0 st) (hi : lo ≤ i) (hj : j ≤ (arrOf st0).size) : Rl lo st0 (setArr st (mirror (arrOf st) i j ((j - i) / 2))) :=
  ⟨R.kind, R.failed, R.pend, (mirror_perm _ _ _ _).trans R.perm, fun k hk => by
    show (mirror (arrOf st) i j ((j - i) / 2))[k]? = _
    rw [getElem?_mirror_all (by rw [R.size]; exact hj), if_neg (by (first | lia | omega))]
    exact R.pre k hk⟩
theorem Rl.bub {lo src d : Nat} {st0 st : SortSt} (R : Rl lo st0 st) (hi : lo ≤ src - d) (hd : d ≤ src) (hs : src < (arrOf st0).size) : Rl lo st0 (setArr st (bubble (arrOf st) src d)) :=
  ⟨R.kind, R.failed, R.pend, (bubble_perm _ _ _).trans R.perm, fun k hk => by
    show (bubble (arrOf st) src d)[k]? = _
    rw [getElem?_bubble (by rw [R.size]; exact hs) d hd, if_neg (by (first | lia | omega)), if_neg (by (first | lia | omega))]
    exact R.pre k hk⟩
def UpK (κ : KeyKind) (xs : Array Keyed) (lo n : Nat) : Prop := ∀ i j, i ≤ j → j < n → κ.kle (KK κ xs (lo + i)) (KK κ xs (lo + j))
def DnK (κ : KeyKind) (xs : Array Keyed) (lo n : Nat) : Prop := ∀ i j, i ≤ j → j < n → κ.kle (KK κ xs (lo + j)) (KK κ xs (lo + i))
section
variable {κ : KeyKind}
theorem UpK.one (xs : Array Keyed) (lo n : Nat) (hn : n ≤ 1) : UpK κ xs lo n := fun i j hij hj => by
  have e : i = j := by (first | lia | omega)
  subst e
  exact KeyOrd.kle_refl _
theorem UpK.more {xs : Array Keyed} {lo x : Nat} (h : UpK κ xs lo x) (hx : 1 ≤ x) (q : κ.kle (KK κ xs (lo + (x - 1))) (KK κ xs (lo + x))) : UpK κ xs lo (x + 1) := fun i j hij hj => by
  by_cases hjx : j < x
  · exact h i j hij hjx
  · have e : j = x := by (first | lia | omega)
    subst e
    by_cases e2 : i = j
    · subst e2; exact KeyOrd.kle_refl _
    · exact KeyOrd.kle_trans (h i (j - 1) (by (first | lia | omega)) (by (first | lia | omega))) q
theorem DnK.more {xs : Array Keyed} {lo x : Nat} (h : DnK κ xs lo x) (hx : 1 ≤ x) (q : κ.kle (KK κ xs (lo + x)) (KK κ xs (lo + (x - 1)))) : DnK κ xs lo (x + 1) := fun i j hij hj => by
  by_cases hjx : j < x
  · exact h i j hij hjx
  · have e : j = x := by (first | lia | omega)
    subst e
    by_cases e2 : i = j
    · subst e2; exact KeyOrd.kle_refl _
    · exact KeyOrd.kle_trans q (h i (j - 1) (by (first | lia | omega)) (by (first | lia | omega)))
theorem DnK.congr {xs ys : Array Keyed} {lo n : Nat} (h : DnK κ xs lo n) (e : ∀ k, KK κ ys k = KK κ xs k) : DnK κ ys lo n := fun i j hij hj => by
  rw [e, e]
  exact h i j hij hj
end
section
variable {prog : Program} {w : World} {A : Around} {E : Value → Shared → Prop} {s : Shared} {κ : KeyKind}
theorem ltAt_v (hO : κ.OneLt) {lo i j : Nat} {st0 st : SortSt} {Q : Option Bool → SortSt → Prop} (R : Rl lo st0 st) (va : ∀ p ∈ (arrOf st0).toList, Va κ p) (hi : i < (arrOf st0).size) (hj : j < (arrOf st0).size)
    (h : Q (some (κ.blt (KK κ (arrOf st) i) (KK κ (arrOf st) j))) st) : wpS (model prog w) A E s (ltAt' i j) Q st := by
  have get : ∀ k, k < (arrOf st0).size → ∃ p, (arrOf st)[k]? = some p ∧ Va κ p := fun k hk => by
    obtain ⟨p, e, m⟩ := some_at (x := arrOf st) (i := k) (by rw [R.size]; exact hk)
    exact ⟨p, e, va p ((Array.perm_iff_toList_perm.mp R.perm).mem_iff.mp m)⟩
  obtain ⟨p, e1, a, ha⟩ := get i hi
  obtain ⟨q, e2, b, hb⟩ := get j hj
  have ka : KK κ (arrOf st) i = a := by rw [KK_of e1]; unfold kk; rw [ha]; rfl
  have kb : KK κ (arrOf st) j = b := by rw [KK_of e2]; unfold kk; rw [hb]; rfl
  rw [ka, kb] at h
  exact wpS_ltAtK hO R.kind (x := p.1) (y := q.1) (p := p.2) (q := q.2) e1 e2 ha hb h
theorem wpS_binary (hO : κ.OneLt) {lo n ok : Nat} {st0 st : SortSt} {Q : Bool → SortSt → Prop} (R : Rl lo st0 st) (va : ∀ p ∈ (arrOf st0).toList, Va κ p) (hn : lo + n ≤ (arrOf st0).size) (h1 : 1 ≤ ok) (hok : ok ≤ n) (hs : UpK κ (arrOf st) lo ok)
    (h : ∀ st', Rl lo st0 st' → UpK κ (arrOf st') lo n → Q true st') : wpS (model prog w) A E s (binarySort' lo n ok) Q st := by
  rw [binarySort'_eq]
  refine wpS_bind (wpS_mono (wpS_forRange (I := fun k c st' => c = (none, ()) ∧ Rl lo st0 st' ∧ UpK κ (arrOf st') lo k) (Q := fun c st' => c = (none, ()) ∧ Rl lo st0 st' ∧ UpK κ (arrOf st') lo n) ?_ ?_ ⟨rfl, R, by rw [Nat.max_eq_left h1]; exact hs⟩) ?_)
  rotate_left
  · rintro c st' ⟨rfl, R', hs'⟩
    rw [show max (max ok 1) n = n by (first | lia | omega)] at hs'
    exact ⟨rfl, R', hs'⟩
  · rintro c st' ⟨rfl, R', hs'⟩
    exact wpS_pure (h st' R' hs')
  rintro k c st1 hak hkn ⟨rfl, R1, s1⟩
  have hk1 : 1 ≤ k := by (first | lia | omega)
  refine wpS_bind (wpS_mono (wpS_forRange (I := fun x c st2 => st2 = st1 ∧ ∃ l r, c = (none, l, r) ∧ l ≤ r ∧ r ≤ k ∧ r - l ≤ k - x ∧ (∀ i, i < l → κ.kle (KK κ (arrOf st1) (lo + i)) (KK κ (arrOf st1) (lo + k))) ∧ ∀ i, r ≤ i → i < k → κ.klt (KK κ (arrOf st1) (lo + k)) (KK κ (arrOf st1) (lo + i)))
    (Q := fun c st2 => st2 = st1 ∧ ∃ l r, c = (none, l, r) ∧ l ≤ k ∧ (∀ i, i < l → κ.kle (KK κ (arrOf st1) (lo + i)) (KK κ (arrOf st1) (lo + k))) ∧ ∀ i, l ≤ i → i < k → κ.klt (KK κ (arrOf st1) (lo + k)) (KK κ (arrOf st1) (lo + i))) ?_ ?_ ⟨rfl, 0, k, rfl, Nat.zero_le _, Nat.le_refl _, by (first | lia | omega), fun i hi => absurd hi (by (first | lia | omega)), fun i a b => absurd b (by (first | lia | omega))⟩) ?_)
  · rintro x c st2 _ hx ⟨rfl, l, r, rfl, g1, g2, g3, g4, g5⟩
    by_cases hge : l ≥ r
    · refine ifp hge ?_
      have e : l = r := by (first | lia | omega)
      subst e
      exact wpS_pure ⟨rfl, l, l, rfl, g2, g4, g5⟩
    · refine ifn hge ?_
      refine wpS_bind (ltAt_v hO R1 va (by show lo + k < _; (first | lia | omega)) (by show lo + (l + r) / 2 < _; (first | lia | omega)) ?_)
      show wpS _ _ _ _ (if κ.blt (KK κ (arrOf st2) (lo + k)) (KK κ (arrOf st2) (lo + (l + r) / 2)) = true then _ else _) _ _
      cases q : κ.blt (KK κ (arrOf st2) (lo + k)) (KK κ (arrOf st2) (lo + (l + r) / 2)) with
      | true =>
        refine ifp rfl ?_
        exact wpS_pure ⟨rfl, l, (l + r) / 2, rfl, by (first | lia | omega), by (first | lia | omega), by (first | lia | omega), g4, fun i a b => KeyOrd.klt_of_klt_of_kle q (s1 _ _ a b)⟩
      | false =>
        refine ifn Bool.false_ne_true ?_
        exact wpS_pure ⟨rfl, (l + r) / 2 + 1, r, rfl, by (first | lia | omega), by (first | lia | omega), by (first | lia | omega), fun i a => KeyOrd.kle_trans (s1 i ((l + r) / 2) (by (first | lia | omega)) (by (first | lia | omega))) (show κ.kle _ _ from q), g5⟩
  · rintro c st2 ⟨rfl, l, r, rfl, g1, g2, g3, g4, g5⟩
    have e : l = r := by (first | lia | omega)
    subst e
    exact ⟨rfl, l, l, rfl, g2, g4, g5⟩
  · rintro c st2 ⟨rfl, l, r, rfl, g2, g4, g5⟩
    show wpS _ _ _ _ (moveDown' (lo + k) (lo + l) >>= fun _ => pure (ForInStep.yield (none, ()))) _ _
    rw [moveDown'_eq]
    have hks : lo + k < (arrOf st2).size := by rw [R1.size]; (first | lia | omega)
    refine wpS_bind (wpS_modify (wpS_pure ⟨rfl, R1.bub (by (first | lia | omega)) (by (first | lia | omega)) (by (first | lia | omega)), ?_⟩))
    intro i j hij hj
    show κ.kle (KK κ (bubble (arrOf st2) (lo + k) (lo + k - (lo + l))) (lo + i)) (KK κ (bubble (arrOf st2) (lo + k) (lo + k - (lo + l))) (lo + j))
    rw [KK_bubble hks (by (first | lia | omega)), KK_bubble hks (by (first | lia | omega))]
    have e1 : ∀ {z : Nat}, l < z → z ≤ k → lo + z - 1 = lo + (z - 1) := fun {z} a b => by (first | lia | omega)
    by_cases hj1 : j = l
    · subst hj1
      rw [if_pos (show lo + j = lo + k - (lo + k - (lo + j)) by (first | lia | omega))]
      by_cases hi1 : i = j
      · rw [hi1, if_pos (show lo + j = lo + k - (lo + k - (lo + j)) by (first | lia | omega))]
        exact KeyOrd.kle_refl _
      · rw [if_neg (by (first | lia | omega)), if_neg (by (first | lia | omega))]
        exact g4 i (by (first | lia | omega))
    · by_cases hj2 : l < j
      · rw [if_neg (show ¬ (lo + j = lo + k - (lo + k - (lo + l))) by (first | lia | omega)), if_pos (show lo + k - (lo + k - (lo + l)) < lo + j ∧ lo + j ≤ lo + k by (first | lia | omega)), e1 hj2 (by (first | lia | omega))]
        by_cases hi1 : i = l
        · rw [hi1, if_pos (show lo + l = lo + k - (lo + k - (lo + l)) by (first | lia | omega))]
          exact KeyOrd.kle_of_klt (g5 (j - 1) (by (first | lia | omega)) (by (first | lia | omega)))
        · by_cases hi2 : l < i
          · rw [if_neg (show ¬ (lo + i = lo + k - (lo + k - (lo + l))) by (first | lia | omega)), if_pos (show lo + k - (lo + k - (lo + l)) < lo + i ∧ lo + i ≤ lo + k by (first | lia | omega)), e1 hi2 (by (first | lia | omega))]
            exact s1 _ _ (by (first | lia | omega)) (by (first | lia | omega))
          · rw [if_neg (by (first | lia | omega)), if_neg (by (first | lia | omega))]
            exact s1 _ _ (by (first | lia | omega)) (by (first | lia | omega))
      · rw [if_neg (show ¬ (lo + j = lo + k - (lo + k - (lo + l))) by (first | lia | omega)), if_neg (show ¬ (lo + k - (lo + k - (lo + l)) < lo + j ∧ lo + j ≤ lo + k) by (first | lia | omega)), if_neg (by (first | lia | omega)), if_neg (by (first | lia | omega))]
        exact s1 _ _ hij (by (first | lia | omega))
end
end TS
set_option Elab.async false
set_option linter.all false
set_option maxHeartbeats 4000000
set_option maxRecDepth 100000
namespace TS
open PySem PyProof.Rows
section
variable {prog : Program} {w : World} {A : Around} {E : Value → Shared → Prop} {s : Shared} {κ : KeyKind}
theorem wpS_count (hO : κ.OneLt) {lo nrem : Nat} {st0 : SortSt} {Q : Option Nat → SortSt → Prop} (hk : kindOf st0 = oneType') (hf : failedOf st0 = none) (va : ∀ p ∈ (arrOf st0).toList, Va κ p) (hn : lo + nrem ≤ (arrOf st0).size) (h1 : 1 ≤ nrem)
    (h : ∀ m st', Rl lo st0 st' → 1 ≤ m → m ≤ nrem → UpK κ (arrOf st') lo m → Q (some m) st') : wpS (model prog w) A E s (countRun' lo nrem) Q st0 := by
  rw [countRun'_eq]
  have R0 : Rl lo st0 st0 := ⟨hk, hf, rfl, Array.Perm.refl _, fun _ _ => rfl⟩
  refine wpS_bind (wpS_mono (wpS_forRange (I := fun x c st' => st' = st0 ∧ c = (none, x) ∧ UpK κ (arrOf st0) lo x) (Q := fun c st' => st' = st0 ∧ ∃ n, c = (none, n) ∧ 1 ≤ n ∧ n ≤ nrem ∧ UpK κ (arrOf st0) lo n ∧ (n = nrem ∨ κ.klt (KK κ (arrOf st0) (lo + n)) (KK κ (arrOf st0) (lo + (n - 1))))) ?_ ?_ ⟨rfl, rfl, UpK.one _ _ _ (Nat.le_refl _)⟩) ?_)
  · rintro x c st' hx1 hx ⟨rfl, rfl, s1⟩
    refine wpS_bind (ltAt_v hO R0 va (by show lo + x < _; (first | lia | omega)) (by show lo + x - 1 < _; (first | lia | omega)) ?_)
    show wpS _ _ _ _ (if κ.blt (KK κ (arrOf st') (lo + x)) (KK κ (arrOf st') (lo + x - 1)) = true then _ else _) _ _
    rw [show lo + x - 1 = lo + (x - 1) by (first | lia | omega)]
    cases q : κ.blt (KK κ (arrOf st') (lo + x)) (KK κ (arrOf st') (lo + (x - 1))) with
    | true =>
      refine ifp rfl ?_
      exact wpS_pure ⟨rfl, x, rfl, hx1, by (first | lia | omega), s1, .inr q⟩
    | false =>
      refine ifn Bool.false_ne_true ?_
      exact wpS_pure ⟨rfl, rfl, s1.more hx1 q⟩
  · rintro c st' ⟨rfl, rfl, s1⟩
    rw [show max 1 nrem = nrem by (first | lia | omega)] at s1 ⊢
    exact ⟨rfl, nrem, rfl, h1, Nat.le_refl _, s1, .inl rfl⟩
  rintro c st' ⟨rfl, n, rfl, g1, g2, s1, alt⟩
  by_cases hnn : n = nrem
  · refine ifp (beq_iff_eq.mpr hnn) ?_
    exact wpS_pure (h n st' R0 g1 g2 s1)
  refine ifn (fun z => hnn (beq_iff_eq.mp z)) ?_
  have hlt := alt.resolve_left hnn
  lift_lets
  extract_lets n0 q0 jp
  have hjp : ∀ st1, Rl lo st' st1 → DnK κ (arrOf st1) lo (n + 1) → wpS (model prog w) A E s (jp ()) Q st1 := by
    intro st1 R1 d1
    refine wpS_bind (wpS_lift (wpAny_rule ⟨rfl, ?_⟩))
    refine wpS_bind (wpS_mono (wpS_forRange (a := n + 1) (b := nrem) (I := fun x c st2 => Rl lo st' st2 ∧ ∃ neq, c = (none, x, neq) ∧ DnK κ (arrOf st2) lo x ∧ neq + 1 ≤ x ∧ ∀ i, x - (neq + 1) ≤ i → i < x → KK κ (arrOf st2) (lo + i) = KK κ (arrOf st2) (lo + (x - 1)))
      (Q := fun c st2 => Rl lo st' st2 ∧ ∃ x neq, c = (none, x, neq) ∧ 1 ≤ x ∧ x ≤ nrem ∧ DnK κ (arrOf st2) lo x ∧ neq + 1 ≤ x ∧ ∀ i, x - (neq + 1) ≤ i → i < x → KK κ (arrOf st2) (lo + i) = KK κ (arrOf st2) (lo + (x - 1))) ?_ ?_ ⟨R1, 0, rfl, d1, by (first | lia | omega), fun i a b => by congr 1; (first | lia | omega)⟩) ?_)
    · rintro x c st2 hx1 hx ⟨R2, neq, rfl, d2, q1, q2⟩
      have hsz : lo + x ≤ (arrOf st2).size := by rw [R2.size]; (first | lia | omega)
      refine wpS_bind (ltAt_v hO R2 va (by show lo + x < _; (first | lia | omega)) (by show lo + x - 1 < _; (first | lia | omega)) ?_)
      show wpS _ _ _ _ (if κ.blt (KK κ (arrOf st2) (lo + x)) (KK κ (arrOf st2) (lo + x - 1)) = true then _ else _) _ _
      rw [show lo + x - 1 = lo + (x - 1) by (first | lia | omega)]
      cases q : κ.blt (KK κ (arrOf st2) (lo + x)) (KK κ (arrOf st2) (lo + (x - 1))) with
      | true =>
        refine ifp rfl ?_
        have d3 := d2.more (by (first | lia | omega)) (KeyOrd.kle_of_klt q)
        refine ifs (fun hq => ?_) (fun hq => ?_)
        · refine wpS_bind (wpS_reverse (i := lo + x - (neq + 1)) (j := lo + x) (wpS_pure ⟨R2.mir (by (first | lia | omega)) (by (first | lia | omega)), 0, rfl, ?_, by (first | lia | omega), fun i a b => by congr 1; (first | lia | omega)⟩))
          refine d3.congr fun k => KK_mirror_equal hsz (fun k a b => ?_) k
          have e := q2 (k - lo) (by (first | lia | omega)) (by (first | lia | omega))
          rw [show lo + (k - lo) = k by (first | lia | omega)] at e
          rw [e]
          congr 1
          (first | lia | omega)
        · exact wpS_pure ⟨R2, 0, rfl, d3, by (first | lia | omega), fun i a b => by congr 1; (first | lia | omega)⟩
      | false =>
        refine ifn Bool.false_ne_true ?_
        refine wpS_bind (ltAt_v hO R2 va (by show lo + (x - 1) < _; (first | lia | omega)) (by show lo + x < _; (first | lia | omega)) ?_)
        show wpS _ _ _ _ (if κ.blt (KK κ (arrOf st2) (lo + (x - 1))) (KK κ (arrOf st2) (lo + x)) = true then _ else _) _ _
        cases p : κ.blt (KK κ (arrOf st2) (lo + (x - 1))) (KK κ (arrOf st2) (lo + x)) with
        | true =>
          refine ifp rfl ?_
          exact wpS_pure ⟨R2, x, neq, rfl, by (first | lia | omega), by (first | lia | omega), d2, q1, q2⟩
        | false =>
          refine ifn Bool.false_ne_true ?_
          have e : KK κ (arrOf st2) (lo + x) = KK κ (arrOf st2) (lo + (x - 1)) := KeyOrd.kle_antisymm p q
          refine wpS_pure ⟨R2, neq + 1, rfl, d2.more (by (first | lia | omega)) (show κ.kle _ _ from p), by (first | lia | omega), fun i a b => ?_⟩
          rw [show x + 1 - 1 = x by (first | lia | omega)]
          by_cases hix : i = x
          · rw [hix]
          · rw [e]
            exact q2 i (by (first | lia | omega)) (by (first | lia | omega))
    · rintro c st2 ⟨R2, neq, rfl, d2, q1, q2⟩
      rw [show max (n + 1) nrem = nrem by (first | lia | omega)] at d2 q1 q2 ⊢
      exact ⟨R2, nrem, neq, rfl, h1, Nat.le_refl _, d2, q1, q2⟩
    rintro c st2 ⟨R2, x, neq, rfl, x1, x2, d2, q1, q2⟩
    lift_lets
    extract_lets r5 s5 n5 q5 jp2
    have hjp2 : ∀ st3, Rl lo st' st3 → DnK κ (arrOf st3) lo x → wpS (model prog w) A E s (jp2 ()) Q st3 := by
      intro st3 R3 d3
      have hsz : lo + x ≤ (arrOf st3).size := by rw [R3.size]; (first | lia | omega)
      refine wpS_bind (wpS_reverse (i := lo) (j := lo + x) ?_)
      have R4 := R3.mir (i := lo) (j := lo + x) (Nat.le_refl _) (by (first | lia | omega))
      have u4 : UpK κ (arrOf (setArr st3 (mirror (arrOf st3) lo (lo + x) ((lo + x - lo) / 2)))) lo x := fun i j hij hj => by
        show κ.kle (KK κ (mirror (arrOf st3) lo (lo + x) ((lo + x - lo) / 2)) (lo + i)) (KK κ (mirror (arrOf st3) lo (lo + x) ((lo + x - lo) / 2)) (lo + j))
        rw [KK_mirror hsz, KK_mirror hsz, if_pos (by (first | lia | omega)), if_pos (by (first | lia | omega)), show lo + (lo + x) - 1 - (lo + i) = lo + (x - 1 - i) by (first | lia | omega), show lo + (lo + x) - 1 - (lo + j) = lo + (x - 1 - j) by (first | lia | omega)]
        exact d3 _ _ (by (first | lia | omega)) (by (first | lia | omega))
      generalize setArr st3 (mirror (arrOf st3) lo (lo + x) ((lo + x - lo) / 2)) = st4 at R4 u4 ⊢
      refine wpS_bind (wpS_mono (wpS_forRange (a := x) (b := nrem) (I := fun y c st5 => st5 = st4 ∧ c = (none, y) ∧ UpK κ (arrOf st4) lo y) (Q := fun c st5 => st5 = st4 ∧ ∃ m, c = (none, m) ∧ 1 ≤ m ∧ m ≤ nrem ∧ UpK κ (arrOf st4) lo m) ?_ ?_ ⟨rfl, rfl, u4⟩) ?_)
      · rintro y c st5 hy1 hy ⟨rfl, rfl, s5⟩
        refine wpS_bind (ltAt_v hO R4 va (by show lo + y < _; (first | lia | omega)) (by show lo + y - 1 < _; (first | lia | omega)) ?_)
        show wpS _ _ _ _ (if κ.blt (KK κ (arrOf st5) (lo + y)) (KK κ (arrOf st5) (lo + y - 1)) = true then _ else _) _ _
        rw [show lo + y - 1 = lo + (y - 1) by (first | lia | omega)]
        cases q : κ.blt (KK κ (arrOf st5) (lo + y)) (KK κ (arrOf st5) (lo + (y - 1))) with
        | true =>
          refine ifp rfl ?_
          exact wpS_pure ⟨rfl, y, rfl, by (first | lia | omega), by (first | lia | omega), s5⟩
        | false =>
          refine ifn Bool.false_ne_true ?_
          exact wpS_pure ⟨rfl, rfl, s5.more (by (first | lia | omega)) q⟩
      · rintro c st5 ⟨rfl, rfl, s5⟩
        rw [show max x nrem = nrem by (first | lia | omega)] at s5 ⊢
        exact ⟨rfl, nrem, rfl, h1, Nat.le_refl _, s5⟩
      · rintro c st5 ⟨rfl, m, rfl, m1, m2, s5⟩
        exact wpS_pure (h m st5 R4 m1 m2 s5)
    clear_value jp2
    refine ifs (fun hq => ?_) (fun hq => hjp2 st2 R2 d2)
    have hsz : lo + x ≤ (arrOf st2).size := by rw [R2.size]; (first | lia | omega)
    refine wpS_bind (wpS_reverse (i := lo + x - (neq + 1)) (j := lo + x) (hjp2 _ (R2.mir (by (first | lia | omega)) (by (first | lia | omega))) ?_))
    refine d2.congr fun k => KK_mirror_equal hsz (fun k a b => ?_) k
    have e := q2 (k - lo) (by (first | lia | omega)) (by (first | lia | omega))
    rw [show lo + (k - lo) = k by (first | lia | omega)] at e
    rw [e]
    congr 1
    (first | lia | omega)
  clear_value jp
  have hsz : lo + n ≤ (arrOf st').size := by (first | lia | omega)
  refine ifs (fun hgt => ?_) (fun hgt => ?_)
  · refine wpS_bind (ltAt_v hO R0 va (by show lo < _; (first | lia | omega)) (by show lo + n - 1 < _; (first | lia | omega)) ?_)
    show wpS _ _ _ _ (if κ.blt (KK κ (arrOf st') lo) (KK κ (arrOf st') (lo + n - 1)) = true then _ else _) _ _
    cases q : κ.blt (KK κ (arrOf st') lo) (KK κ (arrOf st') (lo + n - 1)) with
    | true =>
      refine ifp rfl ?_
      exact wpS_pure (h n st' R0 g1 g2 s1)
    | false =>
      refine ifn Bool.false_ne_true ?_
      have all : ∀ k, k < n → KK κ (arrOf st') (lo + k) = KK κ (arrOf st') (lo + (n - 1)) := fun k hk => by
        have a1 := s1 0 k (by (first | lia | omega)) hk
        have a2 := s1 k (n - 1) (by (first | lia | omega)) (by (first | lia | omega))
        rw [Nat.add_zero] at a1
        rw [show lo + n - 1 = lo + (n - 1) by (first | lia | omega)] at q
        exact KeyOrd.kle_antisymm a2 (KeyOrd.kle_trans q a1)
      refine wpS_bind (wpS_reverse (i := lo) (j := lo + n) (hjp _ (R0.mir (Nat.le_refl _) (by (first | lia | omega))) ?_))
      have d0 : DnK κ (arrOf st') lo n := fun i j hij hj => by rw [all i (by (first | lia | omega)), all j hj]; exact KeyOrd.kle_refl _
      refine (d0.more g1 (KeyOrd.kle_of_klt hlt)).congr fun k => KK_mirror_equal hsz (fun k a b => ?_) k
      have e := all (k - lo) (by (first | lia | omega))
      rw [show lo + (k - lo) = k by (first | lia | omega)] at e
      rw [e, show lo + n - 1 = lo + (n - 1) by (first | lia | omega)]
  · have e1 : n = 1 := by (first | lia | omega)
    subst e1
    have d0 : DnK κ (arrOf st') lo 1 := fun i j hij hj => by
      have e : i = j := by (first | lia | omega)
      subst e
      exact KeyOrd.kle_refl _
    exact hjp st' R0 (d0.more (Nat.le_refl _) (KeyOrd.kle_of_klt hlt))
end
end TS
set_option Elab.async false
set_option linter.all false
set_option maxHeartbeats 4000000
set_option maxRecDepth 100000
namespace TS
open PySem PyProof.Rows
def spans : Nat → List (List Keyed) → List (Nat × Nat)
  | _, [] => []
  | s, g :: gs => (s, g.length) :: spans (s + g.length) gs
theorem spans_append : ∀ (A B : List (List Keyed)) (s : Nat), spans s (A ++ B) = spans s A ++ spans (s + A.flatten.length) B
  | [], B, s => by simp [spans]
  | g :: A, B, s => by
    rw [List.cons_append]
    simp only [spans, List.flatten_cons, List.length_append, List.cons_append]
    rw [spans_append A B, Nat.add_assoc]
theorem spans_length : ∀ (A : List (List Keyed)) (s : Nat), (spans s A).length = A.length
  | [], s => rfl
  | g :: A, s => by simp only [spans, List.length_cons, spans_length A]
def two (p : Nat × Nat × Nat) : Nat × Nat := (p.1, p.2.1)
structure Runs (κ : KeyKind) (a₀ : Array Keyed) (segs : List (List Keyed)) (rest : List Keyed) (st : SortSt) : Prop where
  kind : kindOf st = oneType'
  failed : failedOf st = none
  perm : (arrOf st).Perm a₀
  arr : (arrOf st).toList = segs.flatten ++ rest
  pend : (pendingOf st).toList.map two = spans 0 segs
  sl : ∀ g ∈ segs, SL κ g ∧ 1 ≤ g.length
theorem Runs.psize {κ : KeyKind} {a₀ : Array Keyed} {segs : List (List Keyed)} {rest : List Keyed} {st : SortSt} (r : Runs κ a₀ segs rest st) : (pendingOf st).size = segs.length := by
  have := congrArg List.length r.pend
  rw [List.length_map, spans_length, Array.length_toList] at this
  exact this
theorem Runs.total {κ : KeyKind} {a₀ : Array Keyed} {segs : List (List Keyed)} {rest : List Keyed} {st : SortSt} (r : Runs κ a₀ segs rest st) : segs.flatten.length + rest.length = a₀.size := by
  have := congrArg List.length r.arr
  rw [List.length_append, Array.length_toList, r.perm.size_eq] at this
  exact this.symm
theorem flat_ge : ∀ {segs : List (List Keyed)}, (∀ g ∈ segs, 1 ≤ g.length) → segs.length ≤ segs.flatten.length
  | [], _ => Nat.le_refl _
  | g :: gs, h => by
    have a := h g List.mem_cons_self
    have b := flat_ge (segs := gs) fun q hq => h q (List.mem_cons_of_mem _ hq)
    rw [List.flatten_cons, List.length_append, List.length_cons]
    (first | lia | omega)
theorem split_two : ∀ {segs : List (List Keyed)} {i : Nat}, i + 1 < segs.length → ∃ S1 X Y S2, segs = S1 ++ (X :: Y :: S2) ∧ S1.length = i
  | [], i, h => absurd h (by simp)
  | [g], i, h => absurd h (by simp)
  | g :: g' :: gs, 0, h => ⟨[], g, g', gs, rfl, rfl⟩
  | g :: g' :: gs, i + 1, h => by
    obtain ⟨S1, X, Y, S2, e, l⟩ := split_two (segs := g' :: gs) (i := i) (by simpa using h)
    exact ⟨g :: S1, X, Y, S2, by rw [e]; rfl, by simp [l]⟩
theorem map_erase {α β : Type} (f : α → β) : ∀ (l : List α) (n : Nat), (l.eraseIdx n).map f = (l.map f).eraseIdx n
  | [], n => by simp
  | x :: l, 0 => by simp
  | x :: l, n + 1 => by
    rw [List.eraseIdx_cons_succ, List.map_cons, List.map_cons, List.eraseIdx_cons_succ, map_erase f l n]
theorem Runs.after {κ : KeyKind} {a₀ : Array Keyed} {segs : List (List Keyed)} {rest : List Keyed} {st st' : SortSt} (r : Runs κ a₀ segs rest st) (R : Rl segs.flatten.length st st') : Runs κ a₀ segs ((arrOf st').toList.drop segs.flatten.length) st' := by
  refine ⟨R.kind, R.failed, R.perm.trans r.perm, ?_, by rw [R.pend]; exact r.pend, r.sl⟩
  have e : (arrOf st').toList.take segs.flatten.length = segs.flatten := by
    have e1 : (arrOf st).toList.take segs.flatten.length = segs.flatten := by rw [r.arr, List.take_left]
    rw [← e1]
    refine List.ext_getElem? fun i => ?_
    have hlen : (List.take segs.flatten.length (arrOf st).toList).length = segs.flatten.length := by
      rw [e1]
    rw [hlen]
    by_cases hi : i < segs.flatten.length
    · rw [List.getElem?_take_of_lt hi, List.getElem?_take_of_lt hi, Array.getElem?_toList, Array.getElem?_toList]
      exact R.pre i hi
    · rw [List.getElem?_take_eq_none (by (first | lia | omega)), List.getElem?_take_eq_none (by (first | lia | omega))]
  have := (List.take_append_drop segs.flatten.length (arrOf st').toList).symm
  rwa [e] at this
theorem UpK.sl {κ : KeyKind} {xs : Array Keyed} {lo n : Nat} (h : UpK κ xs lo n) : SL κ ((xs.toList.drop lo).take n) := by
  refine List.pairwise_iff_getElem.mpr fun i j hi hj hij => ?_
  have hj' : j < n ∧ j < xs.size - lo := by
    rw [List.length_take, List.length_drop, Array.length_toList] at hj
    (first | lia | omega)
  have q := h i j (Nat.le_of_lt hij) hj'.1
  rw [KK_of (p := xs[lo + i]) (getElem?_pos xs (lo + i) (by (first | lia | omega))), KK_of (p := xs[lo + j]) (getElem?_pos xs (lo + j) (by (first | lia | omega)))] at q
  rw [List.getElem_take, List.getElem_drop, List.getElem_take, List.getElem_drop]
  exact q
theorem ite_lt {c : Prop} [Decidable c] {a b n : Nat} (h1 : a + 1 < n) (h2 : b + 1 < n) : (if c then a else b) + 1 < n := by
  split <;> assumption
theorem map_mod (f : Nat × Nat × Nat → Nat × Nat × Nat) (hf : ∀ x, two (f x) = two x) (p : Array (Nat × Nat × Nat)) (i : Nat) : (p.modify i f).toList.map two = p.toList.map two := by
  refine List.ext_getElem? fun j => ?_
  rw [List.getElem?_map, List.getElem?_map, Array.getElem?_toList, Array.getElem?_toList, Array.getElem?_modify]
  cases p[j]? with
  | none => split <;> rfl
  | some v =>
    split
    · show some (two (f v)) = some (two v)
      rw [hf]
    · rfl
section
variable {prog : Program} {w : World} {A : Around} {E : Value → Shared → Prop} {s : Shared} {κ : KeyKind}
theorem wpS_mergeRuns (hO : κ.OneLt) {a₀ : Array Keyed} {segs : List (List Keyed)} {rest : List Keyed} {i : Nat} {st : SortSt} {Q : Bool → SortSt → Prop} (va : ∀ p ∈ a₀.toList, Va κ p) (r : Runs κ a₀ segs rest st) (hi : i + 1 < segs.length)
    (h : ∀ segs' st', Runs κ a₀ segs' rest st' → segs'.length + 1 = segs.length → segs'.flatten.length = segs.flatten.length → Q true st') : wpS (model prog w) A E s (mergeAt' i) Q st := by
  obtain ⟨S1, X, Y, S2, rfl, l1⟩ := split_two hi
  have pe := r.pend
  rw [spans_append] at pe
  simp only [spans, Nat.zero_add] at pe
  have l1' : (spans 0 S1).length = i := by rw [spans_length]; exact l1
  have at1 : ((pendingOf st).toList.map two)[i]? = some (S1.flatten.length, X.length) := by
    rw [pe, List.getElem?_append_right (by (first | lia | omega)), l1', Nat.sub_self]
    rfl
  have at2 : ((pendingOf st).toList.map two)[i + 1]? = some (S1.flatten.length + X.length, Y.length) := by
    rw [pe, List.getElem?_append_right (by (first | lia | omega)), l1', show i + 1 - i = 1 by (first | lia | omega)]
    rfl
  have get : ∀ {k a b : Nat}, ((pendingOf st).toList.map two)[k]? = some (a, b) → ∃ c, (pendingOf st)[k]? = some (a, b, c) := fun {k a b} e => by
    rw [List.getElem?_map, Array.getElem?_toList] at e
    cases q : (pendingOf st)[k]? with
    | none => rw [q] at e; cases e
    | some v =>
      rw [q] at e
      obtain ⟨x, y, z⟩ := v
      have e' : (x, y) = (a, b) := Option.some.inj e
      cases e'
      exact ⟨z, rfl⟩
  obtain ⟨pw, hp1⟩ := get at1
  obtain ⟨pw2, hp2⟩ := get at2
  have ea : (arrOf st).toList = S1.flatten ++ (X ++ (Y ++ (S2.flatten ++ rest))) := by
    rw [r.arr]
    simp [List.append_assoc]
  have vall : ∀ p ∈ (arrOf st).toList, Va κ p := fun p hp => va p ((Array.perm_iff_toList_perm.mp r.perm).mem_iff.mp hp)
  have sX := r.sl X (by simp)
  have sY := r.sl Y (by simp)
  refine wpS_mergeAt hO r.kind r.failed hp1 hp2 ea (fun p hp => vall p (by rw [ea]; simp [hp])) (fun p hp => vall p (by rw [ea]; simp [hp])) sX.1 sY.1 sX.2 sY.2 fun M st' pM sM k' f' a' p' => ?_
  have lM : M.length = X.length + Y.length := by rw [pM.length_eq, List.length_append]
  refine h (S1 ++ M :: S2) st' ⟨k', f', ?_, ?_, ?_, fun g hg => ?_⟩ (by simp only [List.length_append, List.length_cons]; (first | lia | omega)) (by simp only [List.flatten_append, List.flatten_cons, List.length_append]; (first | lia | omega))
  · refine Array.Perm.trans (Array.perm_iff_toList_perm.mpr ?_) r.perm
    rw [a', ea]
    refine List.Perm.append_left _ ?_
    rw [← List.append_assoc X]
    exact List.Perm.append_right _ pM
  · rw [a']
    simp [List.append_assoc]
  · rw [p', Array.toList_eraseIdxIfInBounds, Array.toList_setIfInBounds, spans_append]
    simp only [spans, Nat.zero_add]
    rw [map_erase, List.map_set, pe]
    rw [show two (S1.flatten.length, X.length + Y.length, pw) = (S1.flatten.length, X.length + Y.length) from rfl]
    rw [List.set_append_right _ _ (by (first | lia | omega)), l1', Nat.sub_self, List.set_cons_zero, List.eraseIdx_append_of_length_le (by (first | lia | omega)), l1', show i + 1 - i = 1 by (first | lia | omega)]
    simp only [List.eraseIdx_cons_succ, List.eraseIdx_cons_zero]
    rw [lM, Nat.add_assoc]
  · rcases List.mem_append.mp hg with hg | hg
    · exact r.sl g (by simp [hg])
    · rcases List.mem_cons.mp hg with hg | hg
      · rw [hg]; exact ⟨sM, by (first | lia | omega)⟩
      · exact r.sl g (by simp [hg])
theorem wpS_sortAll (hO : κ.OneLt) {a₀ : Array Keyed} {st : SortSt} {Q : Unit → SortSt → Prop} (va : ∀ p ∈ a₀.toList, Va κ p) (hk : kindOf st = oneType') (hf : failedOf st = none) (hp : (arrOf st).Perm a₀) (hpe : pendingOf st = #[])
    (h : ∀ st', (arrOf st').Perm a₀ → failedOf st' = none → SL κ (arrOf st').toList → Q () st') : wpS (model prog w) A E s sortRuns' Q st := by
  have hN : (arrOf st).size = a₀.size := hp.size_eq
  have none_left : ∀ {segs : List (List Keyed)} {rest : List Keyed} {st' : SortSt}, Runs κ a₀ segs rest st' → (arrOf st).size ≤ segs.flatten.length → Runs κ a₀ segs [] st' := fun {segs rest st'} r hl => by
    have t := r.total
    have e : rest = [] := List.length_eq_zero_iff.mp (by (first | lia | omega))
    rw [← e]
    exact r
  refine wpS_bind (wpS_get ?_)
  refine wpS_bind (wpS_mono (wpS_forRange (a := 0) (b := (arrOf st).size) (I := fun x c st' => ∃ segs rest, c = (none, segs.flatten.length) ∧ Runs κ a₀ segs rest st' ∧ x ≤ segs.flatten.length)
    (Q := fun c st' => ∃ segs lo, c = (none, lo) ∧ Runs κ a₀ segs [] st') ?_ ?_ ⟨[], (arrOf st).toList, rfl, ⟨hk, hf, hp, rfl, by rw [hpe]; rfl, fun g hg => nomatch hg⟩, Nat.le_refl _⟩) ?_)
  · rintro x c st1 _ hx ⟨segs, rest, rfl, r, hxl⟩
    by_cases hge : segs.flatten.length ≥ (arrOf st).size
    · refine ifp hge ?_
      exact wpS_pure ⟨segs, _, rfl, none_left r hge⟩
    refine ifn hge ?_
    have hN1 : (arrOf st1).size = a₀.size := r.perm.size_eq
    have vall : ∀ p ∈ (arrOf st1).toList, Va κ p := fun p hp => va p ((Array.perm_iff_toList_perm.mp r.perm).mem_iff.mp hp)
    refine wpS_bind (wpS_count (lo := segs.flatten.length) (nrem := (arrOf st).size - segs.flatten.length) hO r.kind r.failed vall (by (first | lia | omega)) (by (first | lia | omega)) fun m st2 R2 m1 m2 u2 => ?_)
    have r2 := r.after R2
    have t2 := r2.total
    refine ifs (fun hlt => ?_) (fun hlt => ?_)
    · refine wpS_bind (wpS_lift (wpAny_rule ⟨rfl, ?_⟩))
      have fo1 : m ≤ min ((arrOf st).size - segs.flatten.length) (minRun' (arrOf st).size (arrOf st).size 0) := by
        have hlt' : m < minRun' (arrOf st).size (arrOf st).size 0 := hlt
        (first | lia | omega)
      have fo2 : min ((arrOf st).size - segs.flatten.length) (minRun' (arrOf st).size (arrOf st).size 0) ≤ (arrOf st).size - segs.flatten.length := Nat.min_le_left _ _
      refine wpS_bind (wpS_binary (lo := segs.flatten.length) (n := min ((arrOf st).size - segs.flatten.length) (minRun' (arrOf st).size (arrOf st).size 0)) (ok := m) hO R2 vall (by (first | lia | omega)) m1 fo1 u2 fun st3 R3 u3 => ?_)
      refine ifn (by simp) ?_
      have r3 := r.after R3
      have t3 := r3.total
      have sN := u3.sl
      generalize (arrOf st3).toList.drop segs.flatten.length = rest3 at r3 sN t3
      have push : ∀ (segs' : List (List Keyed)) (st4 : SortSt), Runs κ a₀ segs' rest3 st4 → segs'.flatten.length = segs.flatten.length → ∃ segs5 rest5, ((none, segs.flatten.length + min ((arrOf st).size - segs.flatten.length) (minRun' (arrOf st).size (arrOf st).size 0)) : Option Unit × Nat) = (none, segs5.flatten.length) ∧ Runs κ a₀ segs5 rest5 (setPending st4 ((pendingOf st4).push (segs.flatten.length, min ((arrOf st).size - segs.flatten.length) (minRun' (arrOf st).size (arrOf st).size 0), 0))) ∧ x + 1 ≤ segs5.flatten.length := fun segs' st4 r4 e4 => by
        have lN : (rest3.take (min ((arrOf st).size - segs.flatten.length) (minRun' (arrOf st).size (arrOf st).size 0))).length = min ((arrOf st).size - segs.flatten.length) (minRun' (arrOf st).size (arrOf st).size 0) := by rw [List.length_take]; (first | lia | omega)
        have lf : (segs' ++ [rest3.take (min ((arrOf st).size - segs.flatten.length) (minRun' (arrOf st).size (arrOf st).size 0))]).flatten.length = segs.flatten.length + min ((arrOf st).size - segs.flatten.length) (minRun' (arrOf st).size (arrOf st).size 0) := by
          rw [List.flatten_append, List.length_append, List.flatten_singleton, lN, e4]
        refine ⟨segs' ++ [rest3.take (min ((arrOf st).size - segs.flatten.length) (minRun' (arrOf st).size (arrOf st).size 0))], rest3.drop (min ((arrOf st).size - segs.flatten.length) (minRun' (arrOf st).size (arrOf st).size 0)), by rw [lf], ⟨r4.kind, r4.failed, r4.perm, ?_, ?_, fun g hg => ?_⟩, by rw [lf]; (first | lia | omega)⟩
        · show (arrOf st4).toList = _
          rw [r4.arr, List.flatten_append, List.flatten_singleton, List.append_assoc, List.take_append_drop]
        · show ((pendingOf st4).push (segs.flatten.length, min ((arrOf st).size - segs.flatten.length) (minRun' (arrOf st).size (arrOf st).size 0), 0)).toList.map two = _
          rw [Array.toList_push, List.map_append, r4.pend, spans_append, e4]
          simp only [spans, Nat.zero_add, lN]
          rfl
        · rcases List.mem_append.mp hg with hg | hg
          · exact r4.sl g hg
          · rw [List.mem_singleton.mp hg]
            exact ⟨sN, by (first | lia | omega)⟩
      refine wpS_bind (wpS_get ?_)
      cases hb : (pendingOf st3).back? with
      | none => exact wpS_bind (wpS_modify (wpS_pure (push segs st3 r3 rfl)))
      | some v =>
        obtain ⟨s1, n1, p0⟩ := v
        refine wpS_bind (wpS_mono (wpS_forRange (a := 0) (b := (arrOf st).size) (I := fun y c st4 => c = (none, ()) ∧ ∃ segs', Runs κ a₀ segs' rest3 st4 ∧ segs'.flatten.length = segs.flatten.length) (Q := fun c st4 => c = (none, ()) ∧ ∃ segs', Runs κ a₀ segs' rest3 st4 ∧ segs'.flatten.length = segs.flatten.length) ?_ (fun _ _ h => h) ⟨rfl, segs, r3, rfl⟩) ?_)
        · rintro y c st4 _ hy ⟨rfl, segs', r4, e4⟩
          refine wpS_bind (wpS_get ?_)
          have ps := r4.psize
          by_cases hsz : (pendingOf st4).size > 1
          · obtain ⟨v, hv⟩ : ∃ v, (pendingOf st4)[(pendingOf st4).size - 2]? = some v := ⟨_, getElem?_pos _ _ (by (first | lia | omega))⟩
            obtain ⟨q1, q2, q3⟩ := v
            have em : (if (pendingOf st4).size > 1 then (pendingOf st4)[(pendingOf st4).size - 2]? else none) = some (q1, q2, q3) := by rw [if_pos hsz, hv]
            dsimp only
            rw [em]
            refine ifs (fun ho => wpS_pure ⟨rfl, segs', r4, e4⟩) (fun ho => ?_)
            refine wpS_bind (wpS_mergeRuns (i := (pendingOf st4).size - 2) hO va r4 (by (first | lia | omega)) fun segs5 st5 r5 l5 e5 => ?_)
            exact ifn (by simp) (wpS_pure ⟨rfl, segs5, r5, by (first | lia | omega)⟩)
          · have em : (if (pendingOf st4).size > 1 then (pendingOf st4)[(pendingOf st4).size - 2]? else none) = none := if_neg hsz
            dsimp only
            rw [em]
            exact wpS_pure ⟨rfl, segs', r4, e4⟩
        · rintro c st4 ⟨rfl, segs', r4, e4⟩
          refine wpS_bind (wpS_modify (wpS_bind (wpS_modify (wpS_pure (push segs' _ ⟨r4.kind, r4.failed, r4.perm, r4.arr, ?_, r4.sl⟩ e4)))))
          refine (map_mod _ ?_ _ _).trans r4.pend
          intro z
          rfl
    · have sN := u2.sl
      have r3 := r2
      have t3 := t2
      generalize (arrOf st2).toList.drop segs.flatten.length = rest3 at r3 sN t3
      have push : ∀ (segs' : List (List Keyed)) (st4 : SortSt), Runs κ a₀ segs' rest3 st4 → segs'.flatten.length = segs.flatten.length → ∃ segs5 rest5, ((none, segs.flatten.length + m) : Option Unit × Nat) = (none, segs5.flatten.length) ∧ Runs κ a₀ segs5 rest5 (setPending st4 ((pendingOf st4).push (segs.flatten.length, m, 0))) ∧ x + 1 ≤ segs5.flatten.length := fun segs' st4 r4 e4 => by
        have lN : (rest3.take (m)).length = m := by rw [List.length_take]; (first | lia | omega)
        have lf : (segs' ++ [rest3.take (m)]).flatten.length = segs.flatten.length + m := by
          rw [List.flatten_append, List.length_append, List.flatten_singleton, lN, e4]
        refine ⟨segs' ++ [rest3.take (m)], rest3.drop (m), by rw [lf], ⟨r4.kind, r4.failed, r4.perm, ?_, ?_, fun g hg => ?_⟩, by rw [lf]; (first | lia | omega)⟩
        · show (arrOf st4).toList = _
          rw [r4.arr, List.flatten_append, List.flatten_singleton, List.append_assoc, List.take_append_drop]
        · show ((pendingOf st4).push (segs.flatten.length, m, 0)).toList.map two = _
          rw [Array.toList_push, List.map_append, r4.pend, spans_append, e4]
          simp only [spans, Nat.zero_add, lN]
          rfl
        · rcases List.mem_append.mp hg with hg | hg
          · exact r4.sl g hg
          · rw [List.mem_singleton.mp hg]
            exact ⟨sN, by (first | lia | omega)⟩
      refine wpS_bind (wpS_get ?_)
      cases hb : (pendingOf st2).back? with
      | none => exact wpS_bind (wpS_modify (wpS_pure (push segs st2 r3 rfl)))
      | some v =>
        obtain ⟨s1, n1, p0⟩ := v
        refine wpS_bind (wpS_mono (wpS_forRange (a := 0) (b := (arrOf st).size) (I := fun y c st4 => c = (none, ()) ∧ ∃ segs', Runs κ a₀ segs' rest3 st4 ∧ segs'.flatten.length = segs.flatten.length) (Q := fun c st4 => c = (none, ()) ∧ ∃ segs', Runs κ a₀ segs' rest3 st4 ∧ segs'.flatten.length = segs.flatten.length) ?_ (fun _ _ h => h) ⟨rfl, segs, r3, rfl⟩) ?_)
        · rintro y c st4 _ hy ⟨rfl, segs', r4, e4⟩
          refine wpS_bind (wpS_get ?_)
          have ps := r4.psize
          by_cases hsz : (pendingOf st4).size > 1
          · obtain ⟨v, hv⟩ : ∃ v, (pendingOf st4)[(pendingOf st4).size - 2]? = some v := ⟨_, getElem?_pos _ _ (by (first | lia | omega))⟩
            obtain ⟨q1, q2, q3⟩ := v
            have em : (if (pendingOf st4).size > 1 then (pendingOf st4)[(pendingOf st4).size - 2]? else none) = some (q1, q2, q3) := by rw [if_pos hsz, hv]
            dsimp only
            rw [em]
            refine ifs (fun ho => wpS_pure ⟨rfl, segs', r4, e4⟩) (fun ho => ?_)
            refine wpS_bind (wpS_mergeRuns (i := (pendingOf st4).size - 2) hO va r4 (by (first | lia | omega)) fun segs5 st5 r5 l5 e5 => ?_)
            exact ifn (by simp) (wpS_pure ⟨rfl, segs5, r5, by (first | lia | omega)⟩)
          · have em : (if (pendingOf st4).size > 1 then (pendingOf st4)[(pendingOf st4).size - 2]? else none) = none := if_neg hsz
            dsimp only
            rw [em]
            exact wpS_pure ⟨rfl, segs', r4, e4⟩
        · rintro c st4 ⟨rfl, segs', r4, e4⟩
          refine wpS_bind (wpS_modify (wpS_bind (wpS_modify (wpS_pure (push segs' _ ⟨r4.kind, r4.failed, r4.perm, r4.arr, ?_, r4.sl⟩ e4)))))
          refine (map_mod _ ?_ _ _).trans r4.pend
          intro z
          rfl
  · rintro c st1 ⟨segs, rest, rfl, r, hxl⟩
    rw [Nat.max_eq_right (Nat.zero_le _)] at hxl
    exact ⟨segs, _, rfl, none_left r hxl⟩
  · rintro c st1 ⟨segs, lo, rfl, r⟩
    have tt := r.total
    rw [List.length_nil, Nat.add_zero] at tt
    have fg := flat_ge fun g hg => (r.sl g hg).2
    refine wpS_bind (wpS_mono (wpS_forRange (a := 0) (b := (arrOf st).size) (I := fun y c st2 => c = (none, ()) ∧ ∃ segs', Runs κ a₀ segs' [] st2 ∧ (segs'.length + y ≤ a₀.size ∨ segs'.length ≤ 1)) (Q := fun c st2 => c = (none, ()) ∧ ∃ segs', Runs κ a₀ segs' [] st2 ∧ segs'.length ≤ 1) ?_ ?_ ⟨rfl, segs, r, .inl (by (first | lia | omega))⟩) ?_)
    · rintro y c st2 _ hy ⟨rfl, segs', r2, alt⟩
      refine wpS_bind (wpS_get ?_)
      have ps := r2.psize
      by_cases hsz : (pendingOf st2).size ≤ 1
      · refine ifp hsz ?_
        exact wpS_pure ⟨rfl, segs', r2, by (first | lia | omega)⟩
      refine ifn hsz ?_
      refine wpS_bind (wpS_mergeRuns hO va r2 ?_ fun segs5 st5 r5 l5 e5 => ?_)
      · exact ite_lt (show (pendingOf st2).size - 2 - 1 + 1 < _ by (first | lia | omega)) (show (pendingOf st2).size - 2 + 1 < _ by (first | lia | omega))
      · exact ifn (by simp) (wpS_pure ⟨rfl, segs5, r5, .inl (by (first | lia | omega))⟩)
    · rintro c st2 ⟨rfl, segs', r2, alt⟩
      refine ⟨rfl, segs', r2, ?_⟩
      rw [Nat.max_eq_right (Nat.zero_le _)] at alt
      (first | lia | omega)
    · rintro c st2 ⟨rfl, segs', r2, l2⟩
      refine wpS_pure (h st2 r2.perm r2.failed ?_)
      rw [r2.arr, List.append_nil]
      match segs', l2, r2 with
      | [], _, _ => exact List.Pairwise.nil
      | [g], _, r2 => rw [List.flatten_singleton]; exact (r2.sl g List.mem_cons_self).1
end
end TS
set_option Elab.async false
set_option linter.all false
set_option maxHeartbeats 4000000
set_option maxRecDepth 100000
namespace TS
open PySem PyProof.Rows
theorem SL.toK {κ : KeyKind} {xs : Array Keyed} (h : SL κ xs.toList) (n : Nat) (hn : n ≤ xs.size) : SortedToK κ xs n := fun i j hij hj => by
  obtain ⟨p, hp, _⟩ := some_at (x := xs) (i := i) (by (first | lia | omega))
  obtain ⟨q, hq, _⟩ := some_at (x := xs) (i := j) (by (first | lia | omega))
  rw [KK_of hp, KK_of hq]
  exact h.at hij (by rw [Array.getElem?_toList]; exact hp) (by rw [Array.getElem?_toList]; exact hq)
section
variable {prog : Program} {w : World} {A : Around} {E : Value → Shared → Prop} {s : Shared}
theorem sort_big {a : Addr} {vs : List Value} {ss : List Str} {n : Nat} {R : Fin → Shared → Prop} (ho : s.heap.get? a = some (seqObj "list" vs.toArray n)) (hS : StrsAre vs ss) (h2 : 2 ≤ vs.length) (hz : vs.length ≤ sizeLine)
    (h : ∀ (out : Array Value) (ss' : List Str), StrsAre out.toList ss' → ss'.Perm ss → sortedS ss' = true → R (.done (.ret .none)) { s with heap := sortedHeap s.heap a vs out }) :
    wpAny (model prog w) A (Builtin.«list.sort» ⟨[.ref a], []⟩) R E s := by
  have la : a < s.heap.objs.size := Heap.lt_size ho
  have sv : vs.toArray.size = vs.length := List.size_toArray ..
  obtain ⟨e1, he1⟩ : ∃ e, (s.heap.update a (Obj.mapSeq fun _ => #[])).get? a = some (seqObj "list" #[] e) := ⟨_, get?_update_seq ho (fun _ => #[])⟩
  have he2 : (((s.heap.update a (Obj.mapSeq fun _ => #[])).push (seqObj "tuple" vs.toArray 0)).push (seqObj "list" #[] 0)).get? a = some (seqObj "list" #[] e1) := by
    rw [Heap.get?_push_ne _ _ _ (by rw [size_push', Heap.size_update]; exact Nat.ne_of_lt (Nat.lt_of_lt_of_le la (Nat.le_succ _))), Heap.get?_push_ne _ _ _ (by rw [Heap.size_update]; exact Nat.ne_of_lt la)]
    exact he1
  obtain ⟨v1, v2, vr, rfl⟩ : ∃ x y r, vs = x :: y :: r := by
    rcases vs with _ | ⟨x, _ | ⟨y, r⟩⟩
    · simp at h2
    · simp at h2
    · exact ⟨x, y, r, rfl⟩
  rw [list_sort_plain]
  refine wpAny_bind (listItems_at ho rfl (wpAny_bind (listUpdate_at ho rfl ?_ (by rw [sv]; exact hz) (Nat.zero_le _))))
  refine wpAny_bind (seqEpoch_at he1 rfl (wpAny_bind (wpAny_newTuple (wpAny_bind (wpAny_newList (wpAny_holding ?_))))))
  have nb : ¬ (v1 :: v2 :: vr).toArray.size < 2 := by rw [sv]; (first | lia | omega)
  have go : wpAny (model prog w) A (sortRuns'.run (SortSt.mk' oneType' ((v1 :: v2 :: vr).toArray.zip (v1 :: v2 :: vr).toArray) #[] 7 none))
      (fun r s' => s' = { s with heap := ((s.heap.update a (Obj.mapSeq fun _ => #[])).push (seqObj "tuple" (v1 :: v2 :: vr).toArray 0)).push (seqObj "list" #[] 0) } ∧ (arrOf r.2).Perm (pairsOf (v1 :: v2 :: vr)) ∧ failedOf r.2 = none ∧ SL strKind (arrOf r.2).toList) E
      { s with heap := ((s.heap.update a (Obj.mapSeq fun _ => #[])).push (seqObj "tuple" (v1 :: v2 :: vr).toArray 0)).push (seqObj "list" #[] 0) } :=
    wpS_sortAll (κ := strKind) strKind_oneLt (a₀ := pairsOf (v1 :: v2 :: vr)) (Q := fun _ st' => (arrOf st').Perm (pairsOf (v1 :: v2 :: vr)) ∧ failedOf st' = none ∧ SL strKind (arrOf st').toList) (fun p hp => hS.keysOf p hp) rfl rfl (Array.Perm.refl _) rfl fun st' b1 b2 b3 => ⟨b1, b2, b3⟩
  rw [if_neg nb, keyKind_strs hS]
  refine wpAny_bind (wpAny_pure ?_)
  rw [if_neg nb]
  refine wpAny_bind (wpAny_mono go ?_ fun _ _ e => e)
  rintro ⟨⟨⟩, st'⟩ s' ⟨rfl, b1, b2, b3⟩
  have sz : (arrOf st').size = (v1 :: v2 :: vr).length := b1.size_eq.trans (pairsOf_size _)
  obtain ⟨ss', d1, d2, d3⟩ := sorted_out_str hS b1 (b3.toK _ (Nat.le_of_eq b1.size_eq.symm))
  refine wpAny_bind (seqEpoch_at he2 rfl (wpAny_bind (listUpdate_at he2 rfl ?_ (Nat.zero_le _) (by rw [Array.size_map, sz]; (first | lia | omega)))))
  dsimp only
  rw [b2]
  simp only [bne_self_eq_false, Bool.false_eq_true, if_false]
  exact wpAny_pure (h _ ss' d1 d2 d3)
theorem sorted_any {l : Addr} {vs : List Value} {ss : List Str} {Q : Value → Shared → Prop} (hl : s.heap.IsList l vs.toArray) (hS : StrsAre vs ss) (hz : vs.length ≤ sizeLine)
    (h : ∀ (out : Array Value) (ss' : List Str), StrsAre out.toList ss' → ss'.Perm ss → sortedS ss' = true → Q (.ref (s.heap.objs.size + 1)) { s with heap := sortedAll s.heap vs out }) :
    wpAny (model prog w) A (call (.builtin "sorted") [.ref l]) Q E s := by
  by_cases h64 : vs.length < 64
  · exact sorted_strs hl hS h64 h
  refine Calls.call_function_entry kind_sorted plain_sorted entry_sorted (args_sorted1 _) ?_
  have s1 : ((s.heap.push (seqObj "list" #[] 0)).update s.heap.objs.size (Obj.mapSeq (· ++ vs.toArray))).objs.size = s.heap.objs.size + 1 := by
    rw [Heap.size_update, size_push']
  have g1 : (((s.heap.push (seqObj "list" #[] 0)).update s.heap.objs.size (Obj.mapSeq (· ++ vs.toArray))).push (seqObj "list" vs.toArray 0)).get? (s.heap.objs.size + 1) = some (seqObj "list" vs.toArray 0) := by
    rw [← s1]
    exact Heap.get?_push_size _ rfl
  unfold Builtin.«sorted»
  refine wpAny_bind (m := checkCount "sorted" 1 1 _) (wpAny_pure (wpAny_bind (collect_list hl (wpAny_bind (wpAny_newList ?_)) hz)))
  show wpAny _ _ _ _ _ { s with heap := ((s.heap.push (seqObj "list" #[] 0)).update s.heap.objs.size (Obj.mapSeq (· ++ vs.toArray))).push (seqObj "list" vs.toArray 0) }
  rw [s1]
  exact wpAny_bind (wpAny_holding (wpAny_call_entry slot_list_sort ⟨_, g1, rfl⟩ entry_list_sort (sort_big g1 hS (by (first | lia | omega)) hz fun out ss' b1 b2 b3 => ⟨_, rfl, wpAny_pure ⟨_, rfl, h out ss' b1 b2 b3⟩⟩) (args_list_sort _)))
end
end TS
set_option Elab.async false
set_option linter.all false
set_option maxHeartbeats 4000000
set_option maxRecDepth 100000
namespace L2
open PySem PySem.Spec PyProof.Rows
section
variable {X : Cx}
theorem call_sortedA : CallR X (.builtin "sorted") (fun xs H Q => ∃ (p : Addr) (ss : List Str), xs = [.ref p] ∧ SqL X.K H p (ss.map V.str) ∧ ss.length ≤ sizeLine ∧ ∀ (l : Addr) (ss' : List Str), H l = none → ss'.Perm ss → sortedS ss' = true → Q (.ref l) (upd H l (.lst (ss'.map V.str)))) := by
  intro pins s σ H xs us Q I r h
  obtain ⟨p, ss, rfl, hq, hl, q⟩ := h
  obtain ⟨u, rfl, rx⟩ := vals1 r
  cases rx
  obtain ⟨its, rv, pl, hz⟩ := I.list hq
  have hlen := rv.length
  rw [List.length_map] at hlen
  refine TS.sorted_any pl.isList (strsAre_of rv) (by (first | lia | omega)) fun out ss' a1 a2 a3 => ?_
  obtain ⟨e, he⟩ := sortedAll_at s.heap its out
  have hlen' : ss'.length = ss.length := a2.length_eq
  refine ⟨.ref (s.heap.objs.size + 1), _, I.laid (t' := s.toks) (o := .lst (ss'.map V.str)) (fun b o e => sortedAll_old e) (Nat.le_succ _) ⟨?_, out.toList, e, of_strsAre a1, ?_⟩, rfl, q _ ss' (I.hok.fresh (Nat.le_succ _)) a2 a3⟩
  · rw [List.length_map, hlen']
    exact hl
  · simpa using he
end
end L2
set_option Elab.async false
set_option linter.all false
set_option maxHeartbeats 4000000
set_option maxRecDepth 100000
namespace L2
open PySem PySem.Spec PyProof.Rows
section
variable {X : Cx}
end
end L2
set_option Elab.async false
set_option linter.all false
set_option maxHeartbeats 4000000
set_option maxRecDepth 100000
namespace L2
open PySem PySem.Spec PyProof.Rows
section
variable {P : Program} {w : World} {K : PySem.W.Frag} {mg : Str → Option Value} {base : Heap}
end
section
variable {X : Cx}
end
end L2
set_option Elab.async false
set_option linter.all false
set_option maxHeartbeats 4000000
set_option maxRecDepth 100000
namespace L2
open PySem PySem.Spec PyProof.Rows
end L2
set_option Elab.async false
set_option linter.all false
set_option maxHeartbeats 4000000
set_option maxRecDepth 100000
namespace L2
open PySem PySem.Spec PyProof.Rows
section
variable {prog : Program} {w : World} {A : Around} {E : Value → Shared → Prop} {s : Shared}
theorem en_alive {a : Addr} {o : Obj} {Q : Option Obj → Shared → Prop} (h : s.heap.get? a = some o) (q : Q (some o) s) : wpAny (model prog w) A (loadIfAlive a) Q E s := by
  intro Γ p _
  unfold loadIfAlive
  rw [Sem.wp_loadIfAlive, h]
  exact q
end
theorem plain_dul : plainId "dict.update.loop" = true := by decide +kernel
theorem entry_dul : entryFor table "dict.update.loop" = some Builtin.«dict.update.loop» := entryFor_of_tree (by kernel_rfl)
section
variable {prog : Program} {w : World} {A : Around} {R : Result → Shared → Prop}
end
section
variable {prog : Program} {w : World} {A : Around} {E : Value → Shared → Prop} {s : Shared}
end
section
variable {X : Cx}
theorem boot_dictT : bootBuiltins "dict" = some (.type "dict") := by decide +kernel
end
end L2
set_option Elab.async false
set_option linter.all false
set_option maxHeartbeats 4000000
set_option maxRecDepth 100000
namespace L2
open PySem PySem.Spec PyProof.Rows
section
variable {X : Cx}
theorem pe_l0 {pos : Pos} : PE X (.List [] pos) (tLst tNil) := pe_lst pa_nil
def noStar : Expr → Bool
  | .Starred .. => false
  | _ => true
theorem starEach_no (e : Expr) (es : List Expr) (env : Env) (h : noStar e = true) : starEach (e :: es) env = (false, eval e env) :: starEach es env := by
  cases e <;> first | rfl | exact absurd h Bool.false_ne_true
theorem pa_c2 {e : Expr} {es : List Expr} {te : TE} {t : TA} (ha : PE X e te) (hr : PA X es t) (h : noStar e = true) : PA X (e :: es) (tCons te t) := pa_cons ha hr (starEach_no e es _ h)
end
end L2
set_option Elab.async false
set_option linter.all false
set_option maxHeartbeats 400000
set_option maxRecDepth 100000
namespace L2
open PySem PySem.Spec PyProof.Rows
def ZOut (h : Heap) (z TI TO i1 i2 : Addr) : Prop := ∃ (T : Addr) (b : Bool) (oT : Obj), h.get? z = some { cls := .type "zip", dict := none, data := .fields #[rawInt T, .bool b, .bool false, .ref TI, .ref TO], slots := #[] } ∧ h.get? T = some oT ∧ T ≠ z ∧ T ≠ TO ∧ T ≠ i1 ∧ T ≠ i2
section
variable {prog : Program} {w : World} {A : Around} {E : Value → Shared → Prop} {s : Shared}
theorem zp_next_out {z TI TO i1 i2 l1 l2 : Addr} {k1 k2 : Nat} {xs ys : Array Value} {x y : Value} {Q : Option Value → Shared → Prop} (D : ZipApart z TI TO i1 i2 l1 l2)
    (hz : ZOut s.heap z TI TO i1 i2) (hTI : IsPair s.heap TI (.ref i1) (.ref i2))
    (h1 : s.heap.IsListIter i1 l1 k1) (h2 : s.heap.IsListIter i2 l2 k2) (hl1 : s.heap.IsList l1 xs) (hl2 : s.heap.IsList l2 ys) (hx : xs[k1]? = some x) (hy : ys[k2]? = some y)
    (hQ : ∀ h', ZOut h' z TI TO i1 i2 → h'.IsListIter i1 l1 (k1 + 1) → h'.IsListIter i2 l2 (k2 + 1) → IsPair h' s.heap.objs.size x y →
      (∀ c o, c ≠ z → c ≠ TO → c ≠ i1 → c ≠ i2 → s.heap.get? c = some o → h'.get? c = some o) → Q (some (.ref s.heap.objs.size)) { s with heap := h' }) :
    wpAny (model prog w) A (pyNext (.ref z)) Q E s := by
  obtain ⟨T, b, oT, hz, hT0, hTz, hTO, hT1, hT2⟩ := hz
  have hT : s.TypeIs (.ref z) "zip" := ⟨_, hz, rfl⟩
  unfold pyNext
  refine wpAny_bind (wpAny_attempt (wpAny_callSpecial?_slot (name := Str.ofString "__next__") hT F.slot_zip_next (wpAny_call_entry F.slot_zip_next hT F.entry_zip_next ?_ (F.args_zip_next_1 _))))
  show wpAny _ _ (field (.ref z) 2 >>= _) _ _ _
  refine wpAny_bind (wpAny_field hz rfl (x := .bool false) rfl ?_)
  show wpAny _ _ (field (.ref z) 3 >>= _) _ _ _
  refine wpAny_bind (wpAny_field hz rfl (x := .ref TI) rfl (wpAny_bind (wpAny_seqItems hTI rfl ?_)))
  show wpAny _ _ (Builtin.SmallTypes.ownedTupleIsFree (.ref z) >>= _) _ _ _
  refine wpAny_bind ?_
  unfold Builtin.SmallTypes.ownedTupleIsFree
  refine wpAny_bind (wpAny_field hz rfl (x := rawInt T) rfl ?_)
  show wpAny _ _ (loadIfAlive T >>= _) _ _ s
  refine wpAny_bind (en_alive hT0 ?_)
  show wpAny _ _ (field (.ref z) 1 >>= _) _ _ s
  refine wpAny_bind (wpAny_field hz rfl (x := .bool b) rfl ?_)
  cases b
  · show wpAny _ _ (setField (.ref z) 1 (.bool true) >>= _) _ _ s
    refine wpAny_bind (wpAny_setField_rec hz (by simp) fun h₁ hz₁ hs₁ => ?_)
    refine wpAny_pure ?_
    simp only [Bool.false_eq_true, if_false, List.forIn_toArray, List.forIn_cons, List.forIn_nil]
    refine wpAny_bind (wpAny_bind (wpAny_bind (wpAny_holding ?_)))
    show wpAny _ _ (Builtin.SmallTypes.nextOf (.ref i1) >>= _) _ _ _
    refine wpAny_bind (wpAny_nextOf_list_item (h1.extBut hs₁.extBut D.i1z) (hl1.extBut hs₁.extBut D.l1z) hx fun h₂ h1₂ hs₂ => wpAny_pure (wpAny_pure (wpAny_bind (wpAny_bind (wpAny_holding ?_)))))
    show wpAny _ _ (Builtin.SmallTypes.nextOf (.ref i2) >>= _) _ _ _
    refine wpAny_bind (wpAny_nextOf_list_item ((h2.extBut hs₁.extBut D.i2z).extBut hs₂.extBut D.i12.symm) ((hl2.extBut hs₁.extBut D.l2z).extBut hs₂.extBut D.l2i1) hy fun h₃ h2₃ hs₃ => wpAny_pure (wpAny_pure (wpAny_pure ?_)))
    show wpAny _ _ (newTuple [x, y] >>= _) _ _ _
    refine wpAny_bind (wpAny_newTuple (wpAny_pure ⟨_, rfl, wpAny_pure ?_⟩))
    have sz : h₃.objs.size = s.heap.objs.size := by rw [hs₃.1, hs₂.1, hs₁.1]
    have kp : ∀ c o, c ≠ z → c ≠ i1 → c ≠ i2 → s.heap.get? c = some o → h₃.get? c = some o := fun c o a1 a2 a3 e => hs₃.extBut _ _ a3 (hs₂.extBut _ _ a2 (hs₁.extBut _ _ a1 e))
    have fin := hQ (h₃.push { cls := .type "tuple", data := .seq #[x, y] }) ⟨T, true, oT, Heap.get?_push_of_some _ (hs₃.extBut _ _ D.i2z.symm (hs₂.extBut _ _ D.i1z.symm hz₁)), Heap.get?_push_of_some _ (kp T oT hTz hT1 hT2 hT0), hTz, hTO, hT1, hT2⟩
      (by obtain ⟨o, ho, r⟩ := h1₂.extBut hs₃.extBut D.i12; exact ⟨o, Heap.get?_push_of_some _ ho, r⟩) (by obtain ⟨o, ho, r⟩ := h2₃; exact ⟨o, Heap.get?_push_of_some _ ho, r⟩)
      (by show (h₃.push { cls := .type "tuple", data := .seq #[x, y] }).get? s.heap.objs.size = _; rw [← sz]; exact Heap.get?_push_size _ rfl) fun c o a1 _ a3 a4 e => Heap.get?_push_of_some _ (kp c o a1 a3 a4 e)
    rw [← sz] at fin
    exact fin
  · have hs₁ : Heap.SameBut z s.heap s.heap := ⟨rfl, fun _ _ => rfl⟩
    have hz₁ := hz
    refine wpAny_pure ?_
    simp only [Bool.false_eq_true, if_false, List.forIn_toArray, List.forIn_cons, List.forIn_nil]
    refine wpAny_bind (wpAny_bind (wpAny_bind (wpAny_holding ?_)))
    show wpAny _ _ (Builtin.SmallTypes.nextOf (.ref i1) >>= _) _ _ _
    refine wpAny_bind (wpAny_nextOf_list_item (h1.extBut hs₁.extBut D.i1z) (hl1.extBut hs₁.extBut D.l1z) hx fun h₂ h1₂ hs₂ => wpAny_pure (wpAny_pure (wpAny_bind (wpAny_bind (wpAny_holding ?_)))))
    show wpAny _ _ (Builtin.SmallTypes.nextOf (.ref i2) >>= _) _ _ _
    refine wpAny_bind (wpAny_nextOf_list_item ((h2.extBut hs₁.extBut D.i2z).extBut hs₂.extBut D.i12.symm) ((hl2.extBut hs₁.extBut D.l2z).extBut hs₂.extBut D.l2i1) hy fun h₃ h2₃ hs₃ => wpAny_pure (wpAny_pure (wpAny_pure ?_)))
    show wpAny _ _ (newTuple [x, y] >>= _) _ _ _
    refine wpAny_bind (wpAny_newTuple (wpAny_pure ⟨_, rfl, wpAny_pure ?_⟩))
    have sz : h₃.objs.size = s.heap.objs.size := by rw [hs₃.1, hs₂.1, hs₁.1]
    have kp : ∀ c o, c ≠ z → c ≠ i1 → c ≠ i2 → s.heap.get? c = some o → h₃.get? c = some o := fun c o a1 a2 a3 e => hs₃.extBut _ _ a3 (hs₂.extBut _ _ a2 (hs₁.extBut _ _ a1 e))
    have fin := hQ (h₃.push { cls := .type "tuple", data := .seq #[x, y] }) ⟨T, true, oT, Heap.get?_push_of_some _ (hs₃.extBut _ _ D.i2z.symm (hs₂.extBut _ _ D.i1z.symm hz₁)), Heap.get?_push_of_some _ (kp T oT hTz hT1 hT2 hT0), hTz, hTO, hT1, hT2⟩
      (by obtain ⟨o, ho, r⟩ := h1₂.extBut hs₃.extBut D.i12; exact ⟨o, Heap.get?_push_of_some _ ho, r⟩) (by obtain ⟨o, ho, r⟩ := h2₃; exact ⟨o, Heap.get?_push_of_some _ ho, r⟩)
      (by show (h₃.push { cls := .type "tuple", data := .seq #[x, y] }).get? s.heap.objs.size = _; rw [← sz]; exact Heap.get?_push_size _ rfl) fun c o a1 _ a3 a4 e => Heap.get?_push_of_some _ (kp c o a1 a3 a4 e)
    rw [← sz] at fin
    exact fin
theorem zp_end_out {z TI TO i1 i2 l1 l2 : Addr} {k1 k2 : Nat} {xs ys : Array Value} {Q : Option Value → Shared → Prop} (hh : A.handled = none) (D : ZipApart z TI TO i1 i2 l1 l2)
    (hz : ZOut s.heap z TI TO i1 i2) (hTI : IsPair s.heap TI (.ref i1) (.ref i2)) (h1 : s.heap.IsListIter i1 l1 k1) (hl1 : s.heap.IsList l1 xs) (hend : xs[k1]? = none)
    (hQ : ∀ h', (∀ c o, c ≠ z → c ≠ TO → c ≠ i1 → c ≠ i2 → s.heap.get? c = some o → h'.get? c = some o) → Q none { s with heap := h' }) : wpAny (model prog w) A (pyNext (.ref z)) Q E s := by
  obtain ⟨T, b, oT, hz, hT0, hTz, hTO, hT1, hT2⟩ := hz
  have hT : s.TypeIs (.ref z) "zip" := ⟨_, hz, rfl⟩
  unfold pyNext
  refine wpAny_bind (wpAny_attempt (wpAny_callSpecial?_slot (name := Str.ofString "__next__") hT F.slot_zip_next (wpAny_call_entry F.slot_zip_next hT F.entry_zip_next ?_ (F.args_zip_next_1 _))))
  show wpAny _ _ (field (.ref z) 2 >>= _) _ _ _
  refine wpAny_bind (wpAny_field hz rfl (x := .bool false) rfl ?_)
  show wpAny _ _ (field (.ref z) 3 >>= _) _ _ _
  refine wpAny_bind (wpAny_field hz rfl (x := .ref TI) rfl (wpAny_bind (wpAny_seqItems hTI rfl ?_)))
  show wpAny _ _ (Builtin.SmallTypes.ownedTupleIsFree (.ref z) >>= _) _ _ _
  refine wpAny_bind ?_
  unfold Builtin.SmallTypes.ownedTupleIsFree
  refine wpAny_bind (wpAny_field hz rfl (x := rawInt T) rfl ?_)
  show wpAny _ _ (loadIfAlive T >>= _) _ _ s
  refine wpAny_bind (en_alive hT0 ?_)
  show wpAny _ _ (field (.ref z) 1 >>= _) _ _ s
  refine wpAny_bind (wpAny_field hz rfl (x := .bool b) rfl ?_)
  cases b
  · show wpAny _ _ (setField (.ref z) 1 (.bool true) >>= _) _ _ s
    refine wpAny_bind (wpAny_setField_rec hz (by simp) fun h₁ hz₁ hs₁ => ?_)
    refine wpAny_pure ?_
    simp only [Bool.false_eq_true, if_false, List.forIn_toArray, List.forIn_cons, List.forIn_nil]
    refine wpAny_bind (wpAny_bind (wpAny_bind (wpAny_holding ?_)))
    show wpAny _ _ (Builtin.SmallTypes.nextOf (.ref i1) >>= _) _ _ _
    refine wpAny_bind (wpAny_nextOf_list_end (by simp [hh]) (h1.extBut hs₁.extBut D.i1z) (hl1.extBut hs₁.extBut D.l1z) hend fun h₂ e hs₂ he => ?_)
    obtain ⟨o, ho, hc⟩ := he
    exact wpAny_bind (wpAny_isInstance (T := "StopIteration") (b := true) ⟨o, ho, hc⟩ isSubtype_stop (wpAny_pure (hQ _ fun c o a1 _ a3 _ x => hs₂ _ _ a3 (hs₁.extBut _ _ a1 x))))
  · refine wpAny_pure ?_
    simp only [Bool.false_eq_true, if_false, List.forIn_toArray, List.forIn_cons, List.forIn_nil]
    refine wpAny_bind (wpAny_bind (wpAny_bind (wpAny_holding ?_)))
    show wpAny _ _ (Builtin.SmallTypes.nextOf (.ref i1) >>= _) _ _ _
    refine wpAny_bind (wpAny_nextOf_list_end (by simp [hh]) h1 hl1 hend fun h₂ e hs₂ he => ?_)
    obtain ⟨o, ho, hc⟩ := he
    exact wpAny_bind (wpAny_isInstance (T := "StopIteration") (b := true) ⟨o, ho, hc⟩ isSubtype_stop (wpAny_pure (hQ _ fun c o a1 _ a3 _ x => hs₂ _ _ a3 x)))
end
end L2
set_option Elab.async false
set_option linter.all false
set_option maxHeartbeats 4000000
set_option maxRecDepth 100000
namespace L2
open PySem PySem.Spec PyProof.Rows
theorem zp_noGet : typeLookup (.type "zip") "__getattr__" = pure none := by rw [typeLookup_type, builtinLookup_eq_fast]; kernel_rfl
theorem zp_noKeys : typeLookup (.type "zip") "keys" = pure none := by rw [typeLookup_type, builtinLookup_eq_fast]; kernel_rfl
theorem zp_ent : entryFor table "zip.__getattribute__" = some Builtin.«object.__getattribute__» := entryFor_alias (id' := "object.__getattribute__") (by kernel_rfl) (by decide +kernel) (by decide +kernel) (by kernel_rfl)
theorem zp_miss (a : Addr) (fs : Array Value) (u : Tok) :
    Meets (Builtin.«object.__getattribute__» ⟨[.ref a, .str "keys" u], []⟩) (fun A R s => s.heap.get? a = some { cls := .type "zip", dict := none, data := .fields fs, slots := #[] } ∧ raisesAttr (.ref a) "keys" A R s) :=
  Meets.of_wp fun prog w A R s hs => by
    obtain ⟨hp, g, d, tk, os⟩ := s
    obtain ⟨hx, hs⟩ := hs
    have hT : (⟨hp, g, d, tk, os⟩ : Shared).TypeIs (.ref a) "zip" := ⟨_, hx, rfl⟩
    have hmiss := zp_noKeys
    unfold Builtin.«object.__getattribute__»
    repeat (any_goals (first | done | assumption | wp_step))
    exact wpAny_raiseAttrError hs.1 hs.2 (attrMsg_fits (by decide +kernel) (by decide +kernel))
theorem zp_getAttr {P : Program} {w : World} {A : Around} {E : Value → Shared → Prop} {s : Shared} {a : Addr} {fs : Array Value} {Q : Option Value → Shared → Prop}
    (hx : s.heap.get? a = some { cls := .type "zip", dict := none, data := .fields fs, slots := #[] }) (hA : A.handled = none)
    (h : ∀ h' tk, (∀ b o, s.heap.get? b = some o → h'.get? b = some o) → Q none { s with heap := h', toks := tk }) : wpAny (model P w) A (getAttr? (.ref a) "keys") Q E s := by
  obtain ⟨hp, g, d, tk, os⟩ := s
  have hT : ∀ tk', (⟨hp, g, d, tk', os⟩ : Shared).TypeIs (.ref a) "zip" := fun _ => ⟨_, hx, rfl⟩
  have f1 := sub_AttributeError
  have f3 := F.slot_zip_getattribute.lookup
  have f4 := F.slot_zip_getattribute.bind (.ref a)
  have f5 := zp_noGet
  unfold getAttr? getAttrBy? getAttrBy
  repeat (any_goals (first | assumption | exact hT _ | ((with_reducible show wpAny _ _ (call (Value.builtin "zip.__getattribute__") _ _) _ _ _); refine call_meets F.slot_zip_getattribute (hT _) zp_ent (F.args_zip_getattribute_2 _ _) (zp_miss a fs _) ⟨hx, hA, fun h' tk' e hx' => ?_⟩) | wp_step))
  obtain ⟨t', u', he⟩ := hx'.there
  show wpAny _ _ (getattributeRaised _ _ _ _ _ _ _) _ _ _
  unfold getattributeRaised
  repeat (any_goals (first | done | assumption | wp_step))
  exact h _ _ hx'.of.keeps
end L2
set_option Elab.async false
set_option linter.all false
set_option maxHeartbeats 1000000
set_option maxRecDepth 100000
namespace L2
open PySem PySem.Spec PyProof.Rows
def prz (ks : List Str) (us : List Value) : List (Key × Value) := (ks.zip us).map fun p => (.inr p.1, p.2)
theorem prz_len (ks : List Str) (us : List Value) : (prz ks us).length ≤ ks.length := by
  unfold prz
  rw [List.length_map, List.length_zip]
  (first | lia | omega)
theorem prz_step {ks : List Str} {us : List Value} {i : Nat} {x : Str} {v : Value} (nd : ks.Nodup) (hx : ks[i]? = some x) (hv : us[i]? = some v) : stored (prz (ks.take i) (us.take i)) (Sum.inr x) v = prz (ks.take (i + 1)) (us.take (i + 1)) := by
  have hi : i < ks.length := (List.getElem?_eq_some_iff.mp hx).1
  have hj : i < us.length := (List.getElem?_eq_some_iff.mp hv).1
  have hn : x ∉ ks.take i := fun q => by
    obtain ⟨j, hj1, e⟩ := List.mem_take_iff_getElem.mp q
    have hx2 := (List.getElem?_eq_some_iff.mp hx).2
    have := (List.getElem_inj nd).mp (e.trans hx2.symm)
    (first | lia | omega)
  have h : (prz (ks.take i) (us.take i)).any (fun kv => decide (kv.1 = (Sum.inr x : Key))) = false := by
    rw [List.any_eq_false]
    intro p hp
    unfold prz at hp
    obtain ⟨q, hq, rfl⟩ := List.mem_map.mp hp
    simp only [decide_eq_true_eq]
    intro z
    have z2 := Sum.inr.inj z
    exact hn (z2 ▸ (List.of_mem_zip hq).1)
  unfold stored
  rw [if_neg (by rw [h]; exact Bool.false_ne_true)]
  unfold prz
  rw [List.take_succ, List.take_succ, hx, hv, List.zip_append (by rw [List.length_take, List.length_take]; (first | lia | omega)), List.map_append]
  rfl
def ZAny (h : Heap) (z TI TO i1 i2 : Addr) : Prop := (IsZip h z TI TO .none ∧ ∃ a b, IsPair h TO a b) ∨ ZOut h z TI TO i1 i2
section
variable {prog : Program} {w : World} {A : Around} {E : Value → Shared → Prop} {s : Shared}
theorem zp_next {z TI TO i1 i2 l1 l2 : Addr} {k1 k2 : Nat} {xs ys : Array Value} {x y : Value} {Q : Option Value → Shared → Prop} (D : ZipApart z TI TO i1 i2 l1 l2)
    (hz : ZAny s.heap z TI TO i1 i2) (hTI : IsPair s.heap TI (.ref i1) (.ref i2))
    (h1 : s.heap.IsListIter i1 l1 k1) (h2 : s.heap.IsListIter i2 l2 k2) (hl1 : s.heap.IsList l1 xs) (hl2 : s.heap.IsList l2 ys) (hx : xs[k1]? = some x) (hy : ys[k2]? = some y)
    (hQ : ∀ h', ZOut h' z TI TO i1 i2 → h'.IsListIter i1 l1 (k1 + 1) → h'.IsListIter i2 l2 (k2 + 1) → IsPair h' s.heap.objs.size x y →
      (∀ c o, c ≠ z → c ≠ TO → c ≠ i1 → c ≠ i2 → s.heap.get? c = some o → h'.get? c = some o) → Q (some (.ref s.heap.objs.size)) { s with heap := h' }) :
    wpAny (model prog w) A (pyNext (.ref z)) Q E s := by
  rcases hz with ⟨hz, a, b, hTO⟩ | hz
  · have e1 : z < s.heap.objs.size := Heap.lt_size hz
    have e2 : TO < s.heap.objs.size := Heap.lt_size hTO
    have e3 : i1 < s.heap.objs.size := by obtain ⟨_, q, _⟩ := h1; exact Heap.lt_size q
    have e4 : i2 < s.heap.objs.size := by obtain ⟨_, q, _⟩ := h2; exact Heap.lt_size q
    exact wpAny_pyNext_zip_item D hz hTI hTO h1 h2 hl1 hl2 hx hy fun h' a1 _ a3 a4 a5 _ a7 => hQ h' ⟨s.heap.objs.size, false, _, a1, a5, Nat.ne_of_gt e1, Nat.ne_of_gt e2, Nat.ne_of_gt e3, Nat.ne_of_gt e4⟩ a3 a4 a5 a7
  · exact zp_next_out D hz hTI h1 h2 hl1 hl2 hx hy hQ
theorem zp_end {z TI TO i1 i2 l1 l2 : Addr} {k1 k2 : Nat} {xs ys : Array Value} {Q : Option Value → Shared → Prop} (hh : A.handled = none) (D : ZipApart z TI TO i1 i2 l1 l2)
    (hz : ZAny s.heap z TI TO i1 i2) (hTI : IsPair s.heap TI (.ref i1) (.ref i2)) (h1 : s.heap.IsListIter i1 l1 k1) (h2 : s.heap.IsListIter i2 l2 k2) (hl1 : s.heap.IsList l1 xs) (hl2 : s.heap.IsList l2 ys) (hend : xs[k1]? = none)
    (hQ : ∀ h', (∀ c o, c ≠ z → c ≠ TO → c ≠ i1 → c ≠ i2 → s.heap.get? c = some o → h'.get? c = some o) → Q none { s with heap := h' }) : wpAny (model prog w) A (pyNext (.ref z)) Q E s := by
  rcases hz with ⟨hz, a, b, hTO⟩ | hz
  · exact wpAny_pyNext_zip_end hh D hz hTI hTO h1 h2 hl1 hl2 (.inl hend) hQ
  · exact zp_end_out (k2 := k2) (ys := ys) hh D hz hTI h1 hl1 hend hQ
end
section
variable {prog : Program} {w : World} {A : Around} {R : Result → Shared → Prop}
theorem zip_loop {D z TI TO i1 i2 l1 l2 : Addr} {xs ys : Array Value} {ks : List Str} (hh : A.handled = none) (Z : ZipApart z TI TO i1 i2 l1 l2) (hD : D ≠ z ∧ D ≠ TO ∧ D ≠ i1 ∧ D ≠ i2 ∧ D ≠ TI ∧ D ≠ l1 ∧ D ≠ l2) (hsz : xs.size = ys.size) (hxs : ∀ (i : Nat) (v : Value), xs[i]? = some v → ∃ (x : Str) (t : Tok), v = Value.str x t ∧ ks[i]? = some x) (hkl : ks.length = xs.size) (nd : ks.Nodup) (hz : xs.size ≤ sizeLine) :
    ∀ (k i : Nat) (s : Shared) (tk : Tok), xs.size - i = k → i ≤ xs.size → ZAny s.heap z TI TO i1 i2 → IsPair s.heap TI (.ref i1) (.ref i2) → s.heap.IsListIter i1 l1 i → s.heap.IsListIter i2 l2 i → s.heap.IsList l1 xs → s.heap.IsList l2 ys → s.heap.DictOf (mixKind prog w) D (prz (ks.take i) (ys.toList.take i)) →
      (∀ h' tk, h'.DictOf (mixKind prog w) D (prz ks ys.toList) → (∀ b o, b ≠ D → b ≠ z → b ≠ TO → b ≠ i1 → b ≠ i2 → s.heap.get? b = some o → h'.get? b = some o) → R (.ok (.ret .none)) { s with heap := h', toks := tk }) →
      codeAny (model prog w) A (.builtin "dict.update.loop" ⟨[.ref D, .ref z, .int i tk, .none], []⟩) R s := by
  obtain ⟨d1, d2, d3, d4, d5, d6, d7⟩ := hD
  intro k
  induction k with
  | zero =>
    intro i s tk hk hi he hTI h1 h2 hl1 hl2 hd hR
    refine codeAny_builtin entry_dul ?_
    rw [Around.under_plainId plain_dul _]
    show wpAny _ A.in1 (pyNext (.ref z) >>= _) _ _ s
    refine wpAny_bind (zp_end (by simp [hh]) Z he hTI h1 h2 hl1 hl2 (Array.getElem?_eq_none (by (first | lia | omega))) fun h' x => ?_)
    show wpAny _ A.in1 (Builtin.Dict.addKeywords D [] >>= _) _ _ _
    refine wpAny_bind (wpAny_pure (wpAny_pure (hR h' s.toks ?_ fun b o _ b1 b2 b3 b4 q => x b o b1 b2 b3 b4 q)))
    rw [List.take_of_length_le (by (first | lia | omega)), List.take_of_length_le (by rw [Array.length_toList]; (first | lia | omega))] at hd
    obtain ⟨o, es, ep, ho, r⟩ := hd
    exact ⟨o, es, ep, x _ _ d1 d2 d3 d4 ho, r⟩
  | succ k ih =>
    intro i s tk hk hi he hTI h1 h2 hl1 hl2 hd hR
    have hlt : i < xs.size := by (first | lia | omega)
    have hlt2 : i < ys.size := by (first | lia | omega)
    obtain ⟨kx, kt, ek, hkx⟩ := hxs i xs[i] (Array.getElem?_eq_getElem hlt)
    refine codeAny_builtin entry_dul ?_
    rw [Around.under_plainId plain_dul _]
    show wpAny _ A.in1 (pyNext (.ref z) >>= _) _ _ s
    refine wpAny_bind (zp_next Z he hTI h1 h2 hl1 hl2 (Array.getElem?_eq_getElem hlt) (Array.getElem?_eq_getElem hlt2) fun h1' a1 b1 b2 c1 k1 => ?_)
    have hd1 : h1'.DictOf (mixKind prog w) D (prz (ks.take i) (ys.toList.take i)) := by
      obtain ⟨o, es, ep, ho, r⟩ := hd
      exact ⟨o, es, ep, k1 _ _ d1 d2 d3 d4 ho, r⟩
    have hl1' : h1'.IsList l1 xs := by
      obtain ⟨o, ho, r⟩ := hl1
      exact ⟨o, k1 _ _ Z.l1z Z.l1TO Z.l1i1 Z.l1i2 ho, r⟩
    have hl2' : h1'.IsList l2 ys := by
      obtain ⟨o, ho, r⟩ := hl2
      exact ⟨o, k1 _ _ Z.l2z Z.l2TO Z.l2i1 Z.l2i2 ho, r⟩
    have hTI' : IsPair h1' TI (.ref i1) (.ref i2) := k1 _ _ Z.TIz Z.TITO Z.TIi1 Z.TIi2 hTI
    refine wpAny_bind (wpAny_holding (wpAny_bind (wpAny_tryCatch ?_)))
    unfold Builtin.Dict.pairItems
    refine wpAny_bind (wpAny_typeOf (T := "tuple") ⟨_, c1, rfl⟩ ?_)
    rw [if_pos (by decide)]
    refine wpAny_bind (wpAny_seqItems c1 rfl (wpAny_pure ?_))
    rw [ek]
    show wpAny _ _ (holding [.str kx kt, ys[i]] (dictSet D (.str kx kt) ys[i])) _ _ _
    refine wpAny_holding (wpAny_dictSet_pairs (k := Sum.inr kx) (mixKind_str prog w _ _) hd1 (fun h2' dd2 s2 => ?_) (Nat.le_trans (prz_len _ _) (by rw [List.length_take]; (first | lia | omega))))
    have e2 := prz_step (us := ys.toList) (v := ys[i]) nd hkx (by rw [Array.getElem?_toList]; exact Array.getElem?_eq_getElem hlt2)
    have kk : ∀ b o, b ≠ D → h1'.get? b = some o → h2'.get? b = some o := fun b o nb q => (s2.2 b nb).trans q
    have a2 : ZAny h2' z TI TO i1 i2 := by
      obtain ⟨T, b, oT, q, r, z1⟩ := a1
      by_cases hTD : T = D
      · obtain ⟨o, es, ep, ho, _⟩ := dd2
        exact .inr ⟨T, b, o, kk _ _ (Ne.symm d1) q, by rw [hTD]; exact ho, z1⟩
      · exact .inr ⟨T, b, oT, kk _ _ (Ne.symm d1) q, kk _ _ hTD r, z1⟩
    refine wpAny_pure ⟨plainId_quiet plain_dul _, ih (i + 1) _ _ (by (first | lia | omega)) hlt a2 (kk _ _ (Ne.symm d5) hTI') ?_ ?_ ?_ ?_ (by rw [← e2]; exact dd2) fun h' tk' d' k' => ?_⟩
    · obtain ⟨o, ho, r⟩ := b1
      exact ⟨o, kk _ _ (Ne.symm d3) ho, r⟩
    · obtain ⟨o, ho, r⟩ := b2
      exact ⟨o, kk _ _ (Ne.symm d4) ho, r⟩
    · obtain ⟨o, ho, r⟩ := hl1'
      exact ⟨o, kk _ _ (Ne.symm d6) ho, r⟩
    · obtain ⟨o, ho, r⟩ := hl2'
      exact ⟨o, kk _ _ (Ne.symm d7) ho, r⟩
    · exact hR h' tk' d' fun b o n1 n2 n3 n4 n5 q => k' b o n1 n2 n3 n4 n5 (kk b o n1 (k1 b o n2 n3 n4 n5 q))
end
end L2
set_option Elab.async false
set_option linter.all false
set_option maxHeartbeats 1000000
set_option maxRecDepth 100000
namespace L2
open PySem PySem.Spec PyProof.Rows
section
variable {prog : Program} {w : World} {A : Around} {E : Value → Shared → Prop} {s : Shared}
theorem call_dict_zip {z TI TO i1 i2 l1 l2 : Addr} {xs ys : Array Value} {ks : List Str} {Q : Value → Shared → Prop} (hh : A.handled = none) (Z : ZipApart z TI TO i1 i2 l1 l2) (hz : IsZip s.heap z TI TO .none) (hTI : IsPair s.heap TI (.ref i1) (.ref i2)) (hTO : ∃ a b, IsPair s.heap TO a b)
    (h1 : s.heap.IsListIter i1 l1 0) (h2 : s.heap.IsListIter i2 l2 0) (hl1 : s.heap.IsList l1 xs) (hl2 : s.heap.IsList l2 ys) (hsz : xs.size = ys.size) (hxs : ∀ (i : Nat) (v : Value), xs[i]? = some v → ∃ (x : Str) (t : Tok), v = Value.str x t ∧ ks[i]? = some x) (hkl : ks.length = xs.size) (nd : ks.Nodup) (hle : xs.size ≤ sizeLine)
    (h : ∀ h' tk, h'.DictOf (mixKind prog w) s.heap.objs.size (prz ks ys.toList) → (∀ b o, b ≠ z → b ≠ TO → b ≠ i1 → b ≠ i2 → s.heap.get? b = some o → h'.get? b = some o) → Q (.ref s.heap.objs.size) { s with heap := h', toks := tk }) :
    wpAny (model prog w) A (call (.type "dict") [.ref z]) Q E s := by
  refine callType_codes (Q₁ := fun obj s₁ => obj = .ref s.heap.objs.size ∧ s₁ = { s with heap := s.heap.push { cls := .type "dict", data := .dict #[] } }) F.kt_called_dict (F.kt_typeCall_dict_1 _) F.entry_dict_init (kt_code_dict_new _ ⟨rfl, rfl⟩) ?_
  rintro obj s₁ ⟨rfl, rfl⟩
  have dn : (s.heap.push { cls := .type "dict", data := .dict #[] }).DictOf (mixKind prog w) s.heap.objs.size [] := Heap.DictOf.new s.heap
  have e1 : z < s.heap.objs.size := Heap.lt_size hz
  have e2 : TO < s.heap.objs.size := by obtain ⟨_, _, q⟩ := hTO; exact Heap.lt_size q
  have e3 : i1 < s.heap.objs.size := by obtain ⟨_, q, _⟩ := h1; exact Heap.lt_size q
  have e4 : i2 < s.heap.objs.size := by obtain ⟨_, q, _⟩ := h2; exact Heap.lt_size q
  have e5 : TI < s.heap.objs.size := Heap.lt_size hTI
  have e6 : l1 < s.heap.objs.size := by obtain ⟨_, q, _⟩ := hl1; exact Heap.lt_size q
  have e7 : l2 < s.heap.objs.size := by obtain ⟨_, q, _⟩ := hl2; exact Heap.lt_size q
  have hz' : (s.heap.push { cls := .type "dict", data := .dict #[] }).get? z = _ := Heap.get?_push_of_some _ hz
  refine ⟨dn.typeIs, F.args_dict_init_2 _ _, ?_⟩
  unfold Builtin.«dict.__init__»
  refine wpAny_bind ?_
  unfold Builtin.Dict.selfAndRest
  refine wpAny_bind (wpAny_notOrdered_dict dn.typeIs ?_)
  show wpAny _ _ (pure (s.heap.objs.size, [Value.ref z])) _ _ _
  refine wpAny_pure ?_
  show wpAny _ _ (Builtin.Dict.updateFrom "dict.__init__" s.heap.objs.size (.ref z) [] .none) _ _ _
  unfold Builtin.Dict.updateFrom
  refine wpAny_bind (wpAny_typeOf (T := "zip") ⟨_, hz', rfl⟩ ?_)
  rw [if_pos (by decide)]
  refine wpAny_bind (zp_getAttr hz' (by simp [hh]) fun g1 tk k1 => ?_)
  have kp : ∀ b o, s.heap.get? b = some o → g1.get? b = some o := fun b o q => k1 b o (Heap.get?_push_of_some _ q)
  have hz1 : IsZip g1 z TI TO .none := kp _ _ hz
  refine wpAny_bind (wpAny_rule ?_)
  refine wpAny_bind (wpAny_pyIter_zip hz1 ?_)
  refine wpAny_bind (wpAny_pure ?_)
  refine wpAny_pure ⟨plainId_quiet plain_dul _, zip_loop (by simp [hh]) Z ⟨Nat.ne_of_gt e1, Nat.ne_of_gt e2, Nat.ne_of_gt e3, Nat.ne_of_gt e4, Nat.ne_of_gt e5, Nat.ne_of_gt e6, Nat.ne_of_gt e7⟩ hsz hxs hkl nd hle (xs.size - 0) 0 _ _ rfl (Nat.zero_le _) (.inl ⟨hz1, let ⟨a, b, q⟩ := hTO; ⟨a, b, kp _ _ q⟩⟩) (kp _ _ hTI) ?_ ?_ ?_ ?_ ?_ fun h' tk' d' k' => ?_⟩
  · obtain ⟨o, ho, r⟩ := h1
    exact ⟨o, kp _ _ ho, r⟩
  · obtain ⟨o, ho, r⟩ := h2
    exact ⟨o, kp _ _ ho, r⟩
  · obtain ⟨o, ho, r⟩ := hl1
    exact ⟨o, kp _ _ ho, r⟩
  · obtain ⟨o, ho, r⟩ := hl2
    exact ⟨o, kp _ _ ho, r⟩
  · obtain ⟨o, es, ep, ho, r⟩ := dn
    exact ⟨o, es, ep, k1 _ _ ho, r⟩
  · exact ⟨rfl, h h' tk' d' fun b o n2 n3 n4 n5 q => k' b o (Nat.ne_of_lt (Heap.lt_size q)) n2 n3 n4 n5 (kp b o q)⟩
end
theorem prz_kv : ∀ {ks vs : List Str} {us : List Value}, Vals (vs.map V.str) us → KV ((ks.zip vs).map fun p => ((Sum.inr p.1 : Key), V.str p.2)) (prz ks us)
  | [], _, _, _ => .nil
  | _ :: _, [], _, r => by cases r; exact .nil
  | k :: ks, v :: vs, _, r => by
    cases r with
    | cons a b => exact .cons ⟨rfl, a⟩ (prz_kv b)
theorem zipApart_at {n a b : Nat} (la : a < n) (lb : b < n) : ZipApart (n + 4) (n + 2) (n + 3) n (n + 1) a b := by
  constructor <;> first | exact Nat.ne_of_lt (by (first | lia | omega)) | exact Nat.ne_of_gt (by (first | lia | omega))
def tDictZip (K : PySem.W.Frag) (ta : TA) : TE := fun σ H Q => ta σ H fun xs H1 => ∃ (a b : Addr) (ks vs : List Str), xs = [.ref a, .ref b] ∧ SqL K H1 a (ks.map V.str) ∧ SqL K H1 b (vs.map V.str) ∧ ks.Nodup ∧ ks.length = vs.length ∧
  ∀ d, H1 d = none → Q (.ref d) (upd H1 d (.dK ((ks.zip vs).map fun p => ((Sum.inr p.1 : Key), V.str p.2))))
def tListRange (ta : TA) : TE := fun σ H Q => ta σ H fun xs H1 => ∃ n : Nat, xs = [.int (n : Int)] ∧ n ≤ 1000000 ∧ ∀ l, H1 l = none → Q (.ref l) (upd H1 l (.lst ((List.range n).map fun i => V.int (i : Nat))))
section
variable {X : Cx}
theorem boot_zip : bootBuiltins "zip" = some (.type "zip") := by decide +kernel
theorem boot_listT : bootBuiltins "list" = some (.type "list") := by decide +kernel
theorem pe_dictZip {a b : Expr} {ta : TA} {p p2 pos pos2 : Pos} (hg : Gl X "dict") (hm : X.mg "dict" = none) (hg2 : Gl X "zip") (hm2 : X.mg "zip" = none) (hc : X.calm = true) (ha : PA X [a, b] ta) (hs2 : starEach [a, b] X.env = [(false, eval a X.env), (false, eval b X.env)] := by rfl) (hs3 : starEach [b] X.env = [(false, eval b X.env)] := by rfl)
    (hs : starEach [.Call (.Name "zip" p2) [a, b] [] pos2] X.env = [(false, eval (.Call (.Name "zip" p2) [a, b] [] pos2) X.env)] := by rfl) : PE X (.Call (.Name "dict" p) [.Call (.Name "zip" p2) [a, b] [] pos2] [] pos) (tDictZip X.K ta) := by
  intro pins s σ H Q I h
  refine Call_ (ld_blt I hg hm boot_dictT (PyProof.Rows.callWith_type1 ?_ hs rfl))
  rw [hs]
  show wpAny _ _ (spliced [(false, eval _ X.env)]) _ _ s
  refine Calls.spliced_cons ?_
  refine Call_ (ld_blt I hg2 hm2 boot_zip (PyProof.Rows.callWith_type1 (thn (ha pos2 pins s σ H _ I h) fun us s1 ⟨vs, H1, I1, r1, q1⟩ => ?_) (by rw [hs2, hs3]) (by rw [hs3]; rfl)))
  obtain ⟨a, b, ks, vs', e, hqa, hqb, nd, hl, q⟩ := q1
  subst e
  obtain ⟨u, v, rfl, ru, rv⟩ := vals2 r1
  cases ru
  cases rv
  obtain ⟨its, rv, pl, hz⟩ := I1.list hqa
  obtain ⟨its2, rv2, pl2, hz2⟩ := I1.list hqb
  have la : a < s1.heap.objs.size := by obtain ⟨_, q, _⟩ := pl.isList; exact Heap.lt_size q
  have lb : b < s1.heap.objs.size := by obtain ⟨_, q, _⟩ := pl2.isList; exact Heap.lt_size q
  refine call_zip_2 pl.isList pl2.isList fun h' a1 a2 a3 a4 a5 a6 k => ?_
  have I2 : Inv X pins σ H1 { s1 with heap := h' } := I1.kept (t' := s1.toks) k
  refine Calls.spliced_nil ?_
  have hl1 : h'.IsList a its.toArray := by
    obtain ⟨o, ho, r⟩ := pl.isList
    exact ⟨o, k _ _ ho, r⟩
  have hl2 : h'.IsList b its2.toArray := by
    obtain ⟨o, ho, r⟩ := pl2.isList
    exact ⟨o, k _ _ ho, r⟩
  have n1 := rv.length
  have n2 := rv2.length
  rw [List.length_map] at n1 n2 hz
  have ZA : ZipApart (s1.heap.objs.size + 4) (s1.heap.objs.size + 2) (s1.heap.objs.size + 3) s1.heap.objs.size (s1.heap.objs.size + 1) a b := zipApart_at la lb
  refine call_dict_zip (s := { s1 with heap := h' }) (ks := ks) (I1.ok.hd hc) ZA a1 a2 ⟨_, _, a3⟩ a4 a5 hl1 hl2 (by rw [List.size_toArray, List.size_toArray]; (first | lia | omega)) (fun i v e => ?_) (by rw [List.size_toArray]; (first | lia | omega)) nd (by rw [List.size_toArray]; (first | lia | omega)) fun h2 tk d2 k2 => ?_
  · have e' : its[i]? = some v := by simpa using e
    have hi : i < ks.length := by rw [n1]; exact (List.getElem?_eq_some_iff.mp e').1
    obtain ⟨u, hu, ru⟩ := rv.get (i := i) (x := V.str ks[i]) (by rw [List.getElem?_map, List.getElem?_eq_getElem hi]; rfl)
    obtain ⟨t, rfl⟩ := ru
    rw [e'] at hu
    exact ⟨ks[i], t, Option.some.inj hu, List.getElem?_eq_getElem hi⟩
  have fp : ∀ c ∈ [s1.heap.objs.size + 4, s1.heap.objs.size + 3, s1.heap.objs.size, s1.heap.objs.size + 1], FpOk X pins H1 c := fun c hc => by
    simp only [List.mem_cons, List.not_mem_nil, or_false] at hc
    rcases hc with z | z | z | z <;> rw [z] <;> exact I1.fpOk (by (first | lia | omega)) (I1.hok.fresh (by (first | lia | omega)))
  refine ⟨.ref h'.objs.size, _, I2.turnedNew (t' := tk) (fp := [s1.heap.objs.size + 4, s1.heap.objs.size + 3, s1.heap.objs.size, s1.heap.objs.size + 1]) (o := .dK ((ks.zip vs').map fun p => ((Sum.inr p.1 : Key), V.str p.2))) (fun c o hc z => k2 c o (fun y => hc (by simp [y])) (fun y => hc (by simp [y])) (fun y => hc (by simp [y])) (fun y => hc (by simp [y])) z) fp (Nat.le_refl _) ?_, rfl, q _ (I2.hok.fresh (Nat.le_refl _))⟩
  refine dk_new ?_ ?_ (prz_kv rv2) (by simpa using d2)
  · rw [List.length_map, List.length_zip]
    (first | lia | omega)
  · exact beq_eq_false_iff_ne.mpr (Nat.ne_of_gt I2.big)
end
end L2
set_option Elab.async false
set_option linter.all false
set_option maxHeartbeats 1000000
set_option maxRecDepth 100000
namespace L2
open PySem PySem.Spec PyProof.Rows
theorem vals_range : ∀ {its : List Value} {m : Nat}, (∀ (j : Nat) v, its[j]? = some v → ∃ t, v = .int (((m + j : Nat) : Int)) t) → Vals ((List.range' m its.length).map fun i => V.int (i : Nat)) its
  | [], _, _ => .nil
  | u :: us, m, h => by
    rw [List.length_cons, List.range'_succ, List.map_cons]
    refine .cons ?_ (vals_range (m := m + 1) fun j v e => ?_)
    · obtain ⟨t, rfl⟩ := h 0 u rfl
      exact ⟨t, rfl⟩
    · obtain ⟨t, rfl⟩ := h (j + 1) v (by simpa using e)
      exact ⟨t, by rw [show m + 1 + j = m + (j + 1) by (first | lia | omega)]⟩
section
variable {X : Cx}
theorem pe_listRange {a : Expr} {ta : TA} {p p2 pos pos2 : Pos} (hg : Gl X "list") (hm : X.mg "list" = none) (hg2 : Gl X "range") (hm2 : X.mg "range" = none) (hc : X.calm = true) (ha : PA X [a] ta) (hs2 : starEach [a] X.env = [(false, eval a X.env)] := by rfl)
    (hs : starEach [.Call (.Name "range" p2) [a] [] pos2] X.env = [(false, eval (.Call (.Name "range" p2) [a] [] pos2) X.env)] := by rfl) : PE X (.Call (.Name "list" p) [.Call (.Name "range" p2) [a] [] pos2] [] pos) (tListRange ta) := by
  intro pins s σ H Q I h
  refine Call_ (ld_blt I hg hm boot_listT (PyProof.Rows.callWith_type1 ?_ hs rfl))
  rw [hs]
  show wpAny _ _ (spliced [(false, eval _ X.env)]) _ _ s
  refine Calls.spliced_cons ?_
  refine Call_ (ld_blt I hg2 hm2 boot_range (PyProof.Rows.callWith_type1 (thn (ha pos2 pins s σ H _ I h) fun us s1 ⟨vs, H1, I1, r1, q1⟩ => ?_) hs2 rfl))
  obtain ⟨n, e, hn, q⟩ := q1
  subst e
  obtain ⟨u, rfl, t, rfl⟩ := vals1 r1
  refine call_range_1 ?_
  refine Calls.spliced_nil ?_
  have I2 : Inv X pins σ H1 { s1 with heap := s1.heap.push { cls := .type "range", data := .fields #[.int 0 s1.toks, .int n t, .int 1 (s1.toks + 1)] }, toks := s1.toks + 1 + 1 } := I1.kept fun b o e => Heap.get?_push_of_some _ e
  refine call_list_range (n := n) (I1.ok.hd hc) (IsRange.new ..) (small_one (by (first | lia | omega)) (by (first | lia | omega)) (by (first | lia | omega)) (by (first | lia | omega))) (by rw [rangeSize_one]; split <;> (first | lia | omega)) (by (first | lia | omega)) fun h' tk acc c k hg it => ?_
  refine ⟨.ref _, _, I2.laid (t' := tk) (o := .lst ((List.range n).map fun i => V.int (i : Nat))) k (Nat.le_refl _) ?_, rfl, q _ (I2.hok.fresh (Nat.le_refl _))⟩
  obtain ⟨i1, i2⟩ := it
  refine ⟨by rw [List.length_map, List.length_range]; exact Nat.le_trans hn (by decide), acc.toList, c, ?_, by simpa using hg⟩
  have z := vals_range (its := acc.toList) (m := 0) fun j v e => by
    obtain ⟨t', rfl⟩ := i2 j v (by simpa using e)
    exact ⟨t', by simp⟩
  rw [Array.length_toList, i1, ← List.range_eq_range'] at z
  exact z
end
end L2
set_option Elab.async false
set_option linter.all false
set_option maxHeartbeats 1000000
set_option maxRecDepth 100000
namespace L2
open PySem PySem.Spec PyProof.Rows
theorem comp_fun {K : PySem.W.Frag} {nl : Nat} {ix : List Nat} {te : TE} {σ : St} {H1 : Hp} {D a : Addr} {Q : VK} {xs : List V} {F : V → V} (ha : H1 a = some (.lst xs)) (nD : H1 D = none) (hl : xs.length ≤ 1000000)
    (hc : ∀ x, ((capt nl ix σ).set 0 (some x)).drop nl = ix.map fun j => (σ[j]?).join)
    (ht : ∀ (H : Hp) (x : V) (R : VK), x ∈ xs → Same H1 H → R (F x) H → te ((capt nl ix σ).set 0 (some x)) H R)
    (hd : ∀ H, Same H1 H → H D = some (.lst (xs.map F)) → Q (.ref D) H) : CompW nl ix (gName 0) tYes te σ (Itl K a) H1 D Q := by
  have lim : 1000000 < sizeLine := by decide
  refine comp_list (xs := xs) (fun i ys H => ys = (xs.take i).map F ∧ H D = some (.lst ys) ∧ Same H1 H) ⟨rfl, upd_same, fun b u e => by rw [upd_ne (ne_of_none e nD)]; exact e⟩ (fun i ys H ⟨_, h, _⟩ => h) (fun i ys H ⟨_, _, s⟩ => SqL.of (s a _ ha)) ?_ ?_
  · rintro i ys H x hx ⟨rfl, hD, s⟩
    have hi : i < xs.length := (List.getElem?_eq_some_iff.mp hx).1
    refine turn_name (hc x) (ht H x _ (List.mem_of_getElem? hx) s ⟨hD, by rw [List.length_map, List.length_take]; (first | lia | omega), nx hi ⟨?_, upd_same, fun b u e => ?_⟩⟩)
    · rw [List.take_add_one, hx, List.map_append]
      rfl
    · rw [upd_ne (ne_of_none e nD)]
      exact s b u e
  · rintro ys H ⟨rfl, hD, s⟩
    rw [List.take_length] at hD
    exact hd H s hD
def nameOf (ks vs : List Str) (x : Str) : Str := (vs[ks.idxOf x]?).getD x
theorem nameOf_get {ks vs : List Str} {x : Str} (hx : x ∈ ks) (hl : ks.length = vs.length) : vs[ks.idxOf x]? = some (nameOf ks vs x) := by
  unfold nameOf
  have h : ks.idxOf x < vs.length := by rw [← hl]; exact List.idxOf_lt_length_of_mem hx
  rw [List.getElem?_eq_getElem h]
  rfl
theorem nameOf_inj {ks vs : List Str} (hl : ks.length = vs.length) (nv : vs.Nodup) : ∀ x ∈ ks, ∀ y ∈ ks, nameOf ks vs x = nameOf ks vs y → x = y := by
  intro x hx y hy e
  have e1 := nameOf_get hx hl
  have e2 := nameOf_get hy hl
  have h : ks.idxOf x < vs.length := by rw [← hl]; exact List.idxOf_lt_length_of_mem hx
  have ei : ks.idxOf x = ks.idxOf y := (List.getElem?_inj h nv).mp (by rw [e1, e2, e])
  have g1 := List.getElem_idxOf (List.idxOf_lt_length_of_mem hx)
  have g2 := List.getElem_idxOf (List.idxOf_lt_length_of_mem hy)
  rw [← g1, ← g2]
  exact getElem_congr rfl ei _
theorem nameOf_mem {ks vs : List Str} (hl : ks.length = vs.length) {x : Str} (hx : x ∈ ks) : nameOf ks vs x ∈ vs := List.mem_of_getElem? (nameOf_get hx hl)
abbrev zipKV (ks vs : List Str) : List (Key × V) := (ks.zip vs).map fun p => ((Sum.inr p.1 : Key), V.str p.2)
theorem zip_val : ∀ {ks vs : List Str} {x : Str}, x ∈ ks → ks.length = vs.length → valV (zipKV ks vs) (.inr x) = some (.str (nameOf ks vs x))
  | [], _, _, h, _ => by cases h
  | _ :: _, [], _, _, h => by cases h
  | k :: ks, v :: vs, x, hx, hl => by
    show valV ((Sum.inr k, V.str v) :: zipKV ks vs) (.inr x) = _
    by_cases e : k = x
    · subst e
      rw [valV_pos rfl]
      simp [nameOf]
    · have hx' : x ∈ ks := by
        rcases List.mem_cons.mp hx with z | z
        · exact absurd z.symm e
        · exact z
      rw [valV_neg (by simpa using e), zip_val hx' (by simpa using hl)]
      have hb : (k == x) = false := by simpa using e
      simp [nameOf, List.idxOf_cons, hb]
theorem zip_none : ∀ {ks vs : List Str} {x : Str}, x ∉ ks → valV (zipKV ks vs) (.inr x) = none
  | [], _, _, _ => rfl
  | _ :: _, [], _, _ => rfl
  | k :: ks, v :: vs, x, hx => by
    show valV ((Sum.inr k, V.str v) :: zipKV ks vs) (.inr x) = _
    rw [valV_neg (by intro e; cases e; exact hx List.mem_cons_self)]
    exact zip_none fun m => hx (List.mem_cons_of_mem _ m)
end L2
set_option Elab.async false
set_option linter.all false
set_option maxHeartbeats 1000000
set_option maxRecDepth 100000
namespace L2
open PySem PySem.Spec PyProof.Rows
theorem comp_funR {nl : Nat} {ix : List Nat} {te : TE} {σ : St} {H1 : Hp} {D : Addr} {Q : VK} {lo : Int} {n : Nat} {F : Nat → V} (nD : H1 D = none) (hl : n ≤ 1000000)
    (hc : ∀ x, ((capt nl ix σ).set 0 (some x)).drop nl = ix.map fun j => (σ[j]?).join)
    (ht : ∀ (H : Hp) (i : Nat) (R : VK), i < n → Same H1 H → R (F i) H → te ((capt nl ix σ).set 0 (some (.int (lo + i)))) H R)
    (hd : ∀ H, Same H1 H → H D = some (.lst ((List.range n).map F)) → Q (.ref D) H) : CompW nl ix (gName 0) tYes te σ (Itr lo n) H1 D Q := by
  have lim : 1000000 < sizeLine := by decide
  refine comp_range (fun i ys H => ys = (List.range i).map F ∧ H D = some (.lst ys) ∧ Same H1 H) ⟨rfl, upd_same, fun b u e => by rw [upd_ne (ne_of_none e nD)]; exact e⟩ (fun i ys H ⟨_, h, _⟩ => h) ?_ ?_
  · rintro i ys H hi ⟨rfl, hD, s⟩
    refine turn_name (hc _) (ht H i _ hi s ⟨hD, by rw [List.length_map, List.length_range]; (first | lia | omega), nx hi ⟨?_, upd_same, fun b u e => ?_⟩⟩)
    · rw [List.range_succ, List.map_append]
      rfl
    · rw [upd_ne (ne_of_none e nD)]
      exact s b u e
  · rintro ys H ⟨rfl, hD, s⟩
    exact hd H s hD
theorem comp_filter {K : PySem.W.Frag} {nl : Nat} {ix : List Nat} {tf : TT} {te : TE} {σ : St} {H1 : Hp} {D a : Addr} {Q : VK} {xs : List V} {pb : V → Bool} (ha : H1 a = some (.lst xs)) (nD : H1 D = none) (hl : xs.length ≤ 1000000)
    (hc : ∀ x, ((capt nl ix σ).set 0 (some x)).drop nl = ix.map fun j => (σ[j]?).join)
    (ht : ∀ (H : Hp) (x : V) (R : Bool → Hp → Prop), x ∈ xs → Same H1 H → R (pb x) H → tf ((capt nl ix σ).set 0 (some x)) H R)
    (he : ∀ (H : Hp) (x : V) (R : VK), R x H → te ((capt nl ix σ).set 0 (some x)) H R)
    (hd : ∀ H, Same H1 H → H D = some (.lst (xs.filter pb)) → Q (.ref D) H) : CompW nl ix (gName 0) tf te σ (Itl K a) H1 D Q := by
  have lim : 1000000 < sizeLine := by decide
  refine comp_list (xs := xs) (fun i ys H => ys = (xs.take i).filter pb ∧ H D = some (.lst ys) ∧ Same H1 H) ⟨rfl, upd_same, fun b u e => by rw [upd_ne (ne_of_none e nD)]; exact e⟩ (fun i ys H ⟨_, h, _⟩ => h) (fun i ys H ⟨_, _, s⟩ => SqL.of (s a _ ha)) ?_ ?_
  · rintro i ys H x hx ⟨rfl, hD, s⟩
    have hi : i < xs.length := (List.getElem?_eq_some_iff.mp hx).1
    have lf : ((xs.take i).filter pb).length ≤ i := Nat.le_trans (List.length_filter_le _ _) (by rw [List.length_take]; (first | lia | omega))
    unfold CompTurn gName
    refine ⟨⟨by simp, hc x⟩, ht H x _ (List.mem_of_getElem? hx) s ?_⟩
    cases e : pb x with
    | true =>
      rw [if_pos rfl]
      refine he H x _ ⟨hD, by (first | lia | omega), nx hi ⟨?_, upd_same, fun b u e => ?_⟩⟩
      · rw [List.take_add_one, hx, List.filter_append]
        simp [e]
      · rw [upd_ne (ne_of_none e nD)]
        exact s b u e
    | false =>
      rw [if_neg Bool.false_ne_true]
      refine nx hi ⟨?_, hD, s⟩
      rw [List.take_add_one, hx, List.filter_append]
      simp [e]
  · rintro ys H ⟨rfl, hD, s⟩
    rw [List.take_length] at hD
    exact hd H s hD
end L2
set_option Elab.async false
set_option linter.all false
set_option maxRecDepth 100000
set_option maxHeartbeats 4000000
namespace K7
open PySem L2 PyProof.Rows
def top (i : Nat) : Stmt := PySem.Challenge.pw_keyrooms_k06_whole_houses_named_anew.main.body.getD i (.Pass ⟨0, 0, 0, 0⟩)
abbrev sKind : Stmt := top 9
abbrev sKinds : Stmt := top 10
abbrev sLocks : Stmt := top 11
abbrev sRoom : Stmt := top 12
abbrev sHouse : Stmt := top 13
abbrev sReq : Stmt := top 14
abbrev sPool : Stmt := top 24
abbrev sTake : Stmt := top 25
abbrev sMade : Stmt := top 26
abbrev sSome : Stmt := top 27
abbrev sDrawn : Stmt := top 28
abbrev sLaw : Stmt := top 32
abbrev st_is_whole : Stmt := top 8
abbrev st_is_plain : Stmt := top 15
abbrev st_serves : Stmt := top 16
abbrev st_hand_behind : Stmt := top 17
abbrev st_is_step : Stmt := top 18
abbrev st_hand_after : Stmt := top 19
abbrev st_keys_behind : Stmt := top 20
abbrev st_next_rooms : Stmt := top 21
abbrev st_is_stuck : Stmt := top 22
abbrev st__law_mixed_up : Stmt := top 29
abbrev st__law_named : Stmt := top 30
abbrev st__law_walk : Stmt := top 31
def IsPool (o : HO) (c : Int) : Prop := ∃ a f : Int, o = .lst [.int a, .int f, .int c]
def spTake : Sp := fun vs H Q _ => ∃ (p : Addr) (n c : Int) (o : HO), vs = [.ref p, .int n] ∧ H p = some o ∧ IsPool o c ∧ 0 < n ∧ n ≤ 1000000 ∧ 0 ≤ c ∧ c < 1000000 ∧
  ∀ (r c' : Int) (o' : HO), 0 ≤ r → r < n → c ≤ c' → c' ≤ c + 1 → IsPool o' c' → Q (.int r) (upd H p o')
section
variable {P : Program} {w : World} {K : PySem.W.Frag} {mg : Str → Option Value} {base : Heap}
theorem scTake : FnScope ["pool", "many", "found", "step", "mark"] ["pool", "many"] (defScope sTake) := ⟨rfl, rfl, rfl, by decide +kernel, rfl, by decide +kernel, by decide +kernel⟩
theorem ok_take {f : Addr} {fd : FuncData} (F : Fun K "_law_take" "_law_take" sTake f fd) : FnOk P w K mg base CX0 1 f fd ["pool", "many"] spTake := by
  refine F.ok scTake (fun vs H Q E h => ?_) (fun cdv A outer s H vs Q E hr h => ?_)
  · obtain ⟨p, n, c, o, rfl, _⟩ := h
    rfl
  · obtain ⟨p, n, c, o, rfl, hp, ⟨a, f', rfl⟩, hn, hn2, hc, hc2, k⟩ := h
    refine ⟨_, pss_cons (ps_if (pt_cmpR op_eq (pe_ix ix_list (pv 0) pe_int (fun _ _ => rfl)) pe_int (nomark _))
        (pss_cons (ps_set (i := 2) scTake.nd rfl (Or.inl rfl) (pe_op op_mod (pe_ix ix_list (pv 0) pe_int (fun _ _ => rfl)) (pv 1)))
        (pss_cons (ps_asg (pe_op op_fdiv (pe_ix ix_list (pv 0) pe_int (fun _ _ => rfl)) (pv 1)) (pg_sub (pv 0) pe_int set_list))
        (pss_one (ps_ret (pv 2))))) pss_nil)
      (pss_cons (ps_asg (pe_op op_add (pe_ix ix_list (pv 0) pe_int (fun _ _ => rfl)) pe_int) (pg_sub (pv 0) pe_int set_list))
      (pss_cons (ps_set (i := 3) scTake.nd rfl (Or.inl rfl) (pe_ix ix_list (pv 0) pe_int (fun _ _ => rfl)))
      (pss_cons (ps_set (i := 4) scTake.nd rfl (Or.inl rfl) (pe_op op_mul (pe_op op_add (pe_op op_mod (pe_ix ix_list (pv 0) pe_int (fun _ _ => rfl)) pe_int) pe_int) (pe_op op_add (pe_op op_mul pe_int (pv 3)) pe_int)))
      (pss_cons (ps_set (i := 4) scTake.nd rfl (Or.inl rfl) (pe_op op_add (pv 4) (pe_op op_mul (pe_op op_mul pe_int (pv 3)) (pv 3))))
      (pss_cons (ps_set (i := 4) scTake.nd rfl (Or.inl rfl) (pe_op op_mod (pe_op op_mul (pv 4) (pv 4)) pe_int))
      (pss_one (ps_ret (pe_op op_mod (pe_op op_fdiv (pe_op op_mod (pe_op op_mul (pv 4) (pe_op op_add (pv 4) pe_int)) pe_int) pe_int) (pv 1))))))))), ?_⟩
    refine ⟨_, rfl, p, _, 1, .int f', rfl, rfl, SqL.of hp, rfl, rfl, _, rfl, ?_⟩
    refine ite2 (fun _ => ?_) (fun _ => ?_)
    · refine ⟨_, rfl, p, _, 0, .int a, rfl, rfl, SqL.of hp, rfl, _, rfl, a, n, rfl, rfl, hn, ?_⟩
      refine ⟨_, rfl, p, _, 0, .int a, rfl, rfl, SqL.of hp, rfl, _, rfl, a, n, rfl, rfl, ⟨hn, by (first | lia | omega)⟩, ?_⟩
      refine ⟨_, rfl, p, _, 0, 0, rfl, rfl, hp, rfl, ?_⟩
      refine ⟨_, rfl, ?_⟩
      exact k (a % n) c _ (Int.emod_nonneg _ (by (first | lia | omega))) (Int.emod_lt_of_pos _ hn) (Int.le_refl _) (by (first | lia | omega)) ⟨a / n, f', rfl⟩
    · refine ⟨_, rfl, p, _, 2, .int c, rfl, rfl, SqL.of hp, rfl, c, 1, rfl, rfl, ?_⟩
      refine ⟨_, rfl, p, _, 2, 2, rfl, rfl, hp, rfl, ?_⟩
      have hp1 : (upd H p (.lst [V.int a, V.int f', V.int (c + 1)])) p = some (.lst [V.int a, V.int f', V.int (c + 1)]) := upd_same
      refine ⟨_, rfl, p, _, 2, .int (c + 1), rfl, rfl, SqL.of hp1, rfl, ?_⟩
      have b0 : 0 ≤ a % 9999999551 := Int.emod_nonneg _ (by decide)
      have b1 : a % 9999999551 < 9999999551 := Int.emod_lt_of_pos _ (by decide)
      refine ⟨_, rfl, p, _, 0, .int a, rfl, rfl, SqL.of hp1, rfl, a, 9999999551, rfl, rfl, (by show (0 : Int) < 9999999551; decide), _, _, rfl, rfl, ?_⟩
      refine ⟨_, rfl, 43, c + 1, rfl, rfl, .inl ⟨by decide, by decide⟩, _, 73, rfl, rfl, _, _, rfl, rfl, .inl ⟨by (first | lia | omega), by (first | lia | omega)⟩, ?_⟩
      refine ⟨_, rfl, _, rfl, 3581, c + 1, rfl, rfl, .inl ⟨by decide, by decide⟩, _, rfl, _, c + 1, rfl, rfl, .inl ⟨by (first | lia | omega), by (first | lia | omega)⟩, _, _, rfl, rfl, ?_⟩
      generalize hx : a % 9999999551 + 1019 = x at *
      generalize hy : 43 * (c + 1) + 73 = y at *
      have x0 : 0 ≤ x := by (first | lia | omega)
      have x1 : x ≤ 9999999551 + 1019 := by (first | lia | omega)
      have y0 : 0 ≤ y := by (first | lia | omega)
      have y1 : y ≤ 43000100 := by (first | lia | omega)
      have m0 : 0 ≤ x * y := Int.mul_nonneg x0 y0
      have m1 : x * y ≤ (9999999551 + 1019) * 43000100 := Int.mul_le_mul x1 y1 y0 (by decide)
      have z0 : 0 ≤ 3581 * (c + 1) * (c + 1) := Int.mul_nonneg (by (first | lia | omega)) (by (first | lia | omega))
      have z1 : 3581 * (c + 1) * (c + 1) ≤ 3581000000 * 1000000 := Int.mul_le_mul (by (first | lia | omega)) (by (first | lia | omega)) (by (first | lia | omega)) (by decide)
      generalize hm : x * y + 3581 * (c + 1) * (c + 1) = m at *
      refine ⟨_, rfl, _, rfl, m, m, congrArg V.int hm, congrArg V.int hm, .inl ⟨by (first | lia | omega), by (first | lia | omega)⟩, _, _, rfl, rfl, (by show (0 : Int) < 99999999581; decide), ?_⟩
      have c0 : 0 ≤ m * m % 99999999581 := Int.emod_nonneg _ (by decide)
      have c1 : m * m % 99999999581 < 99999999581 := Int.emod_lt_of_pos _ (by decide)
      generalize hq : m * m % 99999999581 = q at *
      refine ⟨_, rfl, _, rfl, q, 59, congrArg V.int hq, rfl, q, _, congrArg V.int hq, rfl, .inl ⟨by (first | lia | omega), by (first | lia | omega)⟩, _, _, rfl, rfl, (by show (0 : Int) < 99999999877; decide), _, _, rfl, rfl, ⟨by decide, by decide⟩, _, rfl, _, n, rfl, rfl, hn, ?_⟩
      exact k _ (c + 1) _ (Int.emod_nonneg _ (by (first | lia | omega))) (Int.emod_lt_of_pos _ hn) (by (first | lia | omega)) (Int.le_refl _) ⟨a, f', rfl⟩
end
end K7
set_option Elab.async false
set_option linter.all false
set_option maxRecDepth 100000
set_option maxHeartbeats 4000000
namespace K7
open PySem L2 PyProof.Rows
structure Cal (K : PySem.W.Frag) (mg : Str → Option Value) (x : Str) (ps : List Str) (f : Addr) (fd : FuncData) : Prop where
  mg : mg x = some (.ref f)
  kp : PySem.W.keepIn K (.ref f) = true
  b : Binds K fd ps []
def But (p : Addr) (H H' : Hp) : Prop := ∀ b u, b ≠ p → H b = some u → H' b = some u
theorem But.refl (p : Addr) (H : Hp) : But p H H := fun _ _ _ e => e
theorem But.trans {p : Addr} {H H1 H2 : Hp} (a : But p H H1) (b : But p H1 H2) : But p H H2 := fun c u n e => b c u n (a c u n e)
theorem But.upd {p : Addr} {H : Hp} {o : HO} : But p H (upd H p o) := fun b u n e => by rw [upd_ne n]; exact e
theorem But.new {p q : Addr} {H H1 : Hp} {o : HO} (a : But p H H1) (n : H q = none) : But p H (L2.upd H1 q o) := fun b u hb e => by rw [upd_ne (ne_of_none e n)]; exact a b u hb e
theorem But.free {p q : Addr} {H H' : Hp} (a : But p H H') (n : q ≠ p) (e : H' q = none) : H q = none := by
  cases h : H q with
  | none => rfl
  | some u => rw [a q u n h] at e; cases e
def PoolAt (H : Hp) (p : Addr) (c : Int) : Prop := ∃ o, H p = some o ∧ IsPool o c
def spSome : Sp := fun vs H Q _ => ∃ (p q : Addr) (n : Nat) (c : Int) (ks : List Str), vs = [.ref p, .ref q, .int n] ∧ PoolAt H p c ∧ H q = some (.lst (ks.map V.str)) ∧ ks ≠ [] ∧ ks.length ≤ 1000 ∧ n ≤ 1000 ∧ 0 ≤ c ∧ c + n < 1000000 ∧
  ∀ (l : Addr) (ss : List Str) (c' : Int) (H' : Hp), H l = none → ss.length = n → (∀ x ∈ ss, x ∈ ks) → H' l = some (.lst (ss.map V.str)) → PoolAt H' p c' → c ≤ c' → c' ≤ c + n → But p H H' → Q (.ref l) H'
section
variable {P : Program} {w : World} {K : PySem.W.Frag} {mg : Str → Option Value} {base : Heap}
theorem scSome : FnScope ["pool", "kinds", "many"] ["pool", "kinds", "many"] (defScope sSome) := ⟨rfl, rfl, rfl, by decide +kernel, rfl, by decide +kernel, by decide +kernel⟩
def compScope (e : Expr) : Scope := match e with
  | .ListComp _ _ s _ => s
  | .DictComp _ _ _ s _ => s
  | _ => { kind := .function, names := [], isGenerator := false, isCoroutine := false }
def retExpr (s : Stmt) : Expr := match s with
  | .Return (some e) _ => e
  | _ => .Name "" ⟨0, 0, 0, 0⟩
abbrev someComp : Expr := retExpr ((defBody sSome).getD 0 (.Pass ⟨0, 0, 0, 0⟩))
theorem ckSome : compOk (defScope sSome) (compScope someComp) ["pool", "kinds", "many"] ["k", "kinds", "pool"] 1 [1, 0] = true := by decide +kernel
theorem nd1 : ((["k", "kinds", "pool"] : List Str)).Nodup := by decide +kernel
theorem ok_some {f fT : Addr} {fd fdT : FuncData} (F : Fun K "_law_some" "_law_some" sSome f fd) (FT : Fun K "_law_take" "_law_take" sTake fT fdT) (cT : Cal K mg "_law_take" ["pool", "many"] fT fdT) (mR : mg "range" = none) (mL : mg "len" = none) :
    FnOk P w K mg base CX0 2 f fd ["pool", "kinds", "many"] spSome := by
  have GT : FnOk P w K mg base CX0 1 fT fdT ["pool", "many"] spTake := ok_take FT
  refine F.ok scSome (fun vs H Q E h => ?_) (fun cdv A outer s H vs Q E hr h => ?_)
  · obtain ⟨p, q, n, c, ks, rfl, _⟩ := h
    rfl
  · obtain ⟨p, q, n, c, ks, rfl, ⟨o, hp, hpo⟩, hq, hk, hkl, hn, hc, hcn, k⟩ := h
    obtain ⟨S, Cp⟩ := comp_of (X := (cxOf CX0 P w K mg base ["pool", "kinds", "many"] "_law_some" (defScope sSome) f cdv A outer s H E).nox) (outer := defScope sSome) (N := ["pool", "kinds", "many"]) rfl rfl ckSome
    refine ⟨_, pss_one (ps_ret (pe_lcomp (tg := .Name "k" _) rfl S Cp (pi_range1 rfl mR (pa_cons (pv 2) pa_nil))
      (fun C fp s₀ H₀ => pg_name (i := 0) nd1 rfl (Or.inl rfl) (.inr rfl)) (fun C fp s₀ H₀ => pif_nil)
      (fun C fp s₀ H₀ => pe_ix (ix_listK (K := K) rfl) (pv 1) (pe_call GT hr rfl cT.mg cT.kp cT.b .nil pass0 (pa_cons (pv 2) (pa_cons (pe_callB (call_lenK (K := K) rfl) rfl mL PySem.boot_len (pa_cons (pv 1) pa_nil)) pa_nil))) (fun _ _ => rfl)))), ?_⟩
    refine lcomp_eq _ _ _ _ _ _ _ _ _ ?_
    refine ⟨_, rfl, (n : Int), rfl, by (first | lia | omega), by (first | lia | omega), ?_⟩
    intro D hD
    have npD : p ≠ D := ne_of_none hp hD
    have nqD : q ≠ D := ne_of_none hq hD
    have npq : p ≠ q := by
      obtain ⟨a, f', rfl⟩ := hpo
      refine ne_of hp hq fun e => ?_
      injection e with e
      cases ks with
      | nil => exact hk rfl
      | cons z r => rw [List.map_cons] at e; injection e with e1; cases e1
    rw [Int.toNat_natCast]
    refine comp_range (fun i ys H2 => ∃ (ss : List Str) (c' : Int), ys = ss.map V.str ∧ ss.length = i ∧ (∀ x ∈ ss, x ∈ ks) ∧ H2 D = some (.lst ys) ∧ PoolAt H2 p c' ∧ c ≤ c' ∧ c' ≤ c + i ∧ But p H H2) ?_ (fun i ys H2 ⟨_, _, _, _, _, z, _⟩ => z) ?_ ?_
    · refine ⟨[], c, rfl, rfl, (fun x hx => nomatch hx), upd_same, ⟨o, by rw [upd_ne npD]; exact hp, hpo⟩, Int.le_refl _, by (first | lia | omega), (But.refl p H).new hD⟩
    · rintro i ys H2 hi ⟨ss, c', rfl, hl, hm, hD2, ⟨o2, hp2, hpo2⟩, h1, h2, hb⟩
      have hq2 := hb q _ (Ne.symm npq) hq
      refine turn_name rfl ?_
      refine ⟨_, rfl, _, rfl, _, rfl, q, _, rfl, .inl (SqL.of hq2), p, _, c', o2, rfl, hp2, hpo2, ?_, ?_, by (first | lia | omega), by (first | lia | omega), fun r c2 o3 r0 r1 h3 h4 hpo3 => ?_⟩
      · rw [List.length_map]
        cases ks with
        | nil => exact absurd rfl hk
        | cons z r => rw [List.length_cons]; (first | lia | omega)
      · rw [List.length_map]; (first | lia | omega)
      · rw [List.length_map] at r1
        obtain ⟨j, rfl⟩ : ∃ j : Nat, r = (j : Int) := ⟨r.toNat, by (first | lia | omega)⟩
        have hj : j < ks.length := by (first | lia | omega)
        refine ⟨q, _, _, .str ks[j], rfl, rfl, SqL.of (by rw [upd_ne (Ne.symm npq)]; exact hq2), atI_nat (by rw [List.getElem?_map, List.getElem?_eq_getElem hj]; rfl), ?_⟩
        refine ⟨by rw [upd_ne (Ne.symm npD)]; exact hD2, by rw [List.length_map]; exact small1000 (by (first | lia | omega)), nx hi ?_⟩
        refine ⟨ss ++ [ks[j]], c2, by simp, by simp [hl], fun x hx => ?_, upd_same, ⟨o3, by rw [upd_ne npD, upd_same], hpo3⟩, by (first | lia | omega), by (first | lia | omega), ?_⟩
        · rcases List.mem_append.mp hx with hx | hx
          · exact hm x hx
          · rw [List.mem_singleton.mp hx]; exact List.getElem_mem hj
        · exact (hb.trans But.upd).new hD
    · rintro ys H2 ⟨ss, c', rfl, hl, hm, hD2, hp2, h1, h2, hb⟩
      exact k D ss c' H2 hD hl hm hD2 hp2 h1 h2 hb
end
end K7
set_option Elab.async false
set_option linter.all false
set_option maxRecDepth 100000
set_option maxHeartbeats 4000000
namespace K7
open PySem L2 PyProof.Rows
def spPool (K : PySem.W.Frag) : Sp := fun vs H Q _ => ∃ (a : Addr) (k : Nat) (ns : List Int), vs = [.ref a, .int k] ∧ SqL K H a (ns.map V.int) ∧ k ≤ 100 ∧ ns.length ≤ 63 ∧
  ∀ (l : Addr) (c : Int) (o : HO), H l = none → IsPool o c → 0 ≤ c → c ≤ 5300 → Q (.ref l) (upd H l o)
section
variable {P : Program} {w : World} {K : PySem.W.Frag} {mg : Str → Option Value} {base : Heap}
theorem scPool : FnScope ["script", "k", "cell"] ["script", "k"] (defScope sPool) := ⟨rfl, rfl, rfl, by decide +kernel, rfl, by decide +kernel, by decide +kernel⟩
theorem ok_pool {f : Addr} {fd : FuncData} (F : Fun K "_law_pool" "_law_pool" sPool f fd) (mL : mg "len" = none) : FnOk P w K mg base CX0 1 f fd ["script", "k"] (spPool K) := by
  refine F.ok scPool (fun vs H Q E h => ?_) (fun cdv A outer s H vs Q E hr h => ?_)
  · obtain ⟨a, k, ns, rfl, _⟩ := h
    rfl
  · obtain ⟨a, k, ns, rfl, hS, hk, hn, q⟩ := h
    refine ⟨_, pss_cons (ps_set (i := 2) scPool.nd rfl (Or.inl rfl) pe_int)
      (pss_cons (ps_if (pt_cmpR op_lt (pv 1) (pe_callB call_len_seq rfl mL PySem.boot_len (pa_cons (pv 0) pa_nil)) (nomark _))
        (pss_one (ps_set (i := 2) scPool.nd rfl (Or.inl rfl) (pe_ix ix_list (pv 0) (pv 1) (fun _ _ => rfl)))) pss_nil)
      (pss_cons (ps_if (pt_cmpR op_ge (pv 2) (pe_op op_pow pe_int pe_int) (nomark _))
        (pss_one (ps_ret (pe_lst (pa_cons (pe_op op_sub (pv 2) (pe_op op_pow pe_int pe_int)) (pa_cons pe_int (pa_cons pe_int pa_nil)))))) pss_nil)
      (pss_one (ps_ret (pe_lst (pa_cons (pv 2) (pa_cons pe_int (pa_cons (pe_op op_mul pe_int (pv 1)) pa_nil)))))))), ?_⟩
    refine ⟨_, rfl, _, rfl, a, _, rfl, .inl hS, _, _, rfl, rfl, _, rfl, ?_⟩
    refine ite2 (fun hlt => ?_) (fun _ => ?_)
    · have hlt' : k < ns.length := by
        have z := of_decide_eq_true hlt
        rw [List.length_map] at z
        (first | lia | omega)
      refine ⟨_, rfl, _, rfl, a, _, _, .int ns[k], rfl, rfl, hS, atI_nat (by rw [List.getElem?_map, List.getElem?_eq_getElem hlt']; rfl), ?_⟩
      refine ⟨_, rfl, 10, 18, rfl, rfl, ⟨by decide, by decide, by decide⟩, _, _, rfl, rfl, _, rfl, ite2 (fun _ => ?_) (fun _ => ?_)⟩
      · refine ⟨_, rfl, 10, 18, rfl, rfl, ⟨by decide, by decide, by decide⟩, _, _, rfl, rfl, (by show 3 ≤ sizeLine; decide), fun l hl => ?_⟩
        exact q l 0 _ hl ⟨_, 1, rfl⟩ (by decide) (by decide)
      · refine ⟨_, rfl, _, rfl, 53, k, rfl, rfl, .inl ⟨by decide, by decide⟩, (by show 3 ≤ sizeLine; decide), fun l hl => ?_⟩
        exact q l (53 * k) _ hl ⟨_, 0, rfl⟩ (by (first | lia | omega)) (by (first | lia | omega))
    · refine ⟨_, rfl, 10, 18, rfl, rfl, ⟨by decide, by decide, by decide⟩, _, _, rfl, rfl, _, rfl, ite2 (fun _ => ?_) (fun _ => ?_)⟩
      · refine ⟨_, rfl, 10, 18, rfl, rfl, ⟨by decide, by decide, by decide⟩, _, _, rfl, rfl, (by show 3 ≤ sizeLine; decide), fun l hl => ?_⟩
        exact q l 0 _ hl ⟨_, 1, rfl⟩ (by decide) (by decide)
      · refine ⟨_, rfl, _, rfl, 53, k, rfl, rfl, .inl ⟨by decide, by decide⟩, (by show 3 ≤ sizeLine; decide), fun l hl => ?_⟩
        exact q l (53 * k) _ hl ⟨_, 0, rfl⟩ (by (first | lia | omega)) (by (first | lia | omega))
end
end K7
set_option Elab.async false
set_option linter.all false
set_option maxRecDepth 100000
set_option maxHeartbeats 4000000
namespace K7
open PySem L2 PyProof.Rows
def KindOk (z : Str) : Prop := 1 ≤ z.length ∧ z.length ≤ 4 ∧ ∀ c ∈ z.cps.toList, 97 ≤ c ∧ c ≤ 122
def spKind : Sp := fun vs H Q _ => ∃ z : Str, vs = [.str z] ∧ KindOk z ∧ ∀ H', Same H H' → Q (.bl true) H'
abbrev lettersS : Str := "abcdefghijklmnopqrstuvwxyz"
theorem in_letters (c : Nat) (h1 : 97 ≤ c) (h2 : c ≤ 122) : (!(Builtin.Str.occurrences lettersS ⟨#[c]⟩ 0 lettersS.length 1).isEmpty) = true := by
  have all : ∀ k : _root_.Fin 26, (!(Builtin.Str.occurrences lettersS ⟨#[97 + k.val]⟩ 0 lettersS.length 1).isEmpty) = true := by decide +kernel
  have e := all ⟨c - 97, by (first | lia | omega)⟩
  have e2 : 97 + (c - 97) = c := by (first | lia | omega)
  simp only [e2] at e
  exact e
section
variable {P : Program} {w : World} {K : PySem.W.Frag} {mg : Str → Option Value} {base : Heap}
structure Glb (mg : Str → Option Value) : Prop where
  isi : mg "isinstance" = none
  str : mg "str" = none
  len : mg "len" = none
  all : mg "all" = none
  letters : ∃ t, mg "LETTERS" = some (.str lettersS t)
  most : ∃ t, mg "MOST_LETTERS" = some (.int 4 t)
theorem scKind : FnScope ["thing"] ["thing"] (defScope sKind) := ⟨rfl, rfl, rfl, by decide +kernel, rfl, by decide +kernel, by decide +kernel⟩
def firstArg (e : Expr) : Expr := match e with
  | .Call _ (a :: _) _ _ => a
  | e => e
abbrev kindComp : Expr := firstArg (retExpr ((defBody sKind).getD 1 (.Pass ⟨0, 0, 0, 0⟩)))
theorem ckKind : compOk (defScope sKind) (compScope kindComp) ["thing"] ["sign"] 1 [] = true := by decide +kernel
theorem nd2 : (["sign"] : List Str).Nodup := by decide +kernel
theorem ok_kind {f : Addr} {fd : FuncData} (F : Fun K "is_kind" "is_kind" sKind f fd) (G : Glb mg) : FnOk P w K mg base CX0 1 f fd ["thing"] spKind := by
  obtain ⟨tl, hL⟩ := G.letters
  obtain ⟨tm, hM⟩ := G.most
  refine F.ok scKind (fun vs H Q E h => ?_) (fun cdv A outer s H vs Q E hr h => ?_)
  · obtain ⟨z, rfl, _⟩ := h
    rfl
  · obtain ⟨z, rfl, ⟨z1, z2, z3⟩, k⟩ := h
    obtain ⟨S, Cp⟩ := comp_of (X := (cxOf CX0 P w K mg base ["thing"] "is_kind" (defScope sKind) f cdv A outer s H E).nox) (outer := defScope sKind) (N := ["thing"]) rfl rfl ckKind
    refine ⟨_, pss_cons (ps_if (PW.pt (pw_or (pt_not (pt_val (pe_callB call_isinst rfl G.isi (by decide +kernel) (pa_cons (pv 0) (pa_cons (pe_bltn (v := .ty "str") (u := .type "str") rfl G.str (by decide +kernel) rfl) pa_nil)))))
          (pw_or1 (pt_not (pt_chain op_le op_le pe_int (pe_callB call_len_str rfl G.len PySem.boot_len (pa_cons (pv 0) pa_nil)) (pe_glob (v := .int 4) rfl hM ⟨tm, rfl⟩))))))
        (pss_one (ps_ret pe_bl)) pss_nil)
      (pss_one (ps_ret (pe_callB (call_all rfl) rfl G.all (by decide +kernel) (pa_cons (pe_lcomp (tg := .Name "sign" _) rfl S Cp (pi_str (pv 0))
        (fun C fp s₀ H₀ => pg_name (i := 0) nd2 rfl (Or.inl rfl) (.inr rfl)) (fun C fp s₀ H₀ => pif_nil)
        (fun C fp s₀ H₀ => pe_cmpR op_in_str (pv 0) (pe_glob (v := .str lettersS) rfl hL ⟨tl, rfl⟩) (by with_unfolding_all rfl))) pa_nil)))), ?_⟩
    have zs : z.length ≤ sizeLine := Nat.le_of_lt (small1000 (by (first | lia | omega)))
    refine ⟨_, rfl, _, _, _, true, rfl, .str z, kit_same K _, true, rfl, ?_⟩
    refine iteF ?_
    refine ⟨_, rfl, z, rfl, zs, 1, _, rfl, rfl, true, congrArg V.bl (decide_eq_true (by (first | lia | omega))), ?_⟩
    refine iteT ?_
    refine ⟨_, 4, rfl, rfl, true, congrArg V.bl (decide_eq_true (by (first | lia | omega))), ?_⟩
    refine iteF ?_
    dsimp only [tNext, tRet, tCB, tCons, tNil]
    refine lcomp_eq _ _ _ _ _ _ _ _ _ ?_
    refine ⟨_, rfl, z, rfl, ?_⟩
    intro D hD
    refine comp_str (fun i ys H2 => ys = (List.replicate i true).map V.bl ∧ H2 D = some (.lst ys) ∧ Same H H2) ⟨rfl, upd_same, fun b u e => by rw [upd_ne (ne_of_none e hD)]; exact e⟩ (fun i ys H2 ⟨_, h, _⟩ => h) ?_ ?_
    · rintro i ys H2 c hc ⟨rfl, hD2, sm⟩
      have hi : i < z.cps.size := (Array.getElem?_eq_some_iff.mp hc).1
      have hz : z.length = z.cps.size := rfl
      have hm : c ∈ z.cps.toList := by
        have := Array.mem_of_getElem? hc
        simpa using this
      refine turn_name rfl ?_
      refine ⟨_, rfl, _, _, rfl, rfl, hD2, by rw [List.length_map, List.length_replicate]; exact small1000 (by (first | lia | omega)), nx hi ⟨?_, upd_same, fun b u e => ?_⟩⟩
      · rw [in_letters c (z3 c hm).1 (z3 c hm).2, List.replicate_succ', List.map_append]
        rfl
      · rw [upd_ne (ne_of_none e hD)]
        exact sm b u e
    · rintro ys H2 ⟨rfl, hD2, sm⟩
      refine ⟨D, List.replicate z.cps.size true, rfl, SqL.of hD2, ?_⟩
      have e : (List.replicate z.cps.size true).all id = true := by simp
      rw [e]
      exact k H2 sm
end
end K7
set_option Elab.async false
set_option linter.all false
set_option maxRecDepth 100000
set_option maxHeartbeats 4000000
namespace K7
open PySem L2 PyProof.Rows
def spKinds : Sp := fun vs H Q _ => ∃ (a : Addr) (ks : List Str), vs = [.ref a] ∧ H a = some (.lst (ks.map V.str)) ∧ (∀ k ∈ ks, KindOk k) ∧ ks.length ≤ 1000 ∧ ∀ H', Same H H' → Q (.bl true) H'
def lastPart (e : Expr) : Expr := match e with
  | .BoolOp _ es _ => es.getLastD e
  | e => e
section
variable {P : Program} {w : World} {K : PySem.W.Frag} {mg : Str → Option Value} {base : Heap}
theorem scKinds : FnScope ["thing"] ["thing"] (defScope sKinds) := ⟨rfl, rfl, rfl, by decide +kernel, rfl, by decide +kernel, by decide +kernel⟩
abbrev kindsComp : Expr := firstArg (lastPart (retExpr ((defBody sKinds).getD 0 (.Pass ⟨0, 0, 0, 0⟩))))
theorem ckKinds : compOk (defScope sKinds) (compScope kindsComp) ["thing"] ["kind"] 1 [] = true := by decide +kernel
theorem nd3 : (["kind"] : List Str).Nodup := by decide +kernel
theorem ok_kinds {f fK : Addr} {fd fdK : FuncData} (F : Fun K "are_kinds" "are_kinds" sKinds f fd) (FK : Fun K "is_kind" "is_kind" sKind fK fdK) (cK : Cal K mg "is_kind" ["thing"] fK fdK) (G : Glb mg) (mLi : mg "list" = none) : FnOk P w K mg base CX0 2 f fd ["thing"] spKinds := by
  have GK : FnOk P w K mg base CX0 1 fK fdK ["thing"] spKind := ok_kind FK G
  refine F.ok scKinds (fun vs H Q E h => ?_) (fun cdv A outer s H vs Q E hr h => ?_)
  · obtain ⟨a, ks, rfl, _⟩ := h
    rfl
  · obtain ⟨a, ks, rfl, ha, hk, hl, k⟩ := h
    obtain ⟨S, Cp⟩ := comp_of (X := (cxOf CX0 P w K mg base ["thing"] "are_kinds" (defScope sKinds) f cdv A outer s H E).nox) (outer := defScope sKinds) (N := ["thing"]) rfl rfl ckKinds
    refine ⟨_, pss_one (ps_ret (pe_and (pe_callB call_isinst rfl G.isi (by decide +kernel) (pa_cons (pv 0) (pa_cons (pe_bltn (v := .ty "list") (u := .type "list") rfl mLi (by decide +kernel) rfl) pa_nil)))
      (pe_one (pe_callB (call_all rfl) rfl G.all (by decide +kernel) (pa_cons (pe_lcomp (tg := .Name "kind" _) rfl S Cp (pi_list (pv 0))
        (fun C fp s₀ H₀ => pg_name (i := 0) nd3 rfl (Or.inl rfl) (.inr rfl)) (fun C fp s₀ H₀ => pif_nil)
        (fun C fp s₀ H₀ => pe_call GK hr rfl cK.mg cK.kp cK.b .nil pass0 (pa_cons (pv 0) pa_nil))) pa_nil))))), ?_⟩
    refine ⟨_, rfl, _, _, _, true, rfl, .lst ha, kit_same K _, true, rfl, ?_⟩
    refine iteT ?_
    dsimp only [tNext, tRet, tCB, tCons, tNil]
    refine lcomp_eq _ _ _ _ _ _ _ _ _ ?_
    refine ⟨_, rfl, a, rfl, ⟨_, SqL.of ha⟩, ?_⟩
    intro D hD
    refine comp_list (xs := ks.map V.str) (fun i ys H2 => ys = (List.replicate i true).map V.bl ∧ i ≤ 1000 ∧ H2 D = some (.lst ys) ∧ Same H H2) ⟨rfl, by decide, upd_same, fun b u e => by rw [upd_ne (ne_of_none e hD)]; exact e⟩ (fun i ys H2 ⟨_, _, h, _⟩ => h) (fun i ys H2 ⟨_, _, _, sm⟩ => SqL.of (sm a _ ha)) ?_ ?_
    · rintro i ys H2 x hx ⟨rfl, hi0, hD2, sm⟩
      have hi : i < (ks.map V.str).length := (List.getElem?_eq_some_iff.mp hx).1
      have hi' := hi
      rw [List.length_map] at hi'
      rw [List.getElem?_map, List.getElem?_eq_getElem hi'] at hx
      cases hx
      refine turn_name rfl ?_
      refine ⟨_, rfl, ks[i], rfl, hk _ (List.getElem_mem hi'), fun H3 sm3 => ?_⟩
      refine ⟨sm3 D _ hD2, by rw [List.length_map, List.length_replicate]; exact small1000 (by (first | lia | omega)), nx hi ⟨?_, by (first | lia | omega), upd_same, fun b u e => ?_⟩⟩
      · rw [List.replicate_succ', List.map_append]
        rfl
      · rw [upd_ne (ne_of_none e hD)]
        exact sm3 b u (sm b u e)
    · rintro ys H2 ⟨rfl, _, hD2, sm⟩
      refine ⟨D, List.replicate (ks.map V.str).length true, rfl, SqL.of hD2, ?_⟩
      have e : (List.replicate (ks.map V.str).length true).all id = true := by simp
      rw [e]
      exact k H2 sm
end
end K7
set_option Elab.async false
set_option linter.all false
set_option maxRecDepth 100000
set_option maxHeartbeats 4000000
namespace K7
open PySem L2 PyProof.Rows
def spLocks : Sp := fun vs H Q _ => ∃ (a : Addr) (ks : List Str), vs = [.ref a] ∧ H a = some (.lst (ks.map V.str)) ∧ (∀ k ∈ ks, KindOk k) ∧ 1 ≤ ks.length ∧ ks.length ≤ 4 ∧ ks.Pairwise leS ∧ ∀ H', Same H H' → Q (.bl true) H'
theorem strs_lay {ks : List Str} (h : ∀ k ∈ ks, KindOk k) : PyData.canLayAll0 (ks.map PyData.str) = true := by
  induction ks with
  | nil => rfl
  | cons z r ih =>
    have hz := h z List.mem_cons_self
    have hs : PyData.strOk z = true := by
      unfold PyData.strOk
      rw [← Array.all_toList, List.all_eq_true]
      intro c hc
      exact decide_eq_true (by have := hz.2.2 c hc; (first | lia | omega))
    rw [List.map_cons]
    simp only [PyData.canLayAll0, PyData.canLay0, hs, Bool.true_and]
    exact ih fun k hk => h k (List.mem_cons_of_mem _ hk)
theorem strs_eqv : ∀ ks : List Str, PyData.eqvAll (ks.map PyData.str) (ks.map PyData.str) = true
  | [] => rfl
  | z :: r => by
    rw [List.map_cons]
    simp only [PyData.eqvAll, PyData.eqv, beq_self_eq_true, Bool.true_and]
    exact strs_eqv r
theorem strs_depth : ∀ ks : List Str, PyData.depthAll (ks.map PyData.str) = 0
  | [] => rfl
  | z :: r => by
    rw [List.map_cons]
    simp only [PyData.depthAll, PyData.depth, strs_depth r]
    rfl
section
variable {P : Program} {w : World} {K : PySem.W.Frag} {mg : Str → Option Value} {base : Heap}
theorem scLocks : FnScope ["thing"] ["thing"] (defScope sLocks) := ⟨rfl, rfl, rfl, by decide +kernel, rfl, by decide +kernel, by decide +kernel⟩
theorem ok_locks {f fK : Addr} {fd fdK : FuncData} (F : Fun K "are_locks" "are_locks" sLocks f fd) (GK : FnOk P w K mg base CX0 2 fK fdK ["thing"] spKinds) (cK : Cal K mg "are_kinds" ["thing"] fK fdK) (mLe : mg "len" = none) (mSo : mg "sorted" = none) (hM : ∃ t, mg "MOST_LOCKS" = some (.int 4 t)) :
    FnOk P w K mg base CX0 3 f fd ["thing"] spLocks := by
  obtain ⟨tm, hM⟩ := hM
  refine F.ok scLocks (fun vs H Q E h => ?_) (fun cdv A outer s H vs Q E hr h => ?_)
  · obtain ⟨a, ks, rfl, _⟩ := h
    rfl
  · obtain ⟨a, ks, rfl, ha, hk, h1, h4, hs, k⟩ := h
    have hu := hu_of hr
    refine ⟨_, pss_one (ps_ret (pe_and (pe_call GK hr rfl cK.mg cK.kp cK.b .nil pass0 (pa_cons (pv 0) pa_nil))
      (pe_and (pe_chain op_le op_le pe_int (pe_callB call_len_seq rfl mLe PySem.boot_len (pa_cons (pv 0) pa_nil)) (pe_glob (v := .int 4) rfl hM ⟨tm, rfl⟩))
      (pe_one (pe_cmpR op_eqD (pv 0) (pe_callB call_sorted rfl mSo boot_sorted (pa_cons (pv 0) pa_nil)) (nomark _)))))), ?_⟩
    refine ⟨_, rfl, a, ks, rfl, ha, hk, by (first | lia | omega), fun H1 s1 => ⟨true, rfl, ?_⟩⟩
    refine iteT ?_
    have ha1 := s1 a _ ha
    refine ⟨_, rfl, a, _, rfl, .inl (SqL.of ha1), 1, _, rfl, rfl, true, congrArg V.bl (decide_eq_true (by rw [List.length_map]; (first | lia | omega))), ?_⟩
    refine iteT ?_
    refine ⟨_, 4, rfl, rfl, true, congrArg V.bl (decide_eq_true (by rw [List.length_map]; (first | lia | omega))), ?_⟩
    refine iteT ?_
    refine ⟨_, rfl, _, rfl, a, ks, rfl, SqL.of ha1, by (first | lia | omega), fun l ss hl hp hs' => ?_⟩
    have e : ss = ks := sorted_one (sortedS_pairwise hs') hs hp
    subst e
    have ne : a ≠ l := ne_of_none ha1 hl
    refine ⟨.list (ss.map PyData.str), .list (ss.map PyData.str), .lst (by rw [upd_ne ne]; exact ha1) (SeesAll.strs ss), .lst upd_same (SeesAll.strs ss), strs_lay hk, strs_lay hk, ?_, ?_⟩
    · show _ + min (PyData.depthAll (ss.map PyData.str) + 1) (PyData.depthAll (ss.map PyData.str) + 1) < cLine
      rw [strs_depth]
      exact hu
    · have ee : PyData.eqv (.list (ss.map PyData.str)) (.list (ss.map PyData.str)) = true := strs_eqv ss
      rw [ee]
      exact k _ fun b u e => by rw [upd_ne (ne_of_none (s1 b u e) hl)]; exact s1 b u e
end
end K7
set_option Elab.async false
set_option linter.all false
set_option maxRecDepth 100000
set_option maxHeartbeats 4000000
namespace K7
open PySem L2 PyProof.Rows
abbrev Rm := List Str × List Str
structure RoomOk (r : Rm) : Prop where
  lk : ∀ k ∈ r.1, KindOk k
  l1 : 1 ≤ r.1.length
  l4 : r.1.length ≤ 4
  so : r.1.Pairwise leS
  kk : ∀ k ∈ r.2, KindOk k
  kl : r.2.length ≤ 1000
def RoomAt (H : Hp) (v : V) (r : Rm) : Prop := ∃ t a b : Addr, v = .ref t ∧ H t = some (.tup [.ref a, .ref b]) ∧ H a = some (.lst (r.1.map V.str)) ∧ H b = some (.lst (r.2.map V.str))
theorem RoomAt.same {H H' : Hp} {v : V} {r : Rm} (s : Same H H') (h : RoomAt H v r) : RoomAt H' v r := by
  obtain ⟨t, a, b, e, h1, h2, h3⟩ := h
  exact ⟨t, a, b, e, s _ _ h1, s _ _ h2, s _ _ h3⟩
def spRoom : Sp := fun vs H Q _ => ∃ (v : V) (r : Rm), vs = [v] ∧ RoomAt H v r ∧ RoomOk r ∧ ∀ H', Same H H' → Q (.bl true) H'
section
variable {P : Program} {w : World} {K : PySem.W.Frag} {mg : Str → Option Value} {base : Heap}
theorem scRoom : FnScope ["thing"] ["thing"] (defScope sRoom) := ⟨rfl, rfl, rfl, by decide +kernel, rfl, by decide +kernel, by decide +kernel⟩
theorem ok_room {f fL fK : Addr} {fd fdL fdK : FuncData} (F : Fun K "is_room" "is_room" sRoom f fd) (GL : FnOk P w K mg base CX0 3 fL fdL ["thing"] spLocks) (cL : Cal K mg "are_locks" ["thing"] fL fdL)
    (GK : FnOk P w K mg base CX0 2 fK fdK ["thing"] spKinds) (cK : Cal K mg "are_kinds" ["thing"] fK fdK) (mI : mg "isinstance" = none) (mLe : mg "len" = none) (mTu : mg "tuple" = none) : FnOk P w K mg base CX0 4 f fd ["thing"] spRoom := by
  refine F.ok scRoom (fun vs H Q E h => ?_) (fun cdv A outer s H vs Q E hr h => ?_)
  · obtain ⟨v, r, rfl, _⟩ := h
    rfl
  · obtain ⟨v, r, rfl, ⟨t, a, b, rfl, ht, ha, hb⟩, ok, k⟩ := h
    refine ⟨_, pss_one (ps_ret (pe_and (pe_callB call_isinst rfl mI (by decide +kernel) (pa_cons (pv 0) (pa_cons (pe_bltn (v := .ty "tuple") (u := .type "tuple") rfl mTu (by decide +kernel) rfl) pa_nil)))
      (pe_and (pe_cmpR op_eq (pe_callB call_len_seq rfl mLe PySem.boot_len (pa_cons (pv 0) pa_nil)) pe_int (nomark _))
      (pe_and (pe_call GL hr rfl cL.mg cL.kp cL.b .nil pass0 (pa_cons (pe_ix ix_tup (pv 0) pe_int (fun _ _ => rfl)) pa_nil))
      (pe_one (pe_call GK (hr.mono (by decide)) rfl cK.mg cK.kp cK.b .nil pass0 (pa_cons (pe_ix ix_tup (pv 0) pe_int (fun _ _ => rfl)) pa_nil))))))), ?_⟩
    refine ⟨_, rfl, _, _, _, true, rfl, .tup ht, kit_same K _, true, rfl, ?_⟩
    refine iteT ?_
    refine ⟨_, rfl, t, _, rfl, .inr (SqT.of ht), rfl, true, rfl, ?_⟩
    refine iteT ?_
    refine ⟨_, rfl, t, _, 0, .ref a, rfl, rfl, SqT.of ht, rfl, a, r.1, rfl, ha, ok.lk, ok.l1, ok.l4, ok.so, fun H1 s1 => ⟨true, rfl, ?_⟩⟩
    refine iteT ?_
    refine ⟨_, rfl, t, _, 1, .ref b, rfl, rfl, SqT.of (s1 _ _ ht), rfl, b, r.2, rfl, s1 _ _ hb, ok.kk, ok.kl, fun H2 s2 => ?_⟩
    exact k H2 (s1.trans s2)
end
end K7
set_option Elab.async false
set_option linter.all false
set_option maxRecDepth 100000
set_option maxHeartbeats 4000000
namespace K7
open PySem L2 PyProof.Rows
abbrev Hs := List Str × List Rm
def RoomsAt (H : Hp) (vs : List V) (rs : List Rm) : Prop := vs.length = rs.length ∧ ∀ (i : Nat) (v : V) (r : Rm), vs[i]? = some v → rs[i]? = some r → RoomAt H v r
theorem RoomsAt.same {H H' : Hp} {vs : List V} {rs : List Rm} (s : Same H H') (h : RoomsAt H vs rs) : RoomsAt H' vs rs := ⟨h.1, fun i v r a b => (h.2 i v r a b).same s⟩
def HouseAt (H : Hp) (v : V) (h : Hs) : Prop := ∃ (t a r : Addr) (vs : List V), v = .ref t ∧ H t = some (.tup [.ref a, .ref r]) ∧ H a = some (.lst (h.1.map V.str)) ∧ H r = some (.lst vs) ∧ RoomsAt H vs h.2
theorem HouseAt.same {H H' : Hp} {v : V} {h : Hs} (s : Same H H') (x : HouseAt H v h) : HouseAt H' v h := by
  obtain ⟨t, a, r, vs, e, h1, h2, h3, h4⟩ := x
  exact ⟨t, a, r, vs, e, s _ _ h1, s _ _ h2, s _ _ h3, h4.same s⟩
structure HouseOk (h : Hs) : Prop where
  kk : ∀ k ∈ h.1, KindOk k
  kl : h.1.length ≤ 1000
  rs : ∀ r ∈ h.2, RoomOk r
  rl : h.2.length ≤ 1000
def spHouse : Sp := fun vs H Q _ => ∃ (v : V) (h : Hs), vs = [v] ∧ HouseAt H v h ∧ HouseOk h ∧ ∀ H', Same H H' → Q (.bl true) H'
def spReq : Sp := fun vs H Q _ => ∃ (v : V) (h : Hs), vs = [v] ∧ HouseAt H v h ∧ HouseOk h ∧ ∀ H', Same H H' → Q .non H'
section
variable {P : Program} {w : World} {K : PySem.W.Frag} {mg : Str → Option Value} {base : Heap}
theorem scHouse : FnScope ["thing", "keys", "rooms"] ["thing"] (defScope sHouse) := ⟨rfl, rfl, rfl, by decide +kernel, rfl, by decide +kernel, by decide +kernel⟩
abbrev houseComp : Expr := firstArg (lastPart (retExpr ((defBody sHouse).getD 2 (.Pass ⟨0, 0, 0, 0⟩))))
theorem ckHouse : compOk (defScope sHouse) (compScope houseComp) ["thing", "keys", "rooms"] ["room"] 1 [] = true := by decide +kernel
theorem nd4 : (["room"] : List Str).Nodup := by decide +kernel
theorem ok_house {f fR fK : Addr} {fd fdR fdK : FuncData} (F : Fun K "is_house" "is_house" sHouse f fd) (GR : FnOk P w K mg base CX0 4 fR fdR ["thing"] spRoom) (cR : Cal K mg "is_room" ["thing"] fR fdR)
    (GK : FnOk P w K mg base CX0 2 fK fdK ["thing"] spKinds) (cK : Cal K mg "are_kinds" ["thing"] fK fdK) (mI : mg "isinstance" = none) (mLe : mg "len" = none) (mTu : mg "tuple" = none) (mLi : mg "list" = none) (mAl : mg "all" = none) : FnOk P w K mg base CX0 5 f fd ["thing"] spHouse := by
  refine F.ok scHouse (fun vs H Q E h => ?_) (fun cdv A outer s H vs Q E hr h => ?_)
  · obtain ⟨v, r, rfl, _⟩ := h
    rfl
  · obtain ⟨v, hs, rfl, ⟨t, a, r, vs, rfl, ht, ha, hr', hR⟩, ok, k⟩ := h
    obtain ⟨S, Cp⟩ := comp_of (X := (cxOf CX0 P w K mg base ["thing", "keys", "rooms"] "is_house" (defScope sHouse) f cdv A outer s H E).nox) (outer := defScope sHouse) (N := ["thing", "keys", "rooms"]) rfl rfl ckHouse
    refine ⟨_, pss_cons (ps_if (PW.pt (pw_or (pt_not (pt_val (pe_callB call_isinst rfl mI (by decide +kernel) (pa_cons (pv 0) (pa_cons (pe_bltn (v := .ty "tuple") (u := .type "tuple") rfl mTu (by decide +kernel) rfl) pa_nil)))))
          (pw_or1 (pt_cmpR op_ne (pe_callB call_len_seq rfl mLe PySem.boot_len (pa_cons (pv 0) pa_nil)) pe_int (nomark _)))))
        (pss_one (ps_ret pe_bl)) pss_nil)
      (pss_cons (ps_asg (pv 0) (pg_tup rfl (pgs_cons (pg_name (i := 1) scHouse.nd rfl (Or.inl rfl)) (pgs_cons (pg_name (i := 2) scHouse.nd rfl (Or.inl rfl)) pgs_nil))))
      (pss_one (ps_ret (pe_and (pe_call GK (hr.mono (by decide)) rfl cK.mg cK.kp cK.b .nil pass0 (pa_cons (pv 1) pa_nil))
        (pe_and (pe_callB call_isinst rfl mI (by decide +kernel) (pa_cons (pv 2) (pa_cons (pe_bltn (v := .ty "list") (u := .type "list") rfl mLi (by decide +kernel) rfl) pa_nil)))
        (pe_one (pe_callB (call_all rfl) rfl mAl (by decide +kernel) (pa_cons (pe_lcomp (tg := .Name "room" _) rfl S Cp (pi_list (pv 2))
          (fun C fp s₀ H₀ => pg_name (i := 0) nd4 rfl (Or.inl rfl) (.inr rfl)) (fun C fp s₀ H₀ => pif_nil)
          (fun C fp s₀ H₀ => pe_call GR hr rfl cR.mg cR.kp cR.b .nil pass0 (pa_cons (pv 0) pa_nil))) pa_nil)))))))), ?_⟩
    refine ⟨_, rfl, _, _, _, true, rfl, .tup ht, kit_same K _, true, rfl, ?_⟩
    refine iteF ?_
    refine ⟨_, rfl, t, _, rfl, .inr (SqT.of ht), rfl, false, rfl, ?_⟩
    refine iteF ?_
    refine ⟨_, rfl, t, _, rfl, SqT.of ht, rfl, _, _, rfl, _, _, rfl, rfl, ?_⟩
    refine ⟨_, rfl, a, hs.1, rfl, ha, ok.kk, ok.kl, fun H1 s1 => ⟨true, rfl, ?_⟩⟩
    refine iteT ?_
    refine ⟨_, rfl, _, _, _, true, rfl, .lst (s1 _ _ hr'), kit_same K _, true, rfl, ?_⟩
    refine iteT ?_
    dsimp only [tNext, tRet, tCB, tCons, tNil]
    refine lcomp_eq _ _ _ _ _ _ _ _ _ ?_
    refine ⟨_, rfl, r, rfl, ⟨_, SqL.of (s1 _ _ hr')⟩, ?_⟩
    intro D hD
    have hl : vs.length ≤ 1000 := by rw [hR.1]; exact ok.rl
    refine comp_list (xs := vs) (fun i ys H2 => ys = (List.replicate i true).map V.bl ∧ i ≤ 1000 ∧ H2 D = some (.lst ys) ∧ Same H1 H2) ⟨rfl, by decide, upd_same, fun b u e => by rw [upd_ne (ne_of_none e hD)]; exact e⟩ (fun i ys H2 ⟨_, _, h, _⟩ => h) (fun i ys H2 ⟨_, _, _, sm⟩ => SqL.of (sm r _ (s1 _ _ hr'))) ?_ ?_
    · rintro i ys H2 x hx ⟨rfl, hi0, hD2, sm⟩
      have hi : i < vs.length := (List.getElem?_eq_some_iff.mp hx).1
      have hi' : i < hs.2.length := by rw [← hR.1]; exact hi
      refine turn_name rfl ?_
      refine ⟨_, rfl, x, hs.2[i], rfl, ((hR.2 i x _ hx (List.getElem?_eq_getElem hi')).same s1).same sm, ok.rs _ (List.getElem_mem hi'), fun H3 sm3 => ?_⟩
      refine ⟨sm3 D _ hD2, by rw [List.length_map, List.length_replicate]; exact small1000 (by (first | lia | omega)), nx hi ⟨?_, by (first | lia | omega), upd_same, fun b u e => ?_⟩⟩
      · rw [List.replicate_succ', List.map_append]
        rfl
      · rw [upd_ne (ne_of_none e hD)]
        exact sm3 b u (sm b u e)
    · rintro ys H2 ⟨rfl, _, hD2, sm⟩
      refine ⟨D, List.replicate vs.length true, rfl, SqL.of hD2, ?_⟩
      have e : (List.replicate vs.length true).all id = true := by simp
      rw [e]
      exact k H2 (s1.trans sm)
theorem scReq : FnScope ["thing"] ["thing"] (defScope sReq) := ⟨rfl, rfl, rfl, by decide +kernel, rfl, by decide +kernel, by decide +kernel⟩
theorem ok_req {f fH : Addr} {fd fdH : FuncData} (F : Fun K "require_house" "require_house" sReq f fd) (GH : FnOk P w K mg base CX0 5 fH fdH ["thing"] spHouse) (cH : Cal K mg "is_house" ["thing"] fH fdH) : FnOk P w K mg base CX0 6 f fd ["thing"] spReq := by
  refine F.ok scReq (fun vs H Q E h => ?_) (fun cdv A outer s H vs Q E hr h => ?_)
  · obtain ⟨v, r, rfl, _⟩ := h
    rfl
  · obtain ⟨v, hs, rfl, hh, ok, k⟩ := h
    refine ⟨_, pss_one (ps_if (pt_not (pt_val (pe_call GH hr rfl cH.mg cH.kp cH.b .nil pass0 (pa_cons (pv 0) pa_nil)))) pss_never pss_nil), ?_⟩
    refine ⟨_, rfl, v, hs, rfl, hh, ok, fun H1 s1 => ⟨true, rfl, ?_⟩⟩
    refine iteF ?_
    exact k H1 s1
end
end K7
set_option Elab.async false
set_option linter.all false
set_option maxRecDepth 100000
set_option maxHeartbeats 4000000
namespace K7
open PySem L2 PyProof.Rows
end K7
set_option Elab.async false
set_option linter.all false
set_option maxRecDepth 100000
set_option maxHeartbeats 4000000
namespace L2
open PySem PySem.Spec PyProof.Rows
section
variable {X : Cx} {o e : Expr} {es : List Expr} {to : TE} {t : TA} {name : Str} {apos cpos : Pos} {T id : String} {r : V → List V → Hp → VK → Prop} {K : PySem.W.Frag}
theorem pe_bmK (hK : X.K = K) (pa : PlainAttrs T) (slot : Slot T name id) (hty : typeOf (.builtin id) = pure (.type "method_descriptor")) (hm : MtR X id r) (ho : PE X o to) (ha : PA X (e :: es) t)
    (hbase : attributeBase o name X.env (eval o X.env) = eval o X.env := by rfl)
    (hfew : ((backTo cpos (starEach (e :: es) X.env)).all (fun x => !x.1) && (backToKw cpos (keywordEach [] X.env)).all (fun x => x.1.isSome)
      && decide ((e :: es).length + ([] : List Keyword).length + (if ([] : List Keyword).isEmpty then 0 else 1) < 30)) = true := by rfl)
    (hline : (apos.endLine == cpos.line) = true := by rfl) (hs : starEach (e :: es) X.env = (false, eval e X.env) :: starEach es X.env := by rfl) (hplain : (backTo cpos (starEach es X.env)).any (·.1) = false := by rfl) :
    PE X (.Call (.Attribute o name apos) (e :: es) [] cpos) (tBM K T r to t) := by
  subst hK
  exact pe_bm pa slot hty hm ho ha hbase hfew hline hs hplain
end
end L2
namespace K7
open PySem L2 PyProof.Rows
def allKeys (h : Hs) : List Str := h.1 ++ h.2.flatMap (·.2)
def allLocks (h : Hs) : List Str := h.2.flatMap (·.1)
structure HouseFew (h : Hs) : Prop where
  few : ∃ U : List Str, U.length < 61 ∧ ∀ x, (x ∈ allKeys h ∨ x ∈ allLocks h) → x ∈ U
  nk : (allKeys h).length ≤ 1000
  nl : (allLocks h).length ≤ 1000
theorem nodup_sub_length {α : Type} [DecidableEq α] : ∀ {l U : List α}, l.Nodup → (∀ x ∈ l, x ∈ U) → l.length ≤ U.length
  | [], U, _, _ => Nat.zero_le _
  | a :: r, U, hn, h => by
    rw [List.nodup_cons] at hn
    have ha := h a List.mem_cons_self
    have ih := nodup_sub_length (U := U.erase a) hn.2 fun x hx => by
      have ne : x ≠ a := fun z => hn.1 (z ▸ hx)
      exact (List.mem_erase_of_ne ne).mpr (h x (List.mem_cons_of_mem _ hx))
    have hl := List.length_erase_of_mem ha
    have hp : 0 < U.length := List.length_pos_of_mem ha
    rw [List.length_cons]
    (first | lia | omega)
end K7
set_option Elab.async false
set_option linter.all false
set_option maxRecDepth 100000
set_option maxHeartbeats 4000000
namespace L2
open PySem PySem.Spec PyProof.Rows
theorem kit_int_bool (K : PySem.W.Frag) : PySem.W.kitOne K (.type "int") (.type "bool") = some false := by
  first
    | rfl
    | (with_unfolding_all rfl)
end L2
namespace K7
open PySem L2 PyProof.Rows
def forBody (s : Stmt) : List Stmt := match s with
  | .For _ _ b _ _ => b
  | _ => []
end K7
set_option Elab.async false
set_option linter.all false
set_option maxRecDepth 100000
set_option maxHeartbeats 4000000
namespace K7
open PySem L2 PyProof.Rows
theorem letters_codes : lettersS.cps.toList = List.range' 97 26 := by decide +kernel
theorem letters_at (r : Nat) (h : r < 26) : atI lettersS.cps.toList (r : Int) = some (97 + r) := atI_nat (by rw [letters_codes, List.getElem?_range' h]; simp)
theorem letters_len : lettersS.length ≤ sizeLine := by decide
def CodesOk (l : List Nat) : Prop := 1 ≤ l.length ∧ l.length ≤ 4 ∧ ∀ c ∈ l, 97 ≤ c ∧ c ≤ 122
theorem kind_of {z : Str} (h : CodesOk z.cps.toList) : KindOk z := by
  obtain ⟨h1, h2, h3⟩ := h
  have e : z.cps.toList.length = z.length := Array.length_toList
  exact ⟨by (first | lia | omega), by (first | lia | omega), h3⟩
theorem of_kind {z : Str} (h : KindOk z) : CodesOk z.cps.toList := by
  obtain ⟨h1, h2, h3⟩ := h
  have e : z.cps.toList.length = z.length := Array.length_toList
  exact ⟨by (first | lia | omega), by (first | lia | omega), h3⟩
def wordOf (t : Nat) : Str := ⟨#[97 + t / 26, 97 + t % 26, 122, 122]⟩
theorem word_inj {s t : Nat} (h : wordOf s = wordOf t) : s = t := by
  unfold wordOf at h
  injection h with h
  have h' := congrArg Array.toList h
  simp only [List.cons.injEq] at h'
  (first | lia | omega)
theorem word_ok {t : Nat} (h : t < 676) : KindOk (wordOf t) := by
  refine ⟨by show 1 ≤ 4; decide, by show 4 ≤ 4; decide, fun c hc => ?_⟩
  have hc' : c ∈ [97 + t / 26, 97 + t % 26, 122, 122] := hc
  simp only [List.mem_cons, List.not_mem_nil, or_false] at hc'
  (first | lia | omega)
def spMade : Sp := fun vs H Q _ => ∃ (p : Addr) (n : Nat) (c : Int), vs = [.ref p, .int n] ∧ PoolAt H p c ∧ n ≤ 60 ∧ 0 ≤ c ∧ c + 540 < 1000000 ∧
  ∀ (l : Addr) (ks : List Str) (c' : Int) (H' : Hp), H l = none → ks.length = n → (∀ k ∈ ks, KindOk k) → ks.Nodup → H' l = some (.lst (ks.map V.str)) → PoolAt H' p c' → c ≤ c' → c' ≤ c + 540 → But p H H' → Q (.ref l) H'
theorem ones_codes : ∀ {ss : List Str}, (∀ x ∈ ss, ∃ c, x = ⟨#[c]⟩ ∧ 97 ≤ c ∧ c ≤ 122) → ((ss.map (·.cps.toList)).flatten).length = ss.length ∧ ∀ c ∈ (ss.map (·.cps.toList)).flatten, 97 ≤ c ∧ c ≤ 122
  | [], _ => ⟨rfl, (fun c h => by simp at h)⟩
  | a :: r, h => by
    obtain ⟨c, rfl, h1, h2⟩ := h a List.mem_cons_self
    obtain ⟨i1, i2⟩ := ones_codes (ss := r) fun x hx => h x (List.mem_cons_of_mem _ hx)
    rw [List.map_cons, List.flatten_cons]
    refine ⟨?_, fun d hd => ?_⟩
    · rw [List.length_append, i1, List.length_cons]
      show 1 + r.length = r.length + 1
      (first | lia | omega)
    · rcases List.mem_append.mp hd with hd | hd
      · have : d = c := by simpa using hd
        (first | lia | omega)
      · exact i2 d hd
theorem ones_sum : ∀ {ss : List Str}, (∀ x ∈ ss, ∃ c, x = ⟨#[c]⟩ ∧ 97 ≤ c ∧ c ≤ 122) → (ss.map (·.length)).sum = ss.length
  | [], _ => rfl
  | a :: r, h => by
    obtain ⟨c, rfl, h1, h2⟩ := h a List.mem_cons_self
    rw [List.map_cons, List.sum_cons, ones_sum fun x hx => h x (List.mem_cons_of_mem _ hx), List.length_cons]
    show 1 + r.length = r.length + 1
    (first | lia | omega)
theorem in_strs (z : Str) (ks : List Str) : inV (.str z) (ks.map V.str) = decide (z ∈ ks) := by
  unfold inV
  induction ks with
  | nil => rfl
  | cons a r ih =>
    rw [List.map_cons, List.any_cons, ih]
    show (a == z || decide (z ∈ r)) = _
    by_cases e : a = z
    · subst e; simp
    · have e' : (a == z) = false := by simpa using e
      rw [e', Bool.false_or]
      by_cases hz : z ∈ r
      · simp [hz]
      · simp [hz, Ne.symm e]
theorem flat_strs (ks : List Str) : (ks.map V.str).all flatV = true := by
  rw [List.all_map, List.all_eq_true]
  intro _ _
  rfl
theorem kind_size {z : Str} (h : KindOk z) : z.length ≤ sizeLine := Nat.le_of_lt (small1000 (by have := h.2.1; (first | lia | omega)))
theorem last_of {ks : List Str} (h : ks ≠ []) : ∃ y, y ∈ ks ∧ atI (ks.map V.str) (-1) = some (.str y) := by
  rcases List.eq_nil_or_concat ks with e | ⟨r, y, e⟩
  · exact absurd e h
  · rw [List.concat_eq_append] at e
    subst e
    exact ⟨y, by simp, by rw [List.map_append]; exact atI_last _ _⟩
theorem eqv_nil (ks : List Str) : PyData.eqv (.list (ks.map PyData.str)) (.list []) = ks.isEmpty := by
  cases ks with
  | nil => rfl
  | cons a r => rfl
def asgVal (s : Stmt) : Expr := match s with
  | .Assign _ e _ => e
  | _ => .Name "" ⟨0, 0, 0, 0⟩
section
variable {P : Program} {w : World} {K : PySem.W.Frag} {mg : Str → Option Value} {base : Heap}
theorem scMade : FnScope ["pool", "many", "letters", "found", "k", "kind", "way", "at", "turn"] ["pool", "many"] (defScope sMade) := ⟨rfl, rfl, rfl, by decide +kernel, rfl, by decide +kernel, by decide +kernel⟩
abbrev madeComp : Expr := firstArg (asgVal ((forBody ((defBody sMade).getD 2 (.Pass ⟨0, 0, 0, 0⟩))).getD 0 (.Pass ⟨0, 0, 0, 0⟩)))
theorem ckMade : compOk (defScope sMade) (compScope madeComp) ["pool", "many", "letters", "found", "k", "kind", "way", "at", "turn"] ["j", "letters", "pool"] 1 [2, 0] = true := by decide +kernel
theorem nd8 : (["j", "letters", "pool"] : List Str).Nodup := by decide +kernel
inductive MdI1 (p : Addr) (n : Nat) (l : Addr) (i : Nat) (c1 : Int) (H2 : Hp) (σ' : L2.St) (H' : Hp) : Prop
  | mk (x6 x7 x8 : Option V) (z : Str) (c' : Int) : (σ' = [some (.ref p), some (.int n), some (.str lettersS), some (.ref l), some (.int (0 + i)), some (.str z), x6, x7, x8]) → (KindOk z) → (PoolAt H' p c') → (c1 ≤ c') → (c' ≤ c1 + 5) → (But p H2 H') → MdI1 p n l i c1 H2 σ' H'
inductive MdI2 (p : Addr) (n : Nat) (l : Addr) (i : Nat) (wy : Int) (c1 : Int) (H2 : Hp) (σ' : L2.St) (H' : Hp) : Prop
  | mk (x7 x8 : Option V) (z : Str) (c' : Int) : (σ' = [some (.ref p), some (.int n), some (.str lettersS), some (.ref l), some (.int (0 + i)), some (.str z), some (.int wy), x7, x8]) → (KindOk z) → (PoolAt H' p c') → (c1 ≤ c') → (c' ≤ c1 + 7) → (But p H2 H') → MdI2 p n l i wy c1 H2 σ' H'
inductive MdI3 (p : Addr) (n : Nat) (l : Addr) (i : Nat) (wy : Int) (c1 : Int) (H2 : Hp) (σ' : L2.St) (H' : Hp) : Prop
  | mk (x7 x8 : Option V) (z : Str) (c' : Int) : (σ' = [some (.ref p), some (.int n), some (.str lettersS), some (.ref l), some (.int (0 + i)), some (.str z), some (.int wy), x7, x8]) → (KindOk z) → (PoolAt H' p c') → (c1 ≤ c') → (c' ≤ c1 + 9) → (But p H2 H') → MdI3 p n l i wy c1 H2 σ' H'
inductive MdL (p l : Addr) (n : Nat) (c : Int) (H : Hp) (i : Nat) (σ : L2.St) (H2 : Hp) : Prop
  | mk (x4 x5 x6 x7 x8 : Option V) (ks : List Str) (c' : Int) : σ = [some (.ref p), some (.int n), some (.str lettersS), some (.ref l), x4, x5, x6, x7, x8] → ks.length = i → (∀ k ∈ ks, KindOk k) → ks.Nodup → H2 l = some (.lst (ks.map V.str)) → PoolAt H2 p c' → c ≤ c' → c' ≤ c + 9 * i → But p H H2 → MdL p l n c H i σ H2
theorem ok_made {f fT : Addr} {fd fdT : FuncData} (F : Fun K "_law_kinds" "_law_kinds" sMade f fd) (GT : FnOk P w K mg base CX0 1 fT fdT ["pool", "many"] spTake) (cT : Cal K mg "_law_take" ["pool", "many"] fT fdT) (mR : mg "range" = none) (mL : mg "len" = none) :
    FnOk P w K mg base CX0 2 f fd ["pool", "many"] spMade := by
  refine F.ok scMade (fun vs H Q E h => ?_) (fun cdv A outer s H vs Q E hr h => ?_)
  · obtain ⟨p, n, c, rfl, _⟩ := h
    rfl
  · obtain ⟨p, n, c, rfl, ⟨o, hp, hpo⟩, hn, hc, hcn, k⟩ := h
    have hu := hu_of hr
    obtain ⟨S, Cp⟩ := comp_of (X := (cxOf CX0 P w K mg base ["pool", "many", "letters", "found", "k", "kind", "way", "at", "turn"] "_law_kinds" (defScope sMade) f cdv A outer s H E).nox) (outer := defScope sMade) (N := ["pool", "many", "letters", "found", "k", "kind", "way", "at", "turn"]) rfl rfl ckMade
    have tk : ∀ {b : Expr} {t : TE}, PE (cxOf CX0 P w K mg base ["pool", "many", "letters", "found", "k", "kind", "way", "at", "turn"] "_law_kinds" (defScope sMade) f cdv A outer s H E).nox b t → True := fun _ => trivial
    refine ⟨_, pss_cons (ps_set (i := 2) scMade.nd rfl (Or.inr rfl) pe_str)
      (pss_cons (ps_set (i := 3) scMade.nd rfl (Or.inl rfl) (pe_lst pa_nil))
      (pss_cons (ps_for PassesOwn.never rfl (pi_range1 rfl mR (pa_cons (pv 1) pa_nil)) (pg_name (i := 4) scMade.nd rfl (Or.inl rfl))
        (pss_cons (ps_cut (ps_set (i := 5) scMade.nd rfl (Or.inl rfl) (pe_bm PySem.F.plainAttrs_str PySem.F.slot_str_join PySem.F.type_str_join mt_join pe_str (pa_cons (pe_lcomp (tg := .Name "j" _) rfl S Cp
            (pi_range1 rfl mR (pa_cons (pe_op op_add pe_int (pe_call GT hr rfl cT.mg cT.kp cT.b .nil pass0 (pa_cons (pv 0) (pa_cons pe_int pa_nil)))) pa_nil))
            (fun C fp s₀ H₀ => pg_name (i := 0) nd8 rfl (Or.inl rfl) (.inr rfl)) (fun C fp s₀ H₀ => pif_nil)
            (fun C fp s₀ H₀ => pe_ix ix_str (pv 1) (pe_call GT hr rfl cT.mg cT.kp cT.b .nil pass0 (pa_cons (pv 2) (pa_cons pe_int pa_nil))) (fun _ _ => rfl))) pa_nil))))
        (pss_cons (ps_set (i := 6) scMade.nd rfl (Or.inl rfl) (pe_call GT hr rfl cT.mg cT.kp cT.b .nil pass0 (pa_cons (pv 0) (pa_cons pe_int pa_nil))))
        (pss_cons (ps_cut (ps_if (PW.pt (pw_and (pt_cmpR op_eq (pv 6) pe_int (nomark _)) (pw_and1 (pt_cmpR op_neD (pv 3) (pe_lst pa_nil) (nomark _)))))
          (pss_one (ps_set (i := 5) scMade.nd rfl (Or.inl rfl) (pe_slice sl_str (pe_op op_add_str (pe_ix ix_list (pv 3) (pe_un un_neg pe_int) (fun _ _ => rfl)) (pe_ix ix_str (pv 2) (pe_call GT hr rfl cT.mg cT.kp cT.b .nil pass0 (pa_cons (pv 0) (pa_cons pe_int pa_nil))) (fun _ _ => rfl))) po_none (po_some pe_int)))) pss_nil))
        (pss_cons (ps_cut (ps_if (PW.pt (pw_and (pt_cmpR op_eq (pv 6) pe_int (nomark _)) (pw_and1 (pt_cmpR op_neD (pv 3) (pe_lst pa_nil) (nomark _)))))
          (pss_cons (ps_set (i := 7) scMade.nd rfl (Or.inl rfl) (pe_call GT hr rfl cT.mg cT.kp cT.b .nil pass0 (pa_cons (pv 0) (pa_cons (pe_callB call_len_str rfl mL PySem.boot_len (pa_cons (pe_ix ix_list (pv 3) (pe_un un_neg pe_int) (fun _ _ => rfl)) pa_nil)) pa_nil))))
          (pss_one (ps_set (i := 5) scMade.nd rfl (Or.inl rfl) (pe_op op_add_str (pe_op op_add_str (pe_slice sl_str (pe_ix ix_list (pv 3) (pe_un un_neg pe_int) (fun _ _ => rfl)) po_none (po_some (pv 7)))
              (pe_ix ix_str (pv 2) (pe_call GT hr rfl cT.mg cT.kp cT.b .nil pass0 (pa_cons (pv 0) (pa_cons pe_int pa_nil))) (fun _ _ => rfl)))
            (pe_slice sl_str (pe_ix ix_list (pv 3) (pe_un un_neg pe_int) (fun _ _ => rfl)) (po_some (pe_op op_add (pv 7) pe_int)) po_none))))) pss_nil))
        (pss_cons (ps_set (i := 8) scMade.nd rfl (Or.inl rfl) pe_int)
        (pss_cons (ps_while PassesOwn.never (pt_cmpR op_in_seq (pv 5) (pv 3) rfl)
          (pss_cons (ps_set (i := 5) scMade.nd rfl (Or.inl rfl) (pe_op op_add_str (pe_op op_add_str (pe_ix ix_str (pv 2) (pe_op op_fdiv (pv 8) pe_int) (fun _ _ => rfl)) (pe_ix ix_str (pv 2) (pe_op op_mod (pv 8) pe_int) (fun _ _ => rfl))) pe_str))
          (pss_one (ps_set (i := 8) scMade.nd rfl (Or.inl rfl) (pe_op op_add (pv 8) pe_int)))))
        (pss_one (ps_expr (pe_bm PySem.F.plainAttrs_list PySem.F.slot_list_append PySem.F.type_list_append mt_append (pv 3) (pa_cons (pv 5) pa_nil)))))))))))
      (pss_one (ps_ret (pv 3))))), ?_⟩
    refine ⟨Nat.zero_le _, fun l hl => ?_⟩
    have npl : p ≠ l := ne_of_none hp hl
    first | refine tvE rfl ?_ | refine ⟨_, rfl, ?_⟩
    refine ⟨(n : Int), rfl, by (first | lia | omega), by (first | lia | omega), ?_⟩
    refine for_range (n := n) (MdL p l n c H) ?_ ?_ ?_
    · exact ⟨none, none, none, none, none, [], c, rfl, rfl, (fun k h => nomatch h), List.nodup_nil, upd_same, ⟨o, by rw [upd_ne npl]; exact hp, hpo⟩, Int.le_refl _, by (first | lia | omega), (But.refl p H).new hl⟩
    · rintro i σ H2 hi ⟨x4, x5, x6, x7, x8, ks, c1, rfl, hkl, hko, hkn, hl2, ⟨o2, hp2, hpo2⟩, hc1, hc1', hb⟩
      have sk : ks.length ≤ 60 := by (first | lia | omega)
      have keepL : ∀ {H3 : Hp}, But p H2 H3 → H3 l = some (.lst (ks.map V.str)) := fun b => b l _ (Ne.symm npl) hl2
      refine ⟨MdI1 p n l i c1 H2, ?_, ?_⟩
      · rintro σ H3 ⟨x6, x7, x8, z, c2, rfl, hz, ⟨o3, hp3, hpo3⟩, g1, g2, b3⟩
        first | refine tvE rfl ?_ | refine ⟨_, rfl, ?_⟩
        refine ⟨p, 4, c2, o3, rfl, hp3, hpo3, by decide, by decide, by (first | lia | omega), by (first | lia | omega), fun wy c3 o4 w0 w1 g3 g4 hpo4 => ?_⟩
        have b4 : But p H2 (upd H3 p o4) := b3.trans But.upd
        generalize hH4 : upd H3 p o4 = H4 at b4
        have hp4 : H4 p = some o4 := by rw [← hH4]; exact upd_same
        have hl4 := keepL b4
        have seesL : ∀ {H' : Hp}, H' l = some (.lst (ks.map V.str)) → Sees H' (.ref l) (.list (ks.map PyData.str)) := fun e => .lst e (SeesAll.strs ks)
        have unit : (A.deeper (envOfC "_law_kinds" (defScope sMade) s.heap.objs.size f cdv)).units + min (PyData.depth (.list (ks.map PyData.str))) (PyData.depth (.list [])) < cLine := by
          show _ + min (PyData.depthAll (ks.map PyData.str) + 1) 1 < cLine
          rw [strs_depth]
          exact hu
        refine ⟨MdI2 p n l i wy c1 H2, ?_, ?_⟩
        · rintro σ H5 ⟨x7, x8, z, c4, rfl, hz, ⟨o5, hp5, hpo5⟩, g5, g6, b5⟩
          have hl5 := keepL b5
          refine ⟨MdI3 p n l i wy c1 H2, ?_, ?_⟩
          · rintro σ H6 ⟨x7, x8, z, c5, rfl, hz, hp6, g7, g8, b6⟩
            have hl6 := keepL b6
            refine ⟨fun m σ' H' => H' = H6 ∧ ∃ (z : Str) (t : Nat), σ' = [some (.ref p), some (.int n), some (.str lettersS), some (.ref l), some (.int (0 + i)), some (.str z), some (.int wy), x7, some (.int t)] ∧ m = 100 - t ∧ t ≤ 61 ∧ KindOk z ∧ (∀ t', t = t' + 1 → z = wordOf t') ∧ ∀ j, j + 1 < t → wordOf j ∈ ks, ⟨100, rfl, z, 0, rfl, rfl, by decide, hz, (fun t' e => by (first | lia | omega)), (fun j h => by (first | lia | omega))⟩, ?_⟩
            rintro m σ' H' ⟨rfl, z, t, rfl, rfl, ht, hz, hzt, hw⟩
            by_cases hin : z ∈ ks
            · first | refine tvE rfl ?_ | refine ⟨_, rfl, ?_⟩
              first | refine tvE rfl ?_ | refine ⟨_, rfl, ?_⟩
              refine ⟨l, _, rfl, .inl (SqL.of hl6), rfl, flat_strs ks, true, congrArg V.bl (by rw [if_neg Bool.false_ne_true, in_strs, decide_eq_true hin]), iteT ?_⟩
              have all : ∀ j, j < t → wordOf j ∈ ks := fun j hj => by
                by_cases e : j + 1 = t
                · have := hzt j e.symm
                  rw [← this]; exact hin
                · exact hw j (by (first | lia | omega))
              have tl : t ≤ ks.length := pigeon t wordOf ks (fun a b _ _ e => word_inj e) all
              refine ⟨fun σ' H'' => H'' = H' ∧ σ' = [some (.ref p), some (.int n), some (.str lettersS), some (.ref l), some (.int (0 + i)), some (.str (wordOf t)), some (.int wy), x7, some (.int ((t + 1 : Nat) : Int))], ?_, ?_⟩
              · rintro σ' H'' ⟨rfl, rfl⟩
                refine ⟨100 - (t + 1), by (first | lia | omega), rfl, wordOf t, t + 1, rfl, rfl, by (first | lia | omega), word_ok (by (first | lia | omega)), fun t' e => ?_, fun j hj => all j (by (first | lia | omega))⟩
                have : t = t' := by (first | lia | omega)
                rw [this]
              · first | refine tvE rfl ?_ | refine ⟨_, rfl, ?_⟩
                first | refine tvE rfl ?_ | refine ⟨_, rfl, ?_⟩
                refine ⟨_, 26, rfl, rfl, ⟨by decide, by decide⟩, lettersS, _, 97 + t / 26, rfl, rfl, letters_len, ?_, ?_⟩
                · rw [show ((t : Int) / 26) = ((t / 26 : Nat) : Int) from by (first | lia | omega)]
                  exact letters_at _ (by (first | lia | omega))
                first | refine tvE rfl ?_ | refine ⟨_, rfl, ?_⟩
                first | refine tvE rfl ?_ | refine ⟨_, rfl, ?_⟩
                refine ⟨_, 26, rfl, rfl, (by show (0 : Int) < 26; decide), lettersS, _, 97 + t % 26, rfl, rfl, letters_len, ?_, ?_⟩
                · rw [show ((t : Int) % 26) = ((t % 26 : Nat) : Int) from by (first | lia | omega)]
                  exact letters_at _ (by (first | lia | omega))
                refine ⟨_, _, rfl, rfl, by show 1 + 1 ≤ sizeLine; decide, _, _, rfl, rfl, by show 2 + 2 ≤ sizeLine; decide, ?_⟩
                first | refine tvE rfl ?_ | refine ⟨_, rfl, ?_⟩
                refine ⟨_, 1, rfl, rfl, rfl, ?_⟩
                rfl
            · first | refine tvE rfl ?_ | refine ⟨_, rfl, ?_⟩
              first | refine tvE rfl ?_ | refine ⟨_, rfl, ?_⟩
              refine ⟨l, _, rfl, .inl (SqL.of hl6), rfl, flat_strs ks, false, congrArg V.bl (by rw [if_neg Bool.false_ne_true, in_strs, decide_eq_false hin]), iteF ?_⟩
              first | refine tvE rfl ?_ | refine ⟨_, rfl, ?_⟩
              refine ⟨.inl ⟨rfl, _, SqL.of hl6⟩, _, rfl, l, _, _, rfl, rfl, hl6, by rw [List.length_map]; exact small1000 (by (first | lia | omega)), ?_⟩
              refine ⟨_, _, _, _, _, ks ++ [z], c5, rfl, by rw [List.length_append, hkl]; rfl, fun k hk => ?_, ?_, by rw [upd_same, List.map_append]; rfl, ?_, by (first | lia | omega), by (first | lia | omega), fun b u hb' e => ?_⟩
              · rcases List.mem_append.mp hk with hk | hk
                · exact hko k hk
                · rw [List.mem_singleton.mp hk]; exact hz
              · exact nodup_perm_snoc hkn hin (.refl _)
              · obtain ⟨o6, q1, q2⟩ := hp6
                exact ⟨o6, by rw [upd_ne npl]; exact q1, q2⟩
              · rw [upd_ne (ne_of_none e hl)]
                exact b6 b u hb' (hb b u hb' e)
          · first | refine tvE rfl ?_ | refine ⟨_, rfl, ?_⟩
            refine ⟨rfl, _, rfl, ?_⟩
            refine ite2 (fun _ => ?_) (fun _ => ?_)
            · first | refine tvE rfl ?_ | refine ⟨_, rfl, ?_⟩
              refine ⟨Nat.zero_le _, fun e ne => ?_⟩
              have b6 : But p H2 (upd H5 e (.lst [])) := fun b u hb' q => by rw [upd_ne (ne_of_none (b5 b u hb' q) ne)]; exact b5 b u hb' q
              have npe : p ≠ e := ne_of_none hp5 ne
              have hp6 : (upd H5 e (.lst [])) p = some o5 := by rw [upd_ne npe]; exact hp5
              generalize hH6 : upd H5 e (.lst []) = H6 at b6 hp6
              have hl6 := keepL b6
              refine ⟨_, _, seesL hl6, .lst (by rw [← hH6]; exact upd_same) .nil, strs_lay hko, rfl, unit, ?_⟩
              rw [eqv_nil]
              cases hks : ks with
              | nil =>
                refine ⟨false, rfl, ?_⟩
                refine iteF ?_
                exact ⟨_, _, z, c4, rfl, hz, ⟨o5, hp6, hpo5⟩, by (first | lia | omega), by (first | lia | omega), b6⟩
              | cons k0 kr =>
                refine ⟨true, rfl, ?_⟩
                refine iteT ?_
                obtain ⟨y, hy, ha⟩ := last_of (show ks ≠ [] by rw [hks]; exact List.cons_ne_nil _ _)
                have yo := of_kind (hko y hy)
                have yk := hko y hy
                have yl : y.cps.toList.length = y.length := Array.length_toList
                first | refine tvE rfl ?_ | refine ⟨_, rfl, ?_⟩
                first | refine tvE rfl ?_ | refine ⟨_, rfl, ?_⟩
                refine ⟨1, rfl, l, _, _, _, rfl, rfl, SqL.of hl6, ha, y, rfl, kind_size yk, ?_⟩
                refine ⟨p, (y.length : Nat), c4, o5, rfl, hp6, hpo5, by have := yk.1; (first | lia | omega), by have := yk.2.1; (first | lia | omega), by (first | lia | omega), by (first | lia | omega), fun a c5 o6 a0 a1 g7 g8 hpo6 => ?_⟩
                obtain ⟨an, rfl⟩ : ∃ an : Nat, a = (an : Int) := ⟨a.toNat, by (first | lia | omega)⟩
                have b7 : But p H2 (upd H6 p o6) := b6.trans But.upd
                have hl7 := keepL b7
                first | refine tvE rfl ?_ | refine ⟨_, rfl, ?_⟩
                refine ⟨1, rfl, l, _, _, _, rfl, rfl, SqL.of hl7, ha, _, rfl, an, rfl, y, rfl, kind_size yk, ?_⟩
                first | refine tvE rfl ?_ | refine ⟨_, rfl, ?_⟩
                first | refine tvE rfl ?_ | refine ⟨_, rfl, ?_⟩
                refine ⟨p, 26, c5, o6, rfl, upd_same, hpo6, by decide, by decide, by (first | lia | omega), by (first | lia | omega), fun q c6 o7 q0 q1 g9 g10 hpo7 => ?_⟩
                obtain ⟨qn, rfl⟩ : ∃ qn : Nat, q = (qn : Int) := ⟨q.toNat, by (first | lia | omega)⟩
                refine ⟨lettersS, _, 97 + qn, rfl, rfl, letters_len, letters_at qn (by (first | lia | omega)), ?_⟩
                have b8 : But p H2 (upd (upd H6 p o6) p o7) := b7.trans But.upd
                have hl8 := keepL b8
                have s1 := slice_to y an
                have s2 := slice_from y (an + 1)
                generalize Txt.slice y none (some (an : Int)) = u1 at s1 ⊢
                have l1 : u1.length = min an y.length := by
                  have : u1.cps.toList.length = u1.length := Array.length_toList
                  rw [← this, s1, List.length_take, yl]
                have y4 := yk.2.1
                have le : (((⟨#[97 + qn]⟩ : Str)).cps.toList).length = 1 := rfl
                refine ⟨u1, ⟨#[97 + qn]⟩, rfl, rfl, Nat.le_of_lt (small1000 (by show u1.length + 1 ≤ 1000; (first | lia | omega))), ?_⟩
                first | refine tvE rfl ?_ | refine ⟨_, rfl, ?_⟩
                refine ⟨1, rfl, l, _, _, _, rfl, rfl, SqL.of hl8, ha, _, rfl, _, 1, rfl, rfl, _, rfl, y, rfl, kind_size yk, ?_⟩
                rw [show ((an : Int) + 1) = ((an + 1 : Nat) : Int) from by (first | lia | omega)]
                generalize Txt.slice y (some ((an + 1 : Nat) : Int)) none = u2 at s2 ⊢
                have l2 : u2.length = y.length - (an + 1) := by
                  have : u2.cps.toList.length = u2.length := Array.length_toList
                  rw [← this, s2, List.length_drop, yl]
                have l3 : (u1 ++ (⟨#[97 + qn]⟩ : Str)).length = u1.length + 1 := by
                  have e1 : (u1 ++ (⟨#[97 + qn]⟩ : Str)).cps.toList.length = (u1 ++ (⟨#[97 + qn]⟩ : Str)).length := Array.length_toList
                  have e2 : u1.cps.toList.length = u1.length := Array.length_toList
                  rw [← e1, app_codes, List.length_append, e2]
                  rfl
                refine ⟨_, u2, rfl, rfl, Nat.le_of_lt (small1000 (by rw [l3]; (first | lia | omega))), ?_⟩
                refine ⟨_, _, _, c6, rfl, kind_of ?_, ⟨o7, upd_same, hpo7⟩, by (first | lia | omega), by (first | lia | omega), b8⟩
                rw [app_codes, app_codes, s1, s2]
                refine ⟨?_, ?_, fun c hc => ?_⟩
                · rw [List.length_append, List.length_append, le]; (first | lia | omega)
                · rw [List.length_append, List.length_append, le, List.length_take, List.length_drop, yl]; (first | lia | omega)
                · rcases List.mem_append.mp hc with hc | hc
                  · rcases List.mem_append.mp hc with hc | hc
                    · exact yo.2.2 c (List.mem_of_mem_take hc)
                    · have : c = 97 + qn := by simpa using hc
                      (first | lia | omega)
                  · exact yo.2.2 c (List.mem_of_mem_drop hc)
            · refine iteF ?_
              exact ⟨_, _, z, c4, rfl, hz, ⟨o5, hp5, hpo5⟩, by (first | lia | omega), by (first | lia | omega), b5⟩
        · first | refine tvE rfl ?_ | refine ⟨_, rfl, ?_⟩
          refine ⟨rfl, _, rfl, ?_⟩
          refine ite2 (fun _ => ?_) (fun _ => ?_)
          · first | refine tvE rfl ?_ | refine ⟨_, rfl, ?_⟩
            refine ⟨Nat.zero_le _, fun e ne => ?_⟩
            have b5 : But p H2 (upd H4 e (.lst [])) := fun b u hb' q => by rw [upd_ne (ne_of_none (b4 b u hb' q) ne)]; exact b4 b u hb' q
            have npe : p ≠ e := ne_of_none hp4 ne
            have hp5 : (upd H4 e (.lst [])) p = some o4 := by rw [upd_ne npe]; exact hp4
            generalize hH5 : upd H4 e (.lst []) = H5 at b5 hp5
            have hl5 := keepL b5
            refine ⟨_, _, seesL hl5, .lst (by rw [← hH5]; exact upd_same) .nil, strs_lay hko, rfl, unit, ?_⟩
            rw [eqv_nil]
            cases hks : ks with
            | nil =>
              refine ⟨false, rfl, ?_⟩
              refine iteF ?_
              exact ⟨_, _, z, c3, rfl, hz, ⟨o4, hp5, hpo4⟩, by (first | lia | omega), by (first | lia | omega), b5⟩
            | cons k0 kr =>
              refine ⟨true, rfl, ?_⟩
              refine iteT ?_
              obtain ⟨y, hy, ha⟩ := last_of (show ks ≠ [] by rw [hks]; exact List.cons_ne_nil _ _)
              have yo := of_kind (hko y hy)
              first | refine tvE rfl ?_ | refine ⟨_, rfl, ?_⟩
              refine ⟨1, rfl, l, _, _, _, rfl, rfl, SqL.of hl5, ha, ?_⟩
              first | refine tvE rfl ?_ | refine ⟨_, rfl, ?_⟩
              first | refine tvE rfl ?_ | refine ⟨_, rfl, ?_⟩
              refine ⟨p, 26, c3, o4, rfl, hp5, hpo4, by decide, by decide, by (first | lia | omega), by (first | lia | omega), fun q c4 o5 q0 q1 g5 g6 hpo5 => ?_⟩
              obtain ⟨qn, rfl⟩ : ∃ qn : Nat, q = (qn : Int) := ⟨q.toNat, by (first | lia | omega)⟩
              refine ⟨lettersS, _, 97 + qn, rfl, rfl, letters_len, letters_at qn (by (first | lia | omega)), ?_⟩
              have sz : (y ++ (⟨#[97 + qn]⟩ : Str)).length ≤ 5 := by
                have e1 : (y ++ (⟨#[97 + qn]⟩ : Str)).cps.toList.length = (y ++ (⟨#[97 + qn]⟩ : Str)).length := Array.length_toList
                have e2 := congrArg List.length (app_codes y ⟨#[97 + qn]⟩)
                rw [List.length_append] at e2
                have e3 : ((⟨#[97 + qn]⟩ : Str).cps.toList).length = 1 := rfl
                have := yo.2.1
                (first | lia | omega)
              refine ⟨y, ⟨#[97 + qn]⟩, rfl, rfl, ?_, ?_⟩
              · have := (hko y hy).2.1
                exact Nat.le_of_lt (small1000 (by show y.length + 1 ≤ 1000; (first | lia | omega)))
              refine ⟨4, rfl, _, rfl, Nat.le_of_lt (small1000 (by (first | lia | omega))), ?_⟩
              refine ⟨_, _, _, c4, rfl, kind_of ?_, ⟨o5, upd_same, hpo5⟩, by (first | lia | omega), by (first | lia | omega), b5.trans But.upd⟩
              have e4 := slice_to (y ++ (⟨#[97 + qn]⟩ : Str)) 4
              rw [app_codes] at e4
              rw [show ((4 : Nat) : Int) = 4 from rfl] at e4
              rw [e4]
              refine ⟨?_, ?_, fun c hc => ?_⟩
              · rw [List.length_take, List.length_append]
                have := yo.1
                (first | lia | omega)
              · rw [List.length_take]; (first | lia | omega)
              · rcases List.mem_append.mp (List.mem_of_mem_take hc) with hc | hc
                · exact yo.2.2 c hc
                · have : c = 97 + qn := by simpa using hc
                  (first | lia | omega)
          · refine iteF ?_
            exact ⟨_, _, z, c3, rfl, hz, ⟨o4, hp4, hpo4⟩, by (first | lia | omega), by (first | lia | omega), b4⟩
      · refine ⟨rfl, ?_⟩
        dsimp only [tCons, tNil]
        refine lcomp_eq _ _ _ _ _ _ _ _ _ ?_
        first | refine tvE rfl ?_ | refine ⟨_, rfl, ?_⟩
        refine ⟨p, 4, c1, o2, rfl, hp2, hpo2, by decide, by decide, by (first | lia | omega), by (first | lia | omega), fun r c2 o3 r0 r1 h1 h2 hpo3 => ?_⟩
        refine ⟨1, r, rfl, rfl, 1 + r, rfl, by (first | lia | omega), by (first | lia | omega), ?_⟩
        intro D hD
        have npD : p ≠ D := ne_of_none (show (upd H2 p o3) p = some o3 from upd_same) hD
        have nlD : l ≠ D := ne_of_none (show (upd H2 p o3) l = some _ from (But.upd : But p H2 (upd H2 p o3)) l _ (Ne.symm npl) hl2) hD
        obtain ⟨m, hm⟩ : ∃ m : Nat, (1 + r).toNat = m ∧ m ≤ 4 ∧ 1 ≤ m := ⟨_, rfl, by (first | lia | omega), by (first | lia | omega)⟩
        rw [hm.1]
        refine comp_range (fun j ys H3 => ∃ (ss : List Str) (c3 : Int), ys = ss.map V.str ∧ ss.length = j ∧ (∀ x ∈ ss, ∃ c, x = ⟨#[c]⟩ ∧ 97 ≤ c ∧ c ≤ 122) ∧ H3 D = some (.lst ys) ∧ PoolAt H3 p c3 ∧ c2 ≤ c3 ∧ c3 ≤ c2 + j ∧ But p H2 H3) ?_ (fun j ys H3 ⟨_, _, _, _, _, z, _⟩ => z) ?_ ?_
        · exact ⟨[], c2, rfl, rfl, (fun x h => nomatch h), upd_same, ⟨o3, by rw [upd_ne npD]; exact upd_same, hpo3⟩, Int.le_refl _, by (first | lia | omega), fun b u hb' e => by rw [upd_ne (ne_of_none ((But.upd : But p H2 (upd H2 p o3)) b u hb' e) hD)]; exact (But.upd : But p H2 (upd H2 p o3)) b u hb' e⟩
        · rintro j ys H3 hj ⟨ss, c3, rfl, hsl, hss, hD3, ⟨o4, hp4, hpo4⟩, g1, g2, hb3⟩
          refine turn_name rfl ?_
          first | refine tvE rfl ?_ | refine ⟨_, rfl, ?_⟩
          first | refine tvE rfl ?_ | refine ⟨_, rfl, ?_⟩
          refine ⟨p, 26, c3, o4, rfl, hp4, hpo4, by decide, by decide, by (first | lia | omega), by (first | lia | omega), fun q c4 o5 q0 q1 g3 g4 hpo5 => ?_⟩
          obtain ⟨qn, rfl⟩ : ∃ qn : Nat, q = (qn : Int) := ⟨q.toNat, by (first | lia | omega)⟩
          refine ⟨lettersS, _, 97 + qn, rfl, rfl, letters_len, letters_at qn (by (first | lia | omega)), ?_⟩
          refine ⟨by rw [upd_ne (Ne.symm npD)]; exact hD3, by rw [List.length_map]; exact small1000 (by (first | lia | omega)), nx hj ?_⟩
          refine ⟨ss ++ [⟨#[97 + qn]⟩], c4, by simp, by simp [hsl], fun x hx => ?_, upd_same, ⟨o5, by rw [upd_ne npD, upd_same], hpo5⟩, by (first | lia | omega), by (first | lia | omega), fun b u hb' e => ?_⟩
          · rcases List.mem_append.mp hx with hx | hx
            · exact hss x hx
            · exact ⟨97 + qn, List.mem_singleton.mp hx, by (first | lia | omega), by (first | lia | omega)⟩
          · have e3 := hb3 b u hb' e
            have nbD : b ≠ D := ne_of_none ((But.upd : But p H2 (upd H2 p o3)) b u hb' e) hD
            rw [upd_ne nbD, upd_ne hb']
            exact e3
        · rintro ys H3 ⟨ss, c3, rfl, hsl, hss, hD3, hp4, g1, g2, hb3⟩
          obtain ⟨q1, q2⟩ := ones_codes hss
          refine ⟨Str.ofString "", D, ss, rfl, rfl, SqL.of hD3, ?_, ?_⟩
          · rw [ones_sum hss]
            have : (Str.ofString "").length = 0 := by decide
            rw [this]
            (first | lia | omega)
          · exact ⟨_, _, _, _, c3, rfl, kind_of ⟨by rw [join_codes, q1]; (first | lia | omega), by rw [join_codes, q1]; (first | lia | omega), by rw [join_codes]; exact q2⟩, hp4, by (first | lia | omega), by (first | lia | omega), hb3⟩
    · rintro σ H2 ⟨x4, x5, x6, x7, x8, ks, c', rfl, hkl, hko, hkn, hl2, hp2, h1, h2, hb⟩
      first | refine tvE rfl ?_ | refine ⟨_, rfl, ?_⟩
      exact k l ks c' H2 hl hkl hko hkn hl2 hp2 h1 (by (first | lia | omega)) hb
end
end K7
set_option Elab.async false
set_option linter.all false
set_option maxRecDepth 100000
set_option maxHeartbeats 4000000
namespace K7
open PySem L2 PyProof.Rows
def At (p : Addr) (H : Hp) (b : Addr) (o : HO) : Prop := H b = some o ∧ b ≠ p
theorem At.on {p b : Addr} {H H' : Hp} {o : HO} (x : At p H b o) (h : But p H H') : At p H' b o := ⟨h b o x.2 x.1, x.2⟩
structure RoomsW (p : Addr) (H : Hp) (rA : Addr) (vs : List V) (rs : List Rm) (ws : List Addr) : Prop where
  ls : At p H rA (.lst vs)
  l1 : vs.length = rs.length
  l2 : ws.length = rs.length
  nd : ws.Nodup
  off : rA ∉ ws
  item : ∀ (i : Nat) (r : Rm) (w : Addr), rs[i]? = some r → ws[i]? = some w → ∃ t d : Addr, vs[i]? = some (.ref t) ∧ At p H t (.tup [.ref d, .ref w]) ∧ At p H d (.lst (r.1.map V.str)) ∧ At p H w (.lst (r.2.map V.str)) ∧ d ∉ ws ∧ d ≠ rA
theorem RoomsW.on {p rA : Addr} {H H' : Hp} {vs : List V} {rs : List Rm} {ws : List Addr} (x : RoomsW p H rA vs rs ws) (h : But p H H') : RoomsW p H' rA vs rs ws :=
  ⟨x.ls.on h, x.l1, x.l2, x.nd, x.off, fun i r w e1 e2 => let ⟨t, d, a, b, c, d', e⟩ := x.item i r w e1 e2; ⟨t, d, a, b.on h, c.on h, d'.on h, e⟩⟩
theorem RoomsW.more {p rA t d w : Addr} {H0 H : Hp} {vs : List V} {rs : List Rm} {ws : List Addr} {r : Rm} (x0 : RoomsW p H0 rA vs rs ws) (hb : But p H0 H) (ht : At p H t (.tup [.ref d, .ref w])) (hd : At p H d (.lst (r.1.map V.str))) (hw : At p H w (.lst (r.2.map V.str)))
    (d0 : H0 d = none) (w0 : H0 w = none) (n3 : d ≠ w) :
    RoomsW p (upd H rA (.lst (vs ++ [.ref t]))) rA (vs ++ [.ref t]) (rs ++ [r]) (ws ++ [w]) := by
  have x := x0.on hb
  have tn : t ≠ rA := ne_of ht.1 x.ls.1 (fun z => nomatch z)
  have up : ∀ {b o}, b ≠ rA → At p H b o → At p (upd H rA (.lst (vs ++ [.ref t]))) b o := fun n h => ⟨by rw [upd_ne n]; exact h.1, h.2⟩
  have n4 : d ≠ rA := fun z => by have := x0.ls.1; rw [← z, d0] at this; cases this
  have n5 : w ≠ rA := fun z => by have := x0.ls.1; rw [← z, w0] at this; cases this
  have mem : ∀ a ∈ ws, ∃ o, H0 a = some o := fun a ha => by
    obtain ⟨i, hi, e⟩ := List.mem_iff_getElem.mp ha
    have hi' : i < rs.length := by rw [← x0.l2]; exact hi
    obtain ⟨_, _, _, _, _, h, _⟩ := x0.item i rs[i] a (List.getElem?_eq_getElem hi') (by rw [List.getElem?_eq_getElem hi, e])
    exact ⟨_, h.1⟩
  have n1 : w ∉ ws := fun z => by obtain ⟨o, e⟩ := mem w z; rw [w0] at e; cases e
  have n2 : d ∉ ws := fun z => by obtain ⟨o, e⟩ := mem d z; rw [d0] at e; cases e
  refine ⟨⟨upd_same, x.ls.2⟩, by simp [x.l1], by simp [x.l2], nodup_perm_snoc x.nd n1 (.refl _), fun z => ?_, fun i r' w' e1 e2 => ?_⟩
  · rcases List.mem_append.mp z with z | z
    · exact x.off z
    · exact n5 (List.mem_singleton.mp z).symm
  · by_cases hi : i < rs.length
    · rw [List.getElem?_append_left hi] at e1
      rw [List.getElem?_append_left (by rw [x.l2]; exact hi)] at e2
      obtain ⟨t', d', a1, a2, a3, a4, a5, a6⟩ := x0.item i r' w' e1 e2
      have hw' : w' ≠ rA := fun z => x.off (z ▸ List.mem_of_getElem? e2)
      refine ⟨t', d', by rw [List.getElem?_append_left (by rw [x.l1]; exact hi)]; exact a1, up (ne_of (a2.on hb).1 x.ls.1 (fun z => nomatch z)) (a2.on hb), up a6 (a3.on hb), up hw' (a4.on hb), fun z => ?_, a6⟩
      rcases List.mem_append.mp z with z | z
      · exact a5 z
      · exact ne_of_none a3.1 w0 (List.mem_singleton.mp z)
    · have hl : i < (rs ++ [r]).length := (List.getElem?_eq_some_iff.mp e1).1
      rw [List.length_append, List.length_singleton] at hl
      have ei : i = rs.length := by (first | lia | omega)
      subst ei
      rw [List.getElem?_append_right (Nat.le_refl _), Nat.sub_self] at e1
      rw [List.getElem?_append_right (by rw [x.l2]; exact Nat.le_refl _), x.l2, Nat.sub_self] at e2
      cases e1
      cases e2
      refine ⟨t, d, by rw [List.getElem?_append_right (by rw [x.l1]; exact Nat.le_refl _), x.l1, Nat.sub_self]; rfl, up tn ht, up n4 hd, up n5 hw, fun z => ?_, n4⟩
      rcases List.mem_append.mp z with z | z
      · exact n2 z
      · exact n3 (List.mem_singleton.mp z)
theorem RoomsW.ext {p rA w : Addr} {H : Hp} {vs : List V} {rs : List Rm} {ws : List Addr} {r : Rm} {i : Nat} {ss : List Str} (x : RoomsW p H rA vs rs ws) (e1 : rs[i]? = some r) (e2 : ws[i]? = some w) :
    RoomsW p (upd H w (.lst (r.2.map V.str ++ ss.map V.str))) rA vs (rs.set i (r.1, r.2 ++ ss)) ws := by
  obtain ⟨t, d, a1, a2, a3, a4, a5, a6⟩ := x.item i r w e1 e2
  have hwr : rA ≠ w := fun z => x.off (by rw [z]; exact List.mem_of_getElem? e2)
  have up : ∀ {b o}, b ≠ w → At p H b o → At p (upd H w (.lst (r.2.map V.str ++ ss.map V.str))) b o := fun n h => ⟨by rw [upd_ne n]; exact h.1, h.2⟩
  refine ⟨up hwr x.ls, by simp [x.l1], by simp [x.l2], x.nd, x.off, fun j r' w' f1 f2 => ?_⟩
  have hi : i < rs.length := (List.getElem?_eq_some_iff.mp e1).1
  by_cases hj : j = i
  · subst hj
    rw [e2] at f2
    cases f2
    rw [List.getElem?_set_self hi] at f1
    cases f1
    refine ⟨t, d, a1, up (ne_of a2.1 a4.1 (fun z => nomatch z)) a2, up (fun z => a5 (z ▸ List.mem_of_getElem? e2)) a3, ⟨by rw [upd_same, List.map_append], a4.2⟩, a5, a6⟩
  · rw [List.getElem?_set_ne (Ne.symm hj)] at f1
    obtain ⟨t', d', b1, b2, b3, b4, b5, b6⟩ := x.item j r' w' f1 f2
    have nw : w' ≠ w := fun z => by
      subst z
      have h1 := (List.getElem?_eq_some_iff.mp e2)
      have h2 := (List.getElem?_eq_some_iff.mp f2)
      rcases Nat.lt_or_gt_of_ne hj with l | l
      · exact (List.pairwise_iff_getElem.mp x.nd j i h2.1 h1.1 l) (h2.2.trans h1.2.symm)
      · exact (List.pairwise_iff_getElem.mp x.nd i j h1.1 h2.1 l) (h1.2.trans h2.2.symm)
    exact ⟨t', d', b1, up (ne_of b2.1 a4.1 (fun z => nomatch z)) b2, up (fun z => b5 (z ▸ List.mem_of_getElem? e2)) b3, up nw b4, b5, b6⟩
theorem RoomsW.rooms {p rA : Addr} {H : Hp} {vs : List V} {rs : List Rm} {ws : List Addr} (x : RoomsW p H rA vs rs ws) : RoomsAt H vs rs := ⟨x.l1, fun i v r e1 e2 => by
  have hi : i < rs.length := (List.getElem?_eq_some_iff.mp e2).1
  have hi2 : i < ws.length := by rw [x.l2]; exact hi
  obtain ⟨t, d, a1, a2, a3, a4, _⟩ := x.item i r ws[i] e2 (List.getElem?_eq_getElem hi2)
  rw [e1] at a1
  cases a1
  exact ⟨t, d, _, rfl, a2.1, a3.1, a4.1⟩⟩
theorem menu {xs : List Int} {r : Int} (h0 : 0 ≤ r) (h1 : r < xs.length) : ∃ m ∈ xs, atI (xs.map V.int) r = some (.int m) := by
  obtain ⟨j, rfl⟩ : ∃ j : Nat, r = (j : Int) := ⟨r.toNat, by (first | lia | omega)⟩
  have hj : j < xs.length := by (first | lia | omega)
  exact ⟨xs[j], List.getElem_mem hj, atI_nat (by rw [List.getElem?_map, List.getElem?_eq_getElem hj]; rfl)⟩
def roomData (r : Rm) : PyData := .tuple [.list (r.1.map PyData.str), .list (r.2.map PyData.str)]
theorem sees_rooms {H : Hp} : ∀ {vs : List V} {rs : List Rm}, RoomsAt H vs rs → SeesAll H vs (rs.map roomData)
  | [], [], _ => .nil
  | [], _ :: _, h => absurd h.1 (by simp)
  | _ :: _, [], h => absurd h.1 (by simp)
  | v :: vs, r :: rs, h => by
    obtain ⟨t, a, b, rfl, h1, h2, h3⟩ := h.2 0 v r rfl rfl
    refine .cons (.tup h1 (.cons (.lst h2 (SeesAll.strs _)) (.cons (.lst h3 (SeesAll.strs _)) .nil))) (sees_rooms ⟨by simpa using h.1, fun i v' r' e1 e2 => h.2 (i + 1) v' r' (by simpa using e1) (by simpa using e2)⟩)
theorem rooms_lay : ∀ {rs : List Rm}, (∀ r ∈ rs, (∀ k ∈ r.1, KindOk k) ∧ ∀ k ∈ r.2, KindOk k) → PyData.canLayAll0 (rs.map roomData) = true
  | [], _ => rfl
  | r :: rs, h => by
    obtain ⟨h1, h2⟩ := h r List.mem_cons_self
    have e1 := strs_lay h1
    have e2 := strs_lay h2
    have e3 := rooms_lay fun q hq => h q (List.mem_cons_of_mem _ hq)
    rw [List.map_cons]
    simp only [PyData.canLayAll0, PyData.canLay0, roomData, e1, e2, e3, Bool.and_self]
end K7
set_option Elab.async false
set_option linter.all false
set_option maxRecDepth 100000
set_option maxHeartbeats 4000000
namespace K7
open PySem L2 PyProof.Rows
abbrev st__law_house : Stmt := sDrawn
def spDrawn : Sp := fun vs H Q _ => ∃ (p : Addr) (most : Nat) (c : Int), vs = [.ref p, .int most] ∧ PoolAt H p c ∧ most ≤ 60 ∧ 0 ≤ c ∧ c + 4000 < 1000000 ∧
  ∀ (v : V) (h : Hs) (c' : Int) (H' : Hp), HouseAt H' v h → HouseOk h → HouseFew h → h.2.length ≤ most → (allKeys h).length ≤ 276 → PoolAt H' p c' → c ≤ c' → c' ≤ c + 4000 → But p H H' → Q v H'
section
variable {P : Program} {w : World} {K : PySem.W.Frag} {mg : Str → Option Value} {base : Heap}
theorem sc__law_house : FnScope ["pool", "most", "kinds", "many", "locks", "keys", "rooms", "spare", "room", "doors", "few", "left", "more"] ["pool", "most"] (defScope st__law_house) := ⟨rfl, rfl, rfl, by decide +kernel, rfl, by decide +kernel, by decide +kernel⟩
theorem nd__law_house_0 : (["doors", "within"] : List Str).Nodup := by decide +kernel
inductive DrI1 (p : Addr) (most : Nat) (c : Int) (H : Hp) (σ' : L2.St) (H' : Hp) : Prop
  | mk (kA : Addr) (ks : List Str) (c' : Int) : (σ' = [some (.ref p), some (.int most), some (.ref kA), none, none, none, none, none, none, none, none, none, none]) → (At p H' kA (.lst (ks.map V.str))) → (ks ≠ []) → (ks.length ≤ 60) → ((∀ k ∈ ks, KindOk k)) → (PoolAt H' p c') → (c ≤ c') → (c' ≤ c + 542) → (But p H H') → DrI1 p most c H σ' H'
inductive DrI2 (p : Addr) (most : Nat) (kA : Addr) (c1 : Int) (H1 : Hp) (σ' : L2.St) (H' : Hp) : Prop
  | mk (mn : Nat) (c' : Int) : (σ' = [some (.ref p), some (.int most), some (.ref kA), some (.int mn), none, none, none, none, none, none, none, none, none]) → (mn ≤ most) → (PoolAt H' p c') → (c1 ≤ c') → (c' ≤ c1 + 3) → (But p H1 H') → DrI2 p most kA c1 H1 σ' H'
inductive DrI3 (p : Addr) (most : Nat) (kA : Addr) (mn : Nat) (c1 : Int) (H1 : Hp) (σ' : L2.St) (H' : Hp) : Prop
  | mk (lk c' : Int) : (σ' = [some (.ref p), some (.int most), some (.ref kA), some (.int mn), some (.int lk), none, none, none, none, none, none, none, none]) → (1 ≤ lk) → (lk ≤ 4) → (PoolAt H' p c') → (c1 ≤ c') → (c' ≤ c1 + 4) → (But p H1 H') → DrI3 p most kA mn c1 H1 σ' H'
inductive DrI4 (p : Addr) (most : Nat) (kA : Addr) (mn : Nat) (lk : Int) (c1 : Int) (H1 : Hp) (σ' : L2.St) (H' : Hp) : Prop
  | mk (ky c' : Int) : (σ' = [some (.ref p), some (.int most), some (.ref kA), some (.int mn), some (.int lk), some (.int ky), none, none, none, none, none, none, none]) → (2 ≤ ky) → (ky ≤ 4) → (PoolAt H' p c') → (c1 ≤ c') → (c' ≤ c1 + 5) → (But p H1 H') → DrI4 p most kA mn lk c1 H1 σ' H'
inductive DrI5 (p : Addr) (most : Nat) (kA : Addr) (mn : Nat) (lk : Int) (ky : Int) (rA : Addr) (H4 : Hp) (ks : List Str) (c4 : Int) (σ' : L2.St) (H' : Hp) : Prop
  | mk (x8 x9 x10 : Option V) (sp c' : Int) (vs : List V) (rs : List Rm) (ws : List Addr) : (σ' = [some (.ref p), some (.int most), some (.ref kA), some (.int mn), some (.int lk), some (.int ky), some (.ref rA), some (.int sp), x8, x9, x10, none, none]) → (RoomsW p H' rA vs rs ws) → ((∀ w ∈ ws, H4 w = none)) → (rs.length = mn) → ((∀ r ∈ rs, (∀ k ∈ r.1, k ∈ ks) ∧ 1 ≤ r.1.length ∧ r.1.length ≤ 4 ∧ r.1.Pairwise leS ∧ (∀ k ∈ r.2, k ∈ ks) ∧ r.2.length ≤ 12)) → ((rs.map (·.2.length)).sum ≤ 266) → (PoolAt H' p c') → (c4 ≤ c') → (c' ≤ c4 + 20 * mn) → (But p H4 H') → DrI5 p most kA mn lk ky rA H4 ks c4 σ' H'
inductive DrI6 (p : Addr) (most : Nat) (kA : Addr) (mn : Nat) (lk : Int) (ky : Int) (rA : Addr) (sp : Int) (x8 : Option V) (x9 : Option V) (x10 : Option V) (vs : List V) (ws : List Addr) (ks : List Str) (c5 : Int) (H4 : Hp) (σ' : L2.St) (H' : Hp) : Prop
  | mk (x12 : Option V) (rs' : List Rm) (lf c' : Int) : (σ' = [some (.ref p), some (.int most), some (.ref kA), some (.int mn), some (.int lk), some (.int ky), some (.ref rA), some (.int sp), x8, x9, x10, some (.int lf), x12]) → (RoomsW p H' rA vs rs' ws) → (rs'.length = mn) → ((∀ r ∈ rs', (∀ k ∈ r.1, k ∈ ks) ∧ 1 ≤ r.1.length ∧ r.1.length ≤ 4 ∧ r.1.Pairwise leS ∧ (∀ k ∈ r.2, k ∈ ks) ∧ r.2.length ≤ 300)) → (0 ≤ lf) → ((((rs'.map (·.2.length)).sum : Nat) : Int) + lf = 276) → (PoolAt H' p c') → (c5 ≤ c') → (c' ≤ c5 + 300) → (But p H4 H') → DrI6 p most kA mn lk ky rA sp x8 x9 x10 vs ws ks c5 H4 σ' H'
inductive DrI7 (p : Addr) (most : Nat) (kA : Addr) (mn : Nat) (lk : Int) (ky : Int) (rA : Addr) (H4 : Hp) (ks : List Str) (c4 : Int) (i : Nat) (σ' : L2.St) (H' : Hp) : Prop
  | mk (x8 x9 x10 : Option V) (sp c' : Int) (vs : List V) (rs : List Rm) (ws : List Addr) (q : Nat) : (σ' = [some (.ref p), some (.int most), some (.ref kA), some (.int mn), some (.int lk), some (.int ky), some (.ref rA), some (.int sp), x8, x9, x10, none, none]) → (RoomsW p H' rA vs rs ws) → ((∀ w ∈ ws, H4 w = none)) → (rs.length = i) → ((∀ r ∈ rs, (∀ k ∈ r.1, k ∈ ks) ∧ 1 ≤ r.1.length ∧ r.1.length ≤ 4 ∧ r.1.Pairwise leS ∧ (∀ k ∈ r.2, k ∈ ks) ∧ r.2.length ≤ 12)) → (0 ≤ sp) → (sp ≤ 40) → (40 - sp ≤ 12 * q) → ((((rs.map (·.2.length)).sum : Nat) : Int) + 4 * q ≤ 4 * i + (40 - sp)) → (PoolAt H' p c') → (c4 ≤ c') → (c' ≤ c4 + 20 * i) → (But p H4 H') → DrI7 p most kA mn lk ky rA H4 ks c4 i σ' H'
inductive DrI8 (p : Addr) (most : Nat) (kA : Addr) (mn : Nat) (lk : Int) (ky : Int) (rA : Addr) (sp : Int) (i : Nat) (x10 : Option V) (H5 : Hp) (ks : List Str) (c5 : Int) (σ' : L2.St) (H' : Hp) : Prop
  | mk (dA : Addr) (ds : List Str) (c' : Int) : (σ' = [some (.ref p), some (.int most), some (.ref kA), some (.int mn), some (.int lk), some (.int ky), some (.ref rA), some (.int sp), some (.int (0 + i)), some (.ref dA), x10, none, none]) → (At p H' dA (.lst (ds.map V.str))) → (H5 dA = none) → ((∀ k ∈ ds, k ∈ ks)) → (1 ≤ ds.length) → (ds.length ≤ 4) → (ds.Pairwise leS) → (PoolAt H' p c') → (c5 ≤ c') → (c' ≤ c5 + 5) → (But p H5 H') → DrI8 p most kA mn lk ky rA sp i x10 H5 ks c5 σ' H'
inductive DrI9 (p : Addr) (most : Nat) (kA : Addr) (mn : Nat) (lk : Int) (ky : Int) (rA : Addr) (i : Nat) (dA : Addr) (sp : Int) (c5 : Int) (H7 : Hp) (σ' : L2.St) (H' : Hp) : Prop
  | mk (fw' : Nat) (sp' c' : Int) : (σ' = [some (.ref p), some (.int most), some (.ref kA), some (.int mn), some (.int lk), some (.int ky), some (.ref rA), some (.int sp'), some (.int (0 + i)), some (.ref dA), some (.int fw'), none, none]) → (((sp' = sp ∧ fw' ≤ 4) ∨ (sp' = sp - fw' ∧ (fw' : Int) ≤ sp ∧ fw' ≤ 12))) → (PoolAt H' p c') → (c5 ≤ c') → (c' ≤ c5 + 8) → (But p H7 H') → DrI9 p most kA mn lk ky rA i dA sp c5 H7 σ' H'
theorem ok_drawn {f fT fM fS : Addr} {fd fdT fdM fdS : FuncData} (F : Fun K "_law_house" "_law_house" sDrawn f fd) (G__law_take : FnOk P w K mg base CX0 1 fT fdT ["pool", "many"] spTake) (c__law_take : Cal K mg "_law_take" ["pool", "many"] fT fdT)
    (G__law_kinds : FnOk P w K mg base CX0 2 fM fdM ["pool", "many"] spMade) (c__law_kinds : Cal K mg "_law_kinds" ["pool", "many"] fM fdM) (G__law_some : FnOk P w K mg base CX0 2 fS fdS ["pool", "kinds", "many"] spSome) (c__law_some : Cal K mg "_law_some" ["pool", "kinds", "many"] fS fdS)
    (m_range : mg "range" = none) (m_len : mg "len" = none) (m_min : mg "min" = none) (m_sorted : mg "sorted" = none) (m_sum : mg "sum" = none) :
    FnOk P w K mg base CX0 3 f fd ["pool", "most"] spDrawn := by
  refine F.ok sc__law_house (fun vs H Q E h => ?_) (fun cdv A outer s H vs Q E hr h => ?_)
  · obtain ⟨p, n, c, rfl, _⟩ := h
    rfl
  · obtain ⟨p, most, c, rfl, ⟨o, hp, hpo⟩, hmost, hc, hcn, k⟩ := h
    have hu := hu_of hr
    refine ⟨_, (pss_cons (ps_cut (ps_set (i := 2) sc__law_house.nd rfl (Or.inl rfl) (pe_call G__law_kinds hr rfl c__law_kinds.mg c__law_kinds.kp c__law_kinds.b .nil pass0 (pa_cons (pv 0) (pa_cons (pe_op op_add pe_int (pe_call G__law_take (hr.mono (show 1 ≤ 2 by decide)) rfl c__law_take.mg c__law_take.kp c__law_take.b .nil pass0 (pa_cons (pv 0) (pa_cons (pe_ix ix_list (pe_lst (pa_cons pe_int (pa_cons pe_int (pa_cons pe_int (pa_cons pe_int pa_nil))))) (pe_call G__law_take (hr.mono (show 1 ≤ 2 by decide)) rfl c__law_take.mg c__law_take.kp c__law_take.b .nil pass0 (pa_cons (pv 0) (pa_cons pe_int pa_nil))) (fun _ _ => rfl)) pa_nil)))) pa_nil)))))
      (pss_cons (ps_cut (ps_set (i := 3) sc__law_house.nd rfl (Or.inl rfl) (pe_ix ix_list (pe_lst (pa_cons (pe_call G__law_take (hr.mono (show 1 ≤ 2 by decide)) rfl c__law_take.mg c__law_take.kp c__law_take.b .nil pass0 (pa_cons (pv 0) (pa_cons (pe_op op_add (pe_callB (call_min2 rfl) rfl m_min (by decide +kernel) (pa_cons (pv 1) (pa_cons pe_int pa_nil))) pe_int) pa_nil))) (pa_cons (pe_call G__law_take (hr.mono (show 1 ≤ 2 by decide)) rfl c__law_take.mg c__law_take.kp c__law_take.b .nil pass0 (pa_cons (pv 0) (pa_cons (pe_op op_add (pv 1) pe_int) pa_nil))) pa_nil))) (pe_call G__law_take (hr.mono (show 1 ≤ 2 by decide)) rfl c__law_take.mg c__law_take.kp c__law_take.b .nil pass0 (pa_cons (pv 0) (pa_cons pe_int pa_nil))) (fun _ _ => rfl))))
      (pss_cons (ps_cut (ps_set (i := 4) sc__law_house.nd rfl (Or.inl rfl) (pe_ix ix_list (pe_lst (pa_cons pe_int (pa_cons pe_int (pa_cons pe_int (pa_cons pe_int pa_nil))))) (pe_call G__law_take (hr.mono (show 1 ≤ 2 by decide)) rfl c__law_take.mg c__law_take.kp c__law_take.b .nil pass0 (pa_cons (pv 0) (pa_cons pe_int pa_nil))) (fun _ _ => rfl))))
      (pss_cons (ps_cut (ps_set (i := 5) sc__law_house.nd rfl (Or.inl rfl) (pe_ix ix_list (pe_lst (pa_cons pe_int (pa_cons pe_int (pa_cons pe_int pa_nil)))) (pe_call G__law_take (hr.mono (show 1 ≤ 2 by decide)) rfl c__law_take.mg c__law_take.kp c__law_take.b .nil pass0 (pa_cons (pv 0) (pa_cons pe_int pa_nil))) (fun _ _ => rfl))))
      (pss_cons (ps_set (i := 6) sc__law_house.nd rfl (Or.inl rfl) (pe_lst pa_nil))
      (pss_cons (ps_set (i := 7) sc__law_house.nd rfl (Or.inl rfl) pe_int)
      (pss_cons (ps_cut (ps_for PassesOwn.never rfl (pi_range1 rfl m_range (pa_cons (pv 3) pa_nil)) (pg_name (i := 8) sc__law_house.nd rfl (Or.inl rfl))
        (pss_cons (ps_cut (ps_set (i := 9) sc__law_house.nd rfl (Or.inl rfl) (pe_callB call_sorted rfl m_sorted boot_sorted (pa_cons (pe_call G__law_some hr rfl c__law_some.mg c__law_some.kp c__law_some.b .nil pass0 (pa_cons (pv 0) (pa_cons (pv 2) (pa_cons (pe_op op_add pe_int (pe_call G__law_take (hr.mono (show 1 ≤ 2 by decide)) rfl c__law_take.mg c__law_take.kp c__law_take.b .nil pass0 (pa_cons (pv 0) (pa_cons (pv 4) pa_nil)))) pa_nil)))) pa_nil))))
        (pss_cons (ps_set (i := 10) sc__law_house.nd rfl (Or.inl rfl) (pe_call G__law_take (hr.mono (show 1 ≤ 2 by decide)) rfl c__law_take.mg c__law_take.kp c__law_take.b .nil pass0 (pa_cons (pv 0) (pa_cons (pe_op op_add (pv 5) pe_int) pa_nil))))
        (pss_cons (ps_cut (ps_if (pt_cmpR op_eq (pe_call G__law_take (hr.mono (show 1 ≤ 2 by decide)) rfl c__law_take.mg c__law_take.kp c__law_take.b .nil pass0 (pa_cons (pv 0) (pa_cons pe_int pa_nil))) pe_int (nomark _))
          (pss_cons (ps_set (i := 10) sc__law_house.nd rfl (Or.inl rfl) (pe_callB (call_min2 rfl) rfl m_min (by decide +kernel) (pa_cons (pv 7) (pa_cons (pe_op op_add pe_int (pe_call G__law_take (hr.mono (show 1 ≤ 2 by decide)) rfl c__law_take.mg c__law_take.kp c__law_take.b .nil pass0 (pa_cons (pv 0) (pa_cons pe_int pa_nil)))) pa_nil))))
          (pss_one (ps_set (i := 7) sc__law_house.nd rfl (Or.inl rfl) (pe_op op_sub (pv 7) (pv 10))))) pss_nil))
        (pss_one (ps_expr (pe_bm PySem.F.plainAttrs_list PySem.F.slot_list_append PySem.F.type_list_append mt_append (pv 6) (pa_cons (pe_tup (pa_cons (pv 9) (pa_cons (pe_call G__law_some hr rfl c__law_some.mg c__law_some.kp c__law_some.b .nil pass0 (pa_cons (pv 0) (pa_cons (pv 2) (pa_cons (pv 10) pa_nil)))) pa_nil))) pa_nil)))))))))
      (pss_cons (ps_cut (ps_set (i := 11) sc__law_house.nd rfl (Or.inl rfl) (pe_op op_sub pe_int (pe_callB (call_sum rfl) rfl m_sum (by decide +kernel) (pa_cons (pe_lc (outer := defScope (st__law_house)) (N := ["pool", "most", "kinds", "many", "locks", "keys", "rooms", "spare", "room", "doors", "few", "left", "more"]) (N' := ["doors", "within"]) (nl := 2) (ix := []) rfl rfl rfl (pi_list (pv 6))
        (fun C fp s₀ H₀ => (pg_tupK (K := K) (n := 2) rfl rfl (pgs_cons (pg_name (i := 0) nd__law_house_0 rfl (Or.inl rfl) (.inr rfl)) (pgs_cons (pg_name (i := 1) nd__law_house_0 rfl (Or.inl rfl) (.inr rfl)) pgs_nil)))) (fun C fp s₀ H₀ => pif_nil)
        (fun C fp s₀ H₀ => (pe_callB (call_lenK (K := K) rfl) rfl m_len PySem.boot_len (pa_cons (pv 1) pa_nil)))) pa_nil)))))
      (pss_cons (ps_cut (ps_if (PW.pt (pw_and (pt_cmpR op_neD (pv 6) (pe_lst pa_nil) (nomark _)) (pw_and1 (pt_cmpR op_eq (pe_call G__law_take (hr.mono (show 1 ≤ 2 by decide)) rfl c__law_take.mg c__law_take.kp c__law_take.b .nil pass0 (pa_cons (pv 0) (pa_cons pe_int pa_nil))) pe_int (nomark _)))))
        (pss_cons (ps_set (i := 12) sc__law_house.nd rfl (Or.inl rfl) (pe_call G__law_take (hr.mono (show 1 ≤ 2 by decide)) rfl c__law_take.mg c__law_take.kp c__law_take.b .nil pass0 (pa_cons (pv 0) (pa_cons (pe_op op_add (pv 11) pe_int) pa_nil))))
        (pss_cons (ps_expr (pe_bm PySem.F.plainAttrs_list PySem.F.slot_list_extend PySem.F.type_list_extend mt_extend (pe_ix ix_tup (pe_ix ix_list (pv 6) (pe_call G__law_take (hr.mono (show 1 ≤ 2 by decide)) rfl c__law_take.mg c__law_take.kp c__law_take.b .nil pass0 (pa_cons (pv 0) (pa_cons (pe_callB call_len_seq rfl m_len PySem.boot_len (pa_cons (pv 6) pa_nil)) pa_nil))) (fun _ _ => rfl)) pe_int (fun _ _ => rfl)) (pa_cons (pe_call G__law_some hr rfl c__law_some.mg c__law_some.kp c__law_some.b .nil pass0 (pa_cons (pv 0) (pa_cons (pv 2) (pa_cons (pv 12) pa_nil)))) pa_nil)))
        (pss_one (ps_set (i := 11) sc__law_house.nd rfl (Or.inl rfl) (pe_op op_sub (pv 11) (pv 12)))))) pss_nil))
      (pss_one (ps_ret (pe_tup (pa_cons (pe_call G__law_some hr rfl c__law_some.mg c__law_some.kp c__law_some.b .nil pass0 (pa_cons (pv 0) (pa_cons (pv 2) (pa_cons (pe_callB (call_min2 rfl) rfl m_min (by decide +kernel) (pa_cons (pv 11) (pa_cons (pe_call G__law_take (hr.mono (show 1 ≤ 2 by decide)) rfl c__law_take.mg c__law_take.kp c__law_take.b .nil pass0 (pa_cons (pv 0) (pa_cons (pe_ix ix_list (pe_lst (pa_cons pe_int (pa_cons pe_int (pa_cons pe_int (pa_cons pe_int pa_nil))))) (pe_call G__law_take (hr.mono (show 1 ≤ 2 by decide)) rfl c__law_take.mg c__law_take.kp c__law_take.b .nil pass0 (pa_cons (pv 0) (pa_cons pe_int pa_nil))) (fun _ _ => rfl)) pa_nil))) pa_nil))) pa_nil)))) (pa_cons (pv 6) pa_nil)))))))))))))), ?_⟩
    refine ⟨DrI1 p most c H, ?_, ?_⟩
    · rintro σ H1 ⟨kA, ks, c1, rfl, hk1, hkn, hkl, hko, ⟨o1, hp1, hpo1⟩, g1, g2, b1⟩
      refine ⟨DrI2 p most kA c1 H1, ?_, ?_⟩
      · rintro σ H2 ⟨mn, c2, rfl, hmn, ⟨o2, hp2, hpo2⟩, g3, g4, b2⟩
        refine ⟨DrI3 p most kA mn c1 H1, ?_, ?_⟩
        · rintro σ H3 ⟨lk, c3, rfl, hlk1, hlk2, ⟨o3, hp3, hpo3⟩, g5, g6, b3⟩
          refine ⟨DrI4 p most kA mn lk c1 H1, ?_, ?_⟩
          · rintro σ H4 ⟨ky, c4, rfl, hky1, hky2, ⟨o4, hp4, hpo4⟩, g7, g8, b4⟩
            have hk4 := hk1.on b4
            refine ⟨Nat.zero_le _, fun rA nR => ?_⟩
            have npR : p ≠ rA := ne_of_none hp4 nR
            have bR : But p H4 (upd H4 rA (.lst [])) := fun b u hb e => by rw [upd_ne (ne_of_none e nR)]; exact e
            refine ⟨DrI5 p most kA mn lk ky rA H4 ks c4, ?_, ?_⟩
            · rintro σ H5 ⟨x8, x9, x10, sp, c5, vs, rs, ws, rfl, hW, hwf, hrl, hro, hsum, ⟨o5, hp5, hpo5⟩, g9, g10, b5⟩
              have hk5 := hk4.on b5
              have mn60 : mn ≤ 60 := by (first | lia | omega)
              refine ⟨fun σ' H' => σ' = [some (.ref p), some (.int most), some (.ref kA), some (.int mn), some (.int lk), some (.int ky), some (.ref rA), some (.int sp), x8, x9, x10, some (.int (276 - (((rs.map (·.2.length)).sum : Nat) : Int))), none] ∧ Same H5 H', ?_, ?_⟩
              · rintro σ H6 ⟨rfl, sm6⟩
                have b6 : But p H5 H6 := fun b u _ e => sm6 b u e
                have hW6 := hW.on b6
                have hk6 := hk5.on b6
                have hp6 := sm6 _ _ hp5
                refine ⟨DrI6 p most kA mn lk ky rA sp x8 x9 x10 vs ws ks c5 H4, ?_, ?_⟩
                · rintro σ H7 ⟨x12, rs', lf, c7, rfl, hW7, hrl7, hro7, hlf, hsum7, ⟨o7, hp7, hpo7⟩, g11, g12, b7⟩
                  have hk7 := hk4.on b7
                  first | refine tvE rfl ?_ | refine ⟨_, rfl, ?_⟩
                  first | refine tvE rfl ?_ | refine ⟨_, rfl, ?_⟩
                  first | refine tvE rfl ?_ | refine ⟨_, rfl, ?_⟩
                  first | refine tvE rfl ?_ | refine ⟨_, rfl, ?_⟩
                  refine ⟨by show 4 ≤ sizeLine; decide, fun l1 n1 => ?_⟩
                  have np1 : p ≠ l1 := ne_of_none hp7 n1
                  first | refine tvE rfl ?_ | refine ⟨_, rfl, ?_⟩
                  refine ⟨p, 4, c7, o7, rfl, by rw [upd_ne np1]; exact hp7, hpo7, by decide, by decide, by (first | lia | omega), by (first | lia | omega), fun r c8 o8 r0 r1 h1 h2 hpo8 => ?_⟩
                  obtain ⟨m, hm, ha⟩ := menu (xs := [3, 7, 25, 277]) r0 r1
                  have hm' : 3 ≤ m ∧ m ≤ 277 := by simp only [List.mem_cons, List.not_mem_nil, or_false] at hm; (first | lia | omega)
                  refine ⟨l1, _, r, .int m, rfl, rfl, SqL.of (by rw [upd_ne (Ne.symm np1), upd_same]; rfl), ha, ?_⟩
                  refine ⟨p, m, c8, o8, rfl, upd_same, hpo8, by (first | lia | omega), by (first | lia | omega), by (first | lia | omega), by (first | lia | omega), fun q c9 o9 q0 q1 h3 h4 hpo9 => ?_⟩
                  refine ⟨_, _, rfl, ?_⟩
                  have mi : (if q < lf then q else lf) ≤ lf ∧ 0 ≤ (if q < lf then q else lf) ∧ (if q < lf then q else lf) ≤ 276 := by split <;> (first | lia | omega)
                  generalize (if q < lf then q else lf) = mv at mi ⊢
                  obtain ⟨mvn, rfl⟩ : ∃ n : Nat, mv = (n : Int) := ⟨mv.toNat, by (first | lia | omega)⟩
                  have b8 : But p H7 (upd (upd (upd H7 l1 (.lst [.int 3, .int 7, .int 25, .int 277])) p o8) p o9) := fun b u hb e => by rw [upd_ne hb, upd_ne hb, upd_ne (ne_of_none e n1)]; exact e
                  refine ⟨p, kA, mvn, c9, ks, rfl, ⟨o9, upd_same, hpo9⟩, (hk7.on b8).1, hkn, by (first | lia | omega), by (first | lia | omega), by (first | lia | omega), by (first | lia | omega), fun l ss c10 H8 nl hsl hsm hl8 hp8 g13 g14 b9 => ?_⟩
                  first | refine tvE rfl ?_ | refine ⟨_, rfl, ?_⟩
                  refine ⟨by show 2 ≤ sizeLine; decide, fun tA nT => ?_⟩
                  have b79 := b8.trans b9
                  have bT : But p H8 (upd H8 tA (.tup [.ref l, .ref rA])) := fun b u hb e => by rw [upd_ne (ne_of_none e nT)]; exact e
                  obtain ⟨o10, hp10, hpo10⟩ := hp8
                  have hW10 := (hW7.on b79).on bT
                  have fl2 : ((rs'.flatMap (·.2)).length : Int) + lf = 276 := by rw [List.length_flatMap]; exact hsum7
                  have fl1 : (rs'.flatMap (·.1)).length ≤ 1000 := by
                    have : ∀ l : List Rm, (∀ r ∈ l, r.1.length ≤ 4) → (l.flatMap (·.1)).length ≤ 4 * l.length := fun l => by
                      induction l with
                      | nil => intro _; exact Nat.zero_le _
                      | cons a t ih =>
                        intro h
                        have h1 := h a List.mem_cons_self
                        have h2 := ih fun r hr => h r (List.mem_cons_of_mem _ hr)
                        rw [List.flatMap_cons, List.length_append, List.length_cons]
                        (first | lia | omega)
                    have := this rs' fun r hr => (hro7 r hr).2.2.1
                    (first | lia | omega)
                  have ak : (allKeys (ss, rs')).length ≤ 276 := by
                    unfold allKeys
                    rw [List.length_append]
                    show ss.length + (rs'.flatMap (·.2)).length ≤ 276
                    (first | lia | omega)
                  have hin : ∀ x, (x ∈ allKeys (ss, rs') ∨ x ∈ allLocks (ss, rs')) → x ∈ ks := fun x h => by
                    rcases h with h | h
                    · rcases List.mem_append.mp h with h | h
                      · exact hsm x h
                      · obtain ⟨r, hr, hx⟩ := List.mem_flatMap.mp h
                        exact (hro7 r hr).2.2.2.2.1 x hx
                    · obtain ⟨r, hr, hx⟩ := List.mem_flatMap.mp h
                      exact (hro7 r hr).1 x hx
                  refine k (.ref tA) (ss, rs') c10 _ ⟨tA, l, rA, vs, rfl, upd_same, ?_, hW10.ls.1, hW10.rooms⟩ ⟨fun k hk => hko k (hsm k hk), by show ss.length ≤ 1000; (first | lia | omega), fun r hr => ?_, by show rs'.length ≤ 1000; (first | lia | omega)⟩ ⟨⟨ks, by (first | lia | omega), hin⟩, by (first | lia | omega), fl1⟩ (by show rs'.length ≤ most; (first | lia | omega)) ak ⟨o10, by rw [upd_ne (ne_of_none hp10 nT)]; exact hp10, hpo10⟩ (by (first | lia | omega)) (by (first | lia | omega)) ?_
                  · rw [upd_ne (ne_of_none hl8 nT)]; exact hl8
                  · obtain ⟨r1, r2, r3, r4, r5, r6⟩ := hro7 r hr
                    exact ⟨fun k hk => hko k (r1 k hk), r2, r3, r4, fun k hk => hko k (r5 k hk), by (first | lia | omega)⟩
                  · exact b1.trans (b4.trans (b7.trans (b79.trans bT)))
                · have rk : ∀ r ∈ rs, (∀ k ∈ r.1, KindOk k) ∧ ∀ k ∈ r.2, KindOk k := fun r hr => ⟨fun k hk => hko k ((hro r hr).1 k hk), fun k hk => hko k ((hro r hr).2.2.2.2.1 k hk)⟩
                  have ro300 : ∀ r ∈ rs, (∀ k ∈ r.1, k ∈ ks) ∧ 1 ≤ r.1.length ∧ r.1.length ≤ 4 ∧ r.1.Pairwise leS ∧ (∀ k ∈ r.2, k ∈ ks) ∧ r.2.length ≤ 300 := fun r hr => by
                    obtain ⟨r1, r2, r3, r4, r5, r6⟩ := hro r hr
                    exact ⟨r1, r2, r3, r4, r5, by (first | lia | omega)⟩
                  first | refine tvE rfl ?_ | refine ⟨_, rfl, ?_⟩
                  refine ⟨Nat.zero_le _, fun e ne => ?_⟩
                  have sm7 : Same H6 (upd H6 e (.lst [])) := fun b u q => by rw [upd_ne (ne_of_none q ne)]; exact q
                  have he : (upd H6 e (.lst [])) e = some (.lst []) := upd_same
                  generalize upd H6 e (.lst []) = H7 at sm7 he
                  have b7 : But p H6 H7 := fun b u _ q => sm7 b u q
                  have hW7 := hW6.on b7
                  have hp7 := sm7 _ _ hp6
                  refine ⟨.list (rs.map roomData), .list [], .lst hW7.ls.1 (sees_rooms hW7.rooms), .lst he .nil, rooms_lay rk, rfl, ?_, ?_⟩
                  · refine Nat.lt_of_le_of_lt ?_ hu
                    exact Nat.add_le_add_left (Nat.min_le_right _ _) _
                  by_cases hemp : rs = []
                  · subst hemp
                    refine ⟨false, rfl, iteF (iteF ?_)⟩
                    exact ⟨none, [], _, c5, rfl, hW7, hrl, ro300, by (first | lia | omega), by (first | lia | omega), ⟨o5, hp7, hpo5⟩, by (first | lia | omega), by (first | lia | omega), b5.trans (b6.trans b7)⟩
                  · have hne : (if true = true then !PyData.eqv (.list (rs.map roomData)) (.list []) else PyData.eqv (.list (rs.map roomData)) (.list [])) = true := by
                      cases rs with
                      | nil => exact absurd rfl hemp
                      | cons a t => rfl
                    refine ⟨true, congrArg V.bl hne, iteT ?_⟩
                    first | refine tvE rfl ?_ | refine ⟨_, rfl, ?_⟩
                    refine ⟨p, 8, c5, o5, rfl, hp7, hpo5, by decide, by decide, by (first | lia | omega), by (first | lia | omega), fun z c8 o8 z0 z1 g15 g16 hpo8 => ?_⟩
                    have b8 : But p H7 (upd H7 p o8) := But.upd
                    refine ⟨rfl, _, rfl, ite2 (fun _ => ?_) (fun _ => ?_)⟩
                    · first | refine tvE rfl ?_ | refine ⟨_, rfl, ?_⟩
                      first | refine tvE rfl ?_ | refine ⟨_, rfl, ?_⟩
                      refine ⟨_, 1, rfl, rfl, p, _, c8, o8, rfl, upd_same, hpo8, by (first | lia | omega), by (first | lia | omega), by (first | lia | omega), by (first | lia | omega), fun mo c9 o9 m0 m1 g17 g18 hpo9 => ?_⟩
                      obtain ⟨mon, rfl⟩ : ∃ n : Nat, mo = (n : Int) := ⟨mo.toNat, by (first | lia | omega)⟩
                      have b9 : But p H7 (upd (upd H7 p o8) p o9) := b8.trans But.upd
                      have hp9 : (upd (upd H7 p o8) p o9) p = some o9 := upd_same
                      generalize upd (upd H7 p o8) p o9 = H9 at b9 hp9
                      have hW9 := hW7.on b9
                      have hrs : 0 < rs.length := List.length_pos_iff.mpr hemp
                      first | refine tvE rfl ?_ | refine ⟨_, rfl, ?_⟩
                      first | refine tvE rfl ?_ | refine ⟨_, rfl, ?_⟩
                      first | refine tvE rfl ?_ | refine ⟨_, rfl, ?_⟩
                      refine ⟨rA, vs, rfl, .inl (SqL.of hW9.ls.1), p, _, c9, o9, rfl, hp9, hpo9, by rw [hW9.l1]; (first | lia | omega), by rw [hW9.l1]; (first | lia | omega), by (first | lia | omega), by (first | lia | omega), fun ii c10 o10 i0 i1 g19 g20 hpo10 => ?_⟩
                      rw [hW9.l1] at i1
                      obtain ⟨ix, rfl⟩ : ∃ n : Nat, ii = (n : Int) := ⟨ii.toNat, by (first | lia | omega)⟩
                      have hix : ix < rs.length := by (first | lia | omega)
                      have hix2 : ix < ws.length := by rw [hW9.l2]; exact hix
                      have b10 : But p H9 (upd H9 p o10) := But.upd
                      have hp10 : (upd H9 p o10) p = some o10 := upd_same
                      generalize upd H9 p o10 = H10 at b10 hp10
                      have hW10 := hW9.on b10
                      obtain ⟨t, d, a1, a2, a3, a4, a5, a6⟩ := hW10.item ix rs[ix] ws[ix] (List.getElem?_eq_getElem hix) (List.getElem?_eq_getElem hix2)
                      refine ⟨rA, vs, _, .ref t, rfl, rfl, SqL.of hW10.ls.1, atI_nat a1, t, _, 1, .ref ws[ix], rfl, rfl, SqT.of a2.1, rfl, .inl ⟨rfl, _, SqL.of a4.1⟩, ?_⟩
                      have b410 : But p H4 H10 := b5.trans (b6.trans (b7.trans (b9.trans b10)))
                      have hk10 := hk4.on b410
                      first | refine tvE rfl ?_ | refine ⟨_, rfl, ?_⟩
                      first | refine tvE rfl ?_ | refine ⟨_, rfl, ?_⟩
                      first | refine tvE rfl ?_ | refine ⟨_, rfl, ?_⟩
                      refine ⟨p, kA, mon, c10, ks, rfl, ⟨o10, hp10, hpo10⟩, hk10.1, hkn, by (first | lia | omega), by (first | lia | omega), by (first | lia | omega), by (first | lia | omega), fun l ss c11 H11 nl hsl hsm hl11 hp11 g21 g22 b11 => ?_⟩
                      have hW11 := hW10.on b11
                      have r12 := (hro rs[ix] (List.getElem_mem hix)).2.2.2.2.2
                      refine ⟨ws[ix], l, _, _, rfl, rfl, (a4.on b11).1, hl11, by rw [List.length_map, List.length_map]; exact Nat.le_of_lt (small1000 (by (first | lia | omega))), ?_⟩
                      have hWe := hW11.ext (ss := ss) (List.getElem?_eq_getElem hix) (List.getElem?_eq_getElem hix2)
                      obtain ⟨o11, hp11', hpo11⟩ := hp11
                      first | refine tvE rfl ?_ | refine ⟨_, rfl, ?_⟩
                      first | refine tvE rfl ?_ | refine ⟨_, rfl, ?_⟩
                      refine ⟨_, _, rfl, rfl, ?_⟩
                      have sset : (((rs.set ix (rs[ix].1, rs[ix].2 ++ ss)).map (·.2.length)).sum : Nat) = (rs.map (·.2.length)).sum + mon := by
                        have : ∀ (l : List Rm) (i : Nat) (h : i < l.length) (x : Rm), ((l.set i x).map (·.2.length)).sum + (l[i]).2.length = (l.map (·.2.length)).sum + x.2.length := fun l => by
                          induction l with
                          | nil => intro i h; exact absurd h (Nat.not_lt_zero _)
                          | cons a t ih =>
                            intro i h x
                            cases i with
                            | zero => simp; (first | lia | omega)
                            | succ i =>
                              have := ih i (by simpa using h) x
                              simp only [List.set_cons_succ, List.map_cons, List.sum_cons, List.getElem_cons_succ]
                              (first | lia | omega)
                        have := this rs ix hix (rs[ix].1, rs[ix].2 ++ ss)
                        simp only [List.length_append] at this
                        (first | lia | omega)
                      refine ⟨_, _, _, c11, rfl, hWe, by simp [hrl], fun r hr' => ?_, ?_, ?_, ⟨o11, by rw [upd_ne (Ne.symm a4.2)]; exact hp11', hpo11⟩, by (first | lia | omega), by (first | lia | omega), fun b u hb e => ?_⟩
                      · rcases List.mem_or_eq_of_mem_set hr' with hr' | hr'
                        · exact ro300 r hr'
                        · obtain ⟨r1, r2, r3, r4, r5, r6⟩ := hro rs[ix] (List.getElem_mem hix)
                          rw [hr']
                          refine ⟨r1, r2, r3, r4, fun k hk => ?_, ?_⟩
                          · rcases List.mem_append.mp hk with hk | hk
                            · exact r5 k hk
                            · exact hsm k hk
                          · show (rs[ix].2 ++ ss).length ≤ 300
                            rw [List.length_append]
                            (first | lia | omega)
                      · (first | lia | omega)
                      · rw [sset]; (first | lia | omega)
                      · rw [upd_ne (ne_of_none e (hwf _ (List.getElem_mem hix2)))]
                        exact b11 b u hb (b410 b u hb e)
                    · exact ⟨none, rs, _, c8, rfl, hW7.on b8, hrl, ro300, by (first | lia | omega), by (first | lia | omega), ⟨o8, upd_same, hpo8⟩, by (first | lia | omega), by (first | lia | omega), b5.trans (b6.trans (b7.trans b8))⟩
              · dsimp only [tAsg, tOp, tC, tCB, tCons, tNil]
                refine lcomp_eq _ _ _ _ _ _ _ _ _ ?_
                first | refine tvE rfl ?_ | refine ⟨_, rfl, ?_⟩
                refine ⟨rA, rfl, ⟨_, SqL.of hW.ls.1⟩, ?_⟩
                intro D hD
                refine comp_list (xs := vs) (fun j ys H' => ys = ((rs.take j).map fun r => V.int ((r.2.length : Nat) : Int)) ∧ j ≤ 60 ∧ H' D = some (.lst ys) ∧ Same H5 H') ⟨rfl, by decide, upd_same, fun b u e => by rw [upd_ne (ne_of_none e hD)]; exact e⟩ (fun j ys H' ⟨_, _, h, _⟩ => h) (fun j ys H' ⟨_, _, _, sm⟩ => SqL.of (sm _ _ hW.ls.1)) ?_ ?_
                · rintro j ys H6 x hx ⟨rfl, hj0, hD6, sm⟩
                  have hj : j < vs.length := (List.getElem?_eq_some_iff.mp hx).1
                  have hj1 : j < rs.length := by rw [← hW.l1]; exact hj
                  have hj2 : j < ws.length := by rw [hW.l2]; exact hj1
                  obtain ⟨t, d, a1, a2, a3, a4, _⟩ := hW.item j rs[j] ws[j] (List.getElem?_eq_getElem hj1) (List.getElem?_eq_getElem hj2)
                  rw [hx] at a1
                  cases a1
                  refine turn_two t (.ref d) (.ref ws[j]) rfl (SqT.of (sm _ _ a2.1)) rfl ?_
                  first | refine tvE rfl ?_ | refine ⟨_, rfl, ?_⟩
                  refine ⟨ws[j], _, rfl, .inl (SqL.of (sm _ _ a4.1)), hD6, by rw [List.length_map, List.length_take]; exact small1000 (by (first | lia | omega)), nx hj ⟨?_, by (first | lia | omega), upd_same, fun b u e => ?_⟩⟩
                  · rw [List.take_add_one, List.getElem?_eq_getElem hj1, List.map_append, List.length_map]
                    rfl
                  · rw [upd_ne (ne_of_none e hD)]
                    exact sm b u e
                · rintro ys H6 ⟨rfl, _, hD6, sm⟩
                  rw [hW.l1, List.take_length] at hD6
                  have sc : ∀ l : List Rm, (l.map fun r => ((r.2.length : Nat) : Int)).sum = (((l.map (·.2.length)).sum : Nat) : Int) := fun l => by
                    induction l with
                    | nil => rfl
                    | cons a t ih =>
                      rw [List.map_cons, List.map_cons, List.sum_cons, List.sum_cons, ih]
                      (first | lia | omega)
                  refine ⟨D, rs.map (fun r => ((r.2.length : Nat) : Int)), rfl, SqL.of (by rw [hD6, List.map_map]; rfl), fun n hn => ?_, by rw [List.length_map]; (first | lia | omega), 276, _, rfl, rfl, ?_⟩
                  · obtain ⟨r, hr', rfl⟩ := List.mem_map.mp hn
                    have := (hro r hr').2.2.2.2.2
                    (first | lia | omega)
                  · exact ⟨by rw [← sc rs]; rfl, sm⟩
            · first | refine tvE rfl ?_ | refine ⟨_, rfl, ?_⟩
              refine ⟨(mn : Int), rfl, by (first | lia | omega), by (first | lia | omega), ?_⟩
              refine for_range (n := mn) (DrI7 p most kA mn lk ky rA H4 ks c4) ?_ ?_ ?_
              · exact ⟨none, none, none, 40, c4, [], [], [], 0, rfl, ⟨⟨upd_same, Ne.symm npR⟩, rfl, rfl, List.nodup_nil, (fun z => nomatch z), (fun i r w e => by simp at e)⟩, (fun w h => nomatch h), rfl, (fun r h => nomatch h), by decide, by decide, by decide, by decide, ⟨o4, by rw [upd_ne npR]; exact hp4, hpo4⟩, Int.le_refl _, by (first | lia | omega), bR⟩
              · rintro i σ H5 hi ⟨x8, x9, x10, sp, c5, vs, rs, ws, q, rfl, hW, hwf, hrl, hro, hs0, hs1, hs2, hs3, ⟨o5, hp5, hpo5⟩, g9, g10, b5⟩
                have hk5 := hk4.on b5
                refine ⟨DrI8 p most kA mn lk ky rA sp i x10 H5 ks c5, ?_, ?_⟩
                · rintro σ H6 ⟨dA, ds, c6, rfl, hd6, nd6, hdk, hd1, hd4, hdp, ⟨o6, hp6, hpo6⟩, g11, g12, b6⟩
                  first | refine tvE rfl ?_ | refine ⟨_, rfl, ?_⟩
                  first | refine tvE rfl ?_ | refine ⟨_, rfl, ?_⟩
                  refine ⟨_, 1, rfl, rfl, p, ky + 1, c6, o6, rfl, hp6, hpo6, by (first | lia | omega), by (first | lia | omega), by (first | lia | omega), by (first | lia | omega), fun fw c7 o7 f0 f1 g13 g14 hpo7 => ?_⟩
                  have b7 : But p H5 (upd H6 p o7) := b6.trans But.upd
                  have hd7 : At p (upd H6 p o7) dA (.lst (ds.map V.str)) := hd6.on But.upd
                  have hp7 : (upd H6 p o7) p = some o7 := upd_same
                  generalize upd H6 p o7 = H7 at b7 hd7 hp7
                  refine ⟨DrI9 p most kA mn lk ky rA i dA sp c5 H7, ?_, ?_⟩
                  · rintro σ H8 ⟨fw, sp', c8, rfl, hfw, hp8, g15, g16, b8⟩
                    have b58 := b7.trans b8
                    have hk8 := hk5.on b58
                    have hd8 := hd7.on b8
                    have hW8 := hW.on b58
                    first | refine tvE rfl ?_ | refine ⟨_, rfl, ?_⟩
                    refine ⟨.inl ⟨rfl, _, SqL.of hW8.ls.1⟩, _, rfl, _, rfl, _, rfl, _, rfl, p, kA, fw, c8, ks, rfl, hp8, hk8.1, hkn, by (first | lia | omega), by (first | lia | omega), by (first | lia | omega), by (first | lia | omega), fun wA ss c9 H9 nW hsl hsm hw9 hp9 g17 g18 b9 => ?_⟩
                    obtain ⟨o8, hp8', _⟩ := hp8
                    obtain ⟨o9, hp9', hpo9⟩ := hp9
                    have npw : p ≠ wA := ne_of_none hp8' nW
                    refine ⟨by show 2 ≤ sizeLine; decide, fun tA nT => ?_⟩
                    have npt : p ≠ tA := ne_of_none hp9' nT
                    have bT : But p H9 (upd H9 tA (.tup [.ref dA, .ref wA])) := fun b u hb e => by rw [upd_ne (ne_of_none e nT)]; exact e
                    have b5T := (b58.trans b9).trans bT
                    have hdw : dA ≠ wA := ne_of_none hd8.1 nW
                    have hWn := hW.more (r := (ds, ss)) b5T (t := tA) (d := dA) (w := wA) ⟨upd_same, Ne.symm npt⟩ ((hd8.on b9).on bT) ⟨by rw [upd_ne (ne_of_none hw9 nT)]; exact hw9, Ne.symm npw⟩ nd6 (b58.free (Ne.symm npw) nW) hdw
                    have hrA := (hW.on b5T).ls
                    refine ⟨rA, vs, .ref tA, rfl, rfl, hrA.1, by rw [hW.l1]; exact small1000 (by (first | lia | omega)), ?_⟩
                    have hst : ∃ q' : Nat, 40 - sp' ≤ 12 * q' ∧ ((((rs ++ [(ds, ss)]).map (·.2.length)).sum : Nat) : Int) + 4 * q' ≤ 4 * ((i + 1 : Nat) : Int) + (40 - sp') ∧ 0 ≤ sp' ∧ sp' ≤ 40 := by
                      rw [List.map_append, List.sum_append]
                      simp only [List.map_cons, List.map_nil, List.sum_cons, List.sum_nil]
                      rcases hfw with ⟨e1, e2⟩ | ⟨e1, e2, e3⟩
                      · exact ⟨q, by (first | lia | omega), by (first | lia | omega), by (first | lia | omega), by (first | lia | omega)⟩
                      · exact ⟨q + 1, by (first | lia | omega), by (first | lia | omega), by (first | lia | omega), by (first | lia | omega)⟩
                    obtain ⟨q', q1, q2, q3, q4⟩ := hst
                    refine ⟨_, _, _, sp', c9, vs ++ [.ref tA], rs ++ [(ds, ss)], ws ++ [wA], q', rfl, hWn, fun w' hw' => ?_, by simp [hrl], fun r hr' => ?_, q3, q4, q1, q2, ⟨o9, by rw [upd_ne (Ne.symm hrA.2), upd_ne npt]; exact hp9', hpo9⟩, by (first | lia | omega), by (first | lia | omega), fun b u hb e => ?_⟩
                    · rcases List.mem_append.mp hw' with hw' | hw'
                      · exact hwf w' hw'
                      · rw [List.mem_singleton.mp hw']
                        exact b5.free (Ne.symm npw) (b58.free (Ne.symm npw) nW)
                    · rcases List.mem_append.mp hr' with hr' | hr'
                      · exact hro r hr'
                      · rw [List.mem_singleton.mp hr']
                        exact ⟨hdk, hd1, hd4, hdp, hsm, by show ss.length ≤ 12; (first | lia | omega)⟩
                    · rw [upd_ne (ne_of_none e nR)]
                      exact b5T b u hb (b5 b u hb e)
                  · first | refine tvE rfl ?_ | refine ⟨_, rfl, ?_⟩
                    refine ⟨p, 8, c7, o7, rfl, hp7, hpo7, by decide, by decide, by (first | lia | omega), by (first | lia | omega), fun z c8 o8 z0 z1 g15 g16 hpo8 => ?_⟩
                    refine ⟨rfl, _, rfl, ite2 (fun _ => ?_) (fun _ => ?_)⟩
                    · first | refine tvE rfl ?_ | refine ⟨_, rfl, ?_⟩
                      first | refine tvE rfl ?_ | refine ⟨_, rfl, ?_⟩
                      refine ⟨p, 9, c8, o8, rfl, upd_same, hpo8, by decide, by decide, by (first | lia | omega), by (first | lia | omega), fun y c9 o9 y0 y1 g17 g18 hpo9 => ?_⟩
                      refine ⟨4, y, rfl, rfl, _, _, rfl, ?_⟩
                      have mi : (if 4 + y < sp then 4 + y else sp) ≤ sp ∧ 0 ≤ (if 4 + y < sp then 4 + y else sp) ∧ (if 4 + y < sp then 4 + y else sp) ≤ 12 := by split <;> (first | lia | omega)
                      generalize (if 4 + y < sp then 4 + y else sp) = mv at mi ⊢
                      obtain ⟨mvn, rfl⟩ : ∃ n : Nat, mv = (n : Int) := ⟨mv.toNat, by (first | lia | omega)⟩
                      first | refine tvE rfl ?_ | refine ⟨_, rfl, ?_⟩
                      first | refine tvE rfl ?_ | refine ⟨_, rfl, ?_⟩
                      refine ⟨_, _, rfl, rfl, ?_⟩
                      exact ⟨mvn, _, c9, rfl, .inr ⟨rfl, mi.1, by (first | lia | omega)⟩, ⟨o9, upd_same, hpo9⟩, by (first | lia | omega), by (first | lia | omega), But.upd.trans But.upd⟩
                    · obtain ⟨fwn, rfl⟩ : ∃ n : Nat, fw = (n : Int) := ⟨fw.toNat, by (first | lia | omega)⟩
                      exact ⟨fwn, sp, c8, rfl, .inl ⟨rfl, by (first | lia | omega)⟩, ⟨o8, upd_same, hpo8⟩, by (first | lia | omega), by (first | lia | omega), But.upd⟩
                · first | refine tvE rfl ?_ | refine ⟨_, rfl, ?_⟩
                  first | refine tvE rfl ?_ | refine ⟨_, rfl, ?_⟩
                  first | refine tvE rfl ?_ | refine ⟨_, rfl, ?_⟩
                  first | refine tvE rfl ?_ | refine ⟨_, rfl, ?_⟩
                  refine ⟨p, lk, c5, o5, rfl, hp5, hpo5, by (first | lia | omega), by (first | lia | omega), by (first | lia | omega), by (first | lia | omega), fun z c6 o6 z0 z1 g11 g12 hpo6 => ?_⟩
                  obtain ⟨zn, rfl⟩ : ∃ n : Nat, z = (n : Int) := ⟨z.toNat, by (first | lia | omega)⟩
                  refine ⟨1, _, rfl, rfl, ?_⟩
                  have hk6 : At p (upd H5 p o6) kA (.lst (ks.map V.str)) := hk5.on But.upd
                  refine ⟨p, kA, 1 + zn, c6, ks, congrArg (fun z => [V.ref p, V.ref kA, V.int z]) (show (1 + (zn : Int)) = ((1 + zn : Nat) : Int) by (first | lia | omega)), ⟨o6, upd_same, hpo6⟩, hk6.1, hkn, by (first | lia | omega), by (first | lia | omega), by (first | lia | omega), by (first | lia | omega), fun l ss c7 H7 nl hsl hsm hl7 hp7 g13 g14 b7 => ?_⟩
                  refine ⟨l, ss, rfl, SqL.of hl7, by (first | lia | omega), fun dA ds nd hpm hso => ?_⟩
                  have npl : p ≠ l := ne_of_none (show (upd H5 p o6) p = some o6 from upd_same) nl
                  obtain ⟨o7, hp7', hpo7⟩ := hp7
                  have npd : p ≠ dA := ne_of_none hp7' nd
                  have b57 : But p H5 H7 := But.upd.trans b7
                  refine ⟨dA, ds, c7, rfl, ⟨upd_same, Ne.symm npd⟩, b57.free (Ne.symm npd) nd, fun k hk => hsm k (hpm.mem_iff.mp hk), by rw [hpm.length_eq]; (first | lia | omega), by rw [hpm.length_eq]; (first | lia | omega), sortedS_pairwise hso, ⟨o7, by rw [upd_ne npd]; exact hp7', hpo7⟩, by (first | lia | omega), by (first | lia | omega), fun b u hb e => by rw [upd_ne (ne_of_none (b57 b u hb e) nd)]; exact b57 b u hb e⟩
              · rintro σ H5 ⟨x8, x9, x10, sp, c5, vs, rs, ws, q, rfl, hW, hwf, hrl, hro, hs0, hs1, hs2, hs3, hp5, g9, g10, b5⟩
                exact ⟨x8, x9, x10, sp, c5, vs, rs, ws, rfl, hW, hwf, hrl, hro, by (first | lia | omega), hp5, g9, g10, b5⟩
          · refine ⟨by show 3 ≤ sizeLine; decide, fun l1 n1 => ?_⟩
            have np1 : p ≠ l1 := ne_of_none hp3 n1
            first | refine tvE rfl ?_ | refine ⟨_, rfl, ?_⟩
            refine ⟨p, 3, c3, o3, rfl, by rw [upd_ne np1]; exact hp3, hpo3, by decide, by decide, by (first | lia | omega), by (first | lia | omega), fun r c4 o4 r0 r1 h1 h2 hpo4 => ?_⟩
            obtain ⟨m, hm, ha⟩ := menu (xs := [2, 3, 4]) r0 r1
            refine ⟨l1, _, r, .int m, rfl, rfl, SqL.of (by rw [upd_ne (Ne.symm np1), upd_same]; rfl), ha, ?_⟩
            simp only [List.mem_cons, List.not_mem_nil, or_false] at hm
            exact ⟨m, c4, rfl, by (first | lia | omega), by (first | lia | omega), ⟨o4, upd_same, hpo4⟩, by (first | lia | omega), by (first | lia | omega), fun b u hb e => by rw [upd_ne hb, upd_ne (ne_of_none (b3 b u hb e) n1)]; exact b3 b u hb e⟩
        · refine ⟨by show 4 ≤ sizeLine; decide, fun l1 n1 => ?_⟩
          have np1 : p ≠ l1 := ne_of_none hp2 n1
          first | refine tvE rfl ?_ | refine ⟨_, rfl, ?_⟩
          refine ⟨p, 4, c2, o2, rfl, by rw [upd_ne np1]; exact hp2, hpo2, by decide, by decide, by (first | lia | omega), by (first | lia | omega), fun r c4 o4 r0 r1 h1 h2 hpo4 => ?_⟩
          obtain ⟨m, hm, ha⟩ := menu (xs := [1, 1, 2, 4]) r0 r1
          refine ⟨l1, _, r, .int m, rfl, rfl, SqL.of (by rw [upd_ne (Ne.symm np1), upd_same]; rfl), ha, ?_⟩
          simp only [List.mem_cons, List.not_mem_nil, or_false] at hm
          exact ⟨m, c4, rfl, by (first | lia | omega), by (first | lia | omega), ⟨o4, upd_same, hpo4⟩, by (first | lia | omega), by (first | lia | omega), fun b u hb e => by rw [upd_ne hb, upd_ne (ne_of_none (b2 b u hb e) n1)]; exact b2 b u hb e⟩
      · first | refine tvE rfl ?_ | refine ⟨_, rfl, ?_⟩
        first | refine tvE rfl ?_ | refine ⟨_, rfl, ?_⟩
        refine ⟨_, _, rfl, _, 1, rfl, rfl, ?_⟩
        have mi : 0 ≤ (if (8 : Int) < (most : Int) then (8 : Int) else (most : Int)) ∧ (if (8 : Int) < (most : Int) then (8 : Int) else (most : Int)) ≤ most := by split <;> (first | lia | omega)
        refine ⟨p, _, c1, o1, rfl, hp1, hpo1, by (first | lia | omega), by (first | lia | omega), by (first | lia | omega), by (first | lia | omega), fun a c2 o2 a0 a1 h1 h2 hpo2 => ?_⟩
        first | refine tvE rfl ?_ | refine ⟨_, rfl, ?_⟩
        first | refine tvE rfl ?_ | refine ⟨_, rfl, ?_⟩
        refine ⟨_, 1, rfl, rfl, p, _, c2, o2, rfl, upd_same, hpo2, by (first | lia | omega), by (first | lia | omega), by (first | lia | omega), by (first | lia | omega), fun b c3 o3 b0 b1' h3 h4 hpo3 => ?_⟩
        refine ⟨by show 2 ≤ sizeLine; decide, fun l1 n1 => ?_⟩
        have np1 : p ≠ l1 := ne_of_none (show (upd (upd H1 p o2) p o3) p = some o3 from upd_same) n1
        first | refine tvE rfl ?_ | refine ⟨_, rfl, ?_⟩
        refine ⟨p, 2, c3, o3, rfl, by rw [upd_ne np1]; exact upd_same, hpo3, by decide, by decide, by (first | lia | omega), by (first | lia | omega), fun r c4 o4 r0 r1 h5 h6 hpo4 => ?_⟩
        obtain ⟨m, hm, ha⟩ := menu (xs := [a, b]) r0 r1
        refine ⟨l1, _, r, .int m, rfl, rfl, SqL.of (by rw [upd_ne (Ne.symm np1), upd_same]; rfl), ha, ?_⟩
        simp only [List.mem_cons, List.not_mem_nil, or_false] at hm
        obtain ⟨mn, rfl⟩ : ∃ mn : Nat, m = (mn : Int) := ⟨m.toNat, by (first | lia | omega)⟩
        have n1' : H1 l1 = none := by
          rw [upd_ne (Ne.symm np1), upd_ne (Ne.symm np1)] at n1
          exact n1
        exact ⟨mn, c4, rfl, by (first | lia | omega), ⟨o4, upd_same, hpo4⟩, by (first | lia | omega), by (first | lia | omega), fun b u hb e => by rw [upd_ne hb, upd_ne (ne_of_none e n1'), upd_ne hb, upd_ne hb]; exact e⟩
    · first | refine tvE rfl ?_ | refine ⟨_, rfl, ?_⟩
      first | refine tvE rfl ?_ | refine ⟨_, rfl, ?_⟩
      refine ⟨by show 4 ≤ sizeLine; decide, fun l1 n1 => ?_⟩
      have np1 : p ≠ l1 := ne_of_none hp n1
      first | refine tvE rfl ?_ | refine ⟨_, rfl, ?_⟩
      refine ⟨p, 4, c, o, rfl, by rw [upd_ne np1]; exact hp, hpo, by decide, by decide, by (first | lia | omega), by (first | lia | omega), fun r c1 o1 r0 r1 h1 h2 hpo1 => ?_⟩
      obtain ⟨m, hm, ha⟩ := menu (xs := [6, 6, 24, 60]) r0 r1
      have hm' : 1 ≤ m ∧ m ≤ 60 := by simp only [List.mem_cons, List.not_mem_nil, or_false] at hm; (first | lia | omega)
      refine ⟨l1, _, r, .int m, rfl, rfl, SqL.of (by rw [upd_ne (Ne.symm np1), upd_same]; rfl), ha, ?_⟩
      refine ⟨p, m, c1, o1, rfl, upd_same, hpo1, by (first | lia | omega), by (first | lia | omega), by (first | lia | omega), by (first | lia | omega), fun q c2 o2 q0 q1 h3 h4 hpo2 => ?_⟩
      obtain ⟨qn, rfl⟩ : ∃ qn : Nat, q = (qn : Int) := ⟨q.toNat, by (first | lia | omega)⟩
      refine ⟨1, _, rfl, rfl, ?_⟩
      have bb : But p H (upd (upd (upd H l1 (.lst [.int 6, .int 6, .int 24, .int 60])) p o1) p o2) := fun b u hb e => by rw [upd_ne hb, upd_ne hb, upd_ne (ne_of_none e n1)]; exact e
      refine ⟨p, 1 + qn, c2, congrArg (fun z => [V.ref p, V.int z]) (show (1 + (qn : Int)) = ((1 + qn : Nat) : Int) by (first | lia | omega)), ⟨o2, upd_same, hpo2⟩, by (first | lia | omega), by (first | lia | omega), by (first | lia | omega), fun l ks c3 H' hl hkl hko hkn hl' hp' h5 h6 hb => ?_⟩
      refine ⟨l, ks, c3, rfl, ⟨hl', fun z => ?_⟩, (fun z => by rw [z] at hkl; simp at hkl; (first | lia | omega)), by (first | lia | omega), hko, hp', by (first | lia | omega), by (first | lia | omega), bb.trans hb⟩
      subst z
      rw [upd_same] at hl
      cases hl
end
end K7
set_option Elab.async false
set_option linter.all false
set_option maxRecDepth 100000
set_option maxHeartbeats 4000000
namespace K7
open PySem L2 PyProof.Rows
end K7
set_option Elab.async false
set_option linter.all false
set_option maxRecDepth 100000
set_option maxHeartbeats 4000000
namespace L2
open PySem PyProof.Rows
end L2
namespace K7
open PySem L2 PyProof.Rows
def dd : List Str → List Str
  | [] => []
  | a :: r => if a ∈ dd r then dd r else a :: dd r
def pend : List Nat → List Rm → Nat
  | m :: ws, r :: rs => (if m = 0 then 0 else r.2.length) + pend ws rs
  | _, _ => 0
end K7
set_option Elab.async false
set_option linter.all false
set_option maxRecDepth 100000
set_option maxHeartbeats 4000000
namespace K7
open PySem L2 PyProof.Rows
abbrev intsN (ns : List Nat) : List V := ns.map fun i => V.int (i : Nat)
theorem in_ints (i : Nat) (ns : List Nat) : inV (.int i) (intsN ns) = decide (i ∈ ns) := by
  unfold inV intsN
  induction ns with
  | nil => rfl
  | cons a r ih =>
    rw [List.map_cons, List.any_cons, ih]
    show ((a : Int) == (i : Int) || decide (i ∈ r)) = _
    by_cases e : a = i
    · subst e
      simp
    · have e' : ¬ ((a : Int) = (i : Int)) := by (first | lia | omega)
      have e2 : ¬ i = a := fun z => e z.symm
      have : ((a : Int) == (i : Int)) = false := by simpa using e'
      rw [this]
      simp [e2]
theorem flat_ints (ns : List Nat) : (intsN ns).all flatV = true := by
  rw [List.all_map, List.all_eq_true]
  intro _ _
  rfl
theorem sorted_ints_one : ∀ {l1 l2 : List Int}, l1.Pairwise (· ≤ ·) → l2.Pairwise (· ≤ ·) → l1.Perm l2 → l1 = l2
  | [], l2, _, _, p => (List.nil_perm.mp p).symm ▸ rfl
  | a :: r, [], _, _, p => absurd p.length_eq (by simp)
  | a :: r, b :: t, h1, h2, p => by
    have ab : a ≤ b := by
      rcases List.mem_cons.mp (p.mem_iff.mpr List.mem_cons_self : b ∈ a :: r) with e | hb
      · subst e; exact Int.le_refl _
      · exact (List.pairwise_cons.mp h1).1 b hb
    have ba : b ≤ a := by
      rcases List.mem_cons.mp (p.mem_iff.mp List.mem_cons_self : a ∈ b :: t) with e | ha
      · subst e; exact Int.le_refl _
      · exact (List.pairwise_cons.mp h2).1 a ha
    have e := Int.le_antisymm ab ba
    subst e
    rw [sorted_ints_one (List.pairwise_cons.mp h1).2 (List.pairwise_cons.mp h2).2 (List.perm_cons a |>.mp p)]
end K7
set_option Elab.async false
set_option linter.all false
set_option maxRecDepth 100000
set_option maxHeartbeats 4000000
namespace K7
open PySem L2 PyProof.Rows
def mayB (hand locks : List Str) : Bool := locks.all fun x => decide (locks.count x ≤ hand.count x)
def handB (hand : List Str) (r : Rm) : List Str := r.1.foldl List.erase hand ++ r.2
theorem count_erases (x : Str) : ∀ (l h : List Str), (l.foldl List.erase h).count x = h.count x - l.count x
  | [], h => by simp
  | a :: l, h => by
    rw [List.foldl_cons, count_erases x l, List.count_erase, List.count_cons]
    by_cases e : a = x
    · subst e
      simp
      (first | lia | omega)
    · have : ¬ x = a := fun z => e z.symm
      simp [e, this]
theorem erases_len : ∀ (l h : List Str), (l.foldl List.erase h).length ≤ h.length
  | [], h => Nat.le_refl _
  | a :: l, h => by
    rw [List.foldl_cons]
    exact Nat.le_trans (erases_len l _) (List.length_erase_le ..)
theorem may_in {hand locks : List Str} (h : mayB hand locks = true) {i : Nat} (hi : i < locks.length) : locks[i] ∈ (locks.take i).foldl List.erase hand := by
  unfold mayB at h
  rw [List.all_eq_true] at h
  have h1 := of_decide_eq_true (h locks[i] (List.getElem_mem hi))
  have h2 := count_erases locks[i] (locks.take i) hand
  have e : locks = locks.take i ++ locks[i] :: locks.drop (i + 1) := by rw [← List.drop_eq_getElem_cons hi, List.take_append_drop]
  have h3 : locks.count locks[i] = (locks.take i).count locks[i] + (1 + (locks.drop (i + 1)).count locks[i]) := by
    have := congrArg (List.count locks[i]) e
    rw [List.count_append, List.count_cons_self] at this
    (first | lia | omega)
  exact List.count_pos_iff.mp (by (first | lia | omega))
theorem handB_len (hand : List Str) (r : Rm) : (handB hand r).length ≤ hand.length + r.2.length := by
  unfold handB
  rw [List.length_append]
  exact Nat.add_le_add_right (erases_len _ _) _
def handOf (ks : List Str) (rs : List Rm) (order : List Nat) : List Str := order.foldl (fun hd i => handB hd ((rs[i]?).getD ([], []))) ks
theorem handOf_snoc (ks : List Str) (rs : List Rm) (order : List Nat) (i : Nat) : handOf ks rs (order ++ [i]) = handB (handOf ks rs order) ((rs[i]?).getD ([], [])) := by
  unfold handOf
  rw [List.foldl_append]
  rfl
theorem handOf_len {ks : List Str} {rs : List Rm} (m : Nat) (hm : ∀ r ∈ rs, r.2.length ≤ m) : ∀ (order : List Nat) (ks : List Str), (handOf ks rs order).length ≤ ks.length + m * order.length
  | [], ks => by simp [handOf]
  | i :: order, ks => by
    have h1 := handOf_len m hm (ks := ks) order (handB ks ((rs[i]?).getD ([], [])))
    have h2 := handB_len ks ((rs[i]?).getD ([], []))
    have h3 : ((rs[i]?).getD ([], [])).2.length ≤ m := by
      cases e : rs[i]? with
      | none => exact Nat.zero_le _
      | some r => exact hm r (List.mem_of_getElem? e)
    rw [List.length_cons, Nat.mul_succ]
    show (handOf (handB ks ((rs[i]?).getD ([], []))) rs order).length ≤ _
    (first | lia | omega)
def nextOf (rs : List Rm) (hand : List Str) (order : List Nat) : List Nat := (List.range rs.length).filter fun i => !decide (i ∈ order) && mayB hand ((rs[i]?).getD ([], [])).1
def Gone (ks : List Str) (rs : List Rm) (order : List Nat) : Prop := ∀ j i, order[j]? = some i → i < rs.length ∧ i ∉ order.take j ∧ mayB (handOf ks rs (order.take j)) ((rs[i]?).getD ([], [])).1 = true
end K7
set_option Elab.async false
set_option linter.all false
set_option maxRecDepth 100000
set_option maxHeartbeats 4000000
namespace K7
open PySem L2 PyProof.Rows
def spWhole : Sp := fun vs H Q _ => ∃ n : Int, vs = [.int n] ∧ ∀ H', Same H H' → Q (.bl true) H'
def spServes : Sp := fun vs H Q _ => ∃ (a b : Addr) (hand locks : List Str), vs = [.ref a, .ref b] ∧ H a = some (.lst (hand.map V.str)) ∧ H b = some (.lst (locks.map V.str)) ∧ locks.length ≤ 1000 ∧ ∀ H', Same H H' → Q (.bl (mayB hand locks)) H'
def spBehind : Sp := fun vs H Q _ => ∃ (a : Addr) (v : V) (hand : List Str) (r : Rm), vs = [.ref a, v] ∧ H a = some (.lst (hand.map V.str)) ∧ RoomAt H v r ∧ mayB hand r.1 = true ∧ hand.length + r.2.length ≤ sizeLine ∧
  ∀ (l : Addr) (H' : Hp), Same H H' → H l = none → H' l = some (.lst ((handB hand r).map V.str)) → Q (.ref l) H'
section
variable {P : Program} {w : World} {K : PySem.W.Frag} {mg : Str → Option Value} {base : Heap}
theorem sc_is_whole : FnScope ["thing"] ["thing"] (defScope st_is_whole) := ⟨rfl, rfl, rfl, by decide +kernel, rfl, by decide +kernel, by decide +kernel⟩
theorem ok_whole {f : Addr} {fd : FuncData} (F : Fun K "is_whole" "is_whole" st_is_whole f fd) (m_bool : mg "bool" = none) (m_int : mg "int" = none) (m_isinstance : mg "isinstance" = none) : FnOk P w K mg base CX0 1 f fd ["thing"] spWhole := by
  refine F.ok sc_is_whole (fun vs H Q E h => ?_) (fun cdv A outer s H vs Q E hr h => ?_)
  · obtain ⟨n, rfl, _⟩ := h
    rfl
  · obtain ⟨n, rfl, k⟩ := h
    refine ⟨_, (pss_one (ps_ret (pe_and (pe_callB call_isinst rfl m_isinstance (by decide +kernel) (pa_cons (pv 0) (pa_cons (pe_bltn (v := .ty "int") (u := .type "int") rfl m_int (by decide +kernel) rfl) pa_nil))) (pe_one (pe_not (pe_callB call_isinst rfl m_isinstance (by decide +kernel) (pa_cons (pv 0) (pa_cons (pe_bltn (v := .ty "bool") (u := .type "bool") rfl m_bool (by decide +kernel) rfl) pa_nil)))))))), ?_⟩
    refine ⟨_, rfl, _, _, _, true, rfl, .int n, kit_same K _, true, rfl, iteT ?_⟩
    exact ⟨_, rfl, _, _, _, false, rfl, .int n, kit_int_bool K, false, rfl, k _ (Same.refl H)⟩
theorem sc_serves : FnScope ["hand", "locks"] ["hand", "locks"] (defScope st_serves) := ⟨rfl, rfl, rfl, by decide +kernel, rfl, by decide +kernel, by decide +kernel⟩
theorem nd_serves_0 : (["kind", "hand", "locks"] : List Str).Nodup := by decide +kernel
theorem ok_serves {f : Addr} {fd : FuncData} (F : Fun K "serves" "serves" st_serves f fd) (m_all : mg "all" = none) : FnOk P w K mg base CX0 1 f fd ["hand", "locks"] spServes := by
  refine F.ok sc_serves (fun vs H Q E h => ?_) (fun cdv A outer s H vs Q E hr h => ?_)
  · obtain ⟨a, b, hand, locks, rfl, _⟩ := h
    rfl
  · obtain ⟨a, b, hand, locks, rfl, ha, hb, hl, k⟩ := h
    refine ⟨_, (pss_one (ps_ret (pe_callB (call_all rfl) rfl m_all (by decide +kernel) (pa_cons (pe_lc (tg := .Name "kind" _) (outer := defScope (st_serves)) (N := ["hand", "locks"]) (N' := ["kind", "hand", "locks"]) (nl := 1) (ix := [0, 1]) rfl rfl rfl (pi_list (pv 1))
        (fun C fp s₀ H₀ => (pg_name (i := 0) nd_serves_0 rfl (Or.inl rfl) (.inr rfl))) (fun C fp s₀ H₀ => pif_nil)
        (fun C fp s₀ H₀ => (pe_cmpR op_ge (pe_bmK (K := K) rfl PySem.F.plainAttrs_list PySem.F.slot_list_count PySem.F.type_list_count mt_count (pv 1) (pa_cons (pv 0) pa_nil)) (pe_bmK (K := K) rfl PySem.F.plainAttrs_list PySem.F.slot_list_count PySem.F.type_list_count mt_count (pv 2) (pa_cons (pv 0) pa_nil)) (nomark _)))) pa_nil)))), ?_⟩
    dsimp only [tRet, tCB, tCons, tNil]
    refine lcomp_eq _ _ _ _ _ _ _ _ _ ?_
    refine ⟨_, rfl, b, rfl, ⟨_, SqL.of hb⟩, ?_⟩
    intro D hD
    refine comp_list (xs := locks.map V.str) (fun i ys H' => ys = ((locks.take i).map fun x => V.bl (decide (locks.count x ≤ hand.count x))) ∧ i ≤ 1000 ∧ H' D = some (.lst ys) ∧ Same H H') ⟨rfl, by decide, upd_same, fun b u e => by rw [upd_ne (ne_of_none e hD)]; exact e⟩ (fun i ys H' ⟨_, _, h, _⟩ => h) (fun i ys H' ⟨_, _, _, s⟩ => SqL.of (s _ _ hb)) ?_ ?_
    · rintro i ys H2 x hx ⟨rfl, hi0, hD2, s2⟩
      have hi := (List.getElem?_eq_some_iff.mp hx).1
      have hi' := hi
      rw [List.length_map] at hi'
      rw [List.getElem?_map, List.getElem?_eq_getElem hi'] at hx
      cases hx
      refine turn_name rfl ?_
      refine ⟨_, rfl, .inl ⟨rfl, _, SqL.of (s2 _ _ ha)⟩, _, rfl, a, hand, locks[i], rfl, rfl, s2 _ _ ha, ?_⟩
      refine ⟨_, rfl, .inl ⟨rfl, _, SqL.of (s2 _ _ hb)⟩, _, rfl, b, locks, locks[i], rfl, rfl, s2 _ _ hb, ?_⟩
      refine ⟨_, _, rfl, rfl, hD2, by rw [List.length_map, List.length_take]; exact small1000 (by (first | lia | omega)), nx hi ⟨?_, (by (first | lia | omega) : i + 1 ≤ 1000), upd_same, fun b u e => ?_⟩⟩
      · rw [List.take_add_one, List.getElem?_eq_getElem hi', List.map_append]
        have e1 : decide (((locks.count locks[i] : Nat) : Int) ≤ ((hand.count locks[i] : Nat) : Int)) = decide (locks.count locks[i] ≤ hand.count locks[i]) := decide_eq_decide.mpr Int.ofNat_le
        exact congrArg (fun z => _ ++ [V.bl z]) e1
      · rw [upd_ne (ne_of_none e hD)]; exact s2 b u e
    · rintro ys H2 ⟨rfl, _, hD2, s2⟩
      rw [List.length_map, List.take_length] at hD2
      refine ⟨D, locks.map (fun x => decide (locks.count x ≤ hand.count x)), rfl, SqL.of (by rw [hD2, List.map_map]; rfl), ?_⟩
      have e : (locks.map (fun x => decide (locks.count x ≤ hand.count x))).all id = mayB hand locks := by rw [List.all_map]; rfl
      rw [e]
      exact k H2 s2
theorem sc_hand_behind : FnScope ["hand", "room", "locks", "within", "rest", "kind"] ["hand", "room"] (defScope st_hand_behind) := ⟨rfl, rfl, rfl, by decide +kernel, rfl, by decide +kernel, by decide +kernel⟩
theorem ok_behind {f : Addr} {fd : FuncData} (F : Fun K "hand_behind" "hand_behind" st_hand_behind f fd) (m_list : mg "list" = none) : FnOk P w K mg base CX0 1 f fd ["hand", "room"] spBehind := by
  refine F.ok sc_hand_behind (fun vs H Q E h => ?_) (fun cdv A outer s H vs Q E hr h => ?_)
  · obtain ⟨a, v, hand, r, rfl, _⟩ := h
    rfl
  · obtain ⟨a, v, hand, r, rfl, ha, ⟨t, b, c, rfl, ht, hb, hc⟩, hm, hl, k⟩ := h
    refine ⟨_, (pss_cons (ps_asg (pv 1) (pg_tup rfl (pgs_cons (pg_name (i := 2) sc_hand_behind.nd rfl (Or.inl rfl)) (pgs_cons (pg_name (i := 3) sc_hand_behind.nd rfl (Or.inl rfl)) pgs_nil))))
      (pss_cons (ps_set (i := 4) sc_hand_behind.nd rfl (Or.inl rfl) (pe_callTy call_list_of rfl m_list (by decide +kernel) (pa_cons (pv 0) pa_nil)))
      (pss_cons (ps_cut (ps_for PassesOwn.never rfl (pi_list (pv 2)) (pg_name (i := 5) sc_hand_behind.nd rfl (Or.inl rfl))
        (pss_one (ps_expr (pe_bm PySem.F.plainAttrs_list PySem.F.slot_list_remove PySem.F.type_list_remove mt_remove (pv 4) (pa_cons (pv 5) pa_nil))))))
      (pss_one (ps_ret (pe_op op_cat (pv 4) (pv 3))))))), ?_⟩
    refine ⟨_, rfl, t, _, rfl, SqT.of ht, rfl, _, _, rfl, _, _, rfl, rfl, ?_⟩
    refine ⟨_, rfl, a, _, rfl, .inl (SqL.of ha), fun l nl => ?_⟩
    have s1 : ∀ o, Same H (upd H l o) := fun o b u e => by rw [upd_ne (ne_of_none e nl)]; exact e
    refine ⟨fun σ' H' => ∃ x5, σ' = [some (.ref a), some (.ref t), some (.ref b), some (.ref c), some (.ref l), x5] ∧ H' l = some (.lst ((r.1.foldl List.erase hand).map V.str)) ∧ Same H H', ?_, ?_⟩
    · rintro σ H2 ⟨x5, rfl, hl2, s2⟩
      refine ⟨_, rfl, _, rfl, l, c, _, _, rfl, rfl, hl2, s2 _ _ hc, ?_, fun p np => ?_⟩
      · rw [List.length_map, List.length_map]
        exact Nat.le_trans (Nat.add_le_add_right (erases_len _ _) _) hl
      · refine k p _ (fun b u e => ?_) (s2.free np) (by rw [upd_same]; unfold handB; rw [List.map_append])
        have := s2 b u e
        rw [upd_ne (ne_of_none this np)]; exact this
    · refine ⟨_, rfl, b, rfl, ⟨_, SqL.of (s1 _ _ _ hb)⟩, ?_⟩
      refine for_list (xs := r.1.map V.str) (fun i σ' H' => ∃ x5, σ' = [some (.ref a), some (.ref t), some (.ref b), some (.ref c), some (.ref l), x5] ∧ H' l = some (.lst (((r.1.take i).foldl List.erase hand).map V.str)) ∧ Same H H') ⟨_, rfl, upd_same, s1 _⟩ (fun i σ H' _ ⟨_, _, _, s⟩ => SqL.of (s _ _ hb)) ?_ ?_
      · rintro i x σ H2 hx ⟨x5, rfl, hl2, s2⟩
        have hi := (List.getElem?_eq_some_iff.mp hx).1
        rw [List.length_map] at hi
        rw [List.getElem?_map, List.getElem?_eq_getElem hi] at hx
        cases hx
        refine ⟨_, rfl, .inl ⟨rfl, _, SqL.of hl2⟩, _, rfl, l, _, r.1[i], rfl, rfl, hl2, may_in hm hi, ?_⟩
        refine ⟨_, rfl, ?_, fun b u e => ?_⟩
        · rw [upd_same, List.take_add_one, List.getElem?_eq_getElem hi, List.foldl_append]
          rfl
        · rw [upd_ne (ne_of_none e nl)]; exact s2 b u e
      · rintro σ H2 ⟨x5, rfl, hl2, s2⟩
        rw [List.length_map, List.take_length] at hl2
        exact ⟨x5, rfl, hl2, s2⟩
end
end K7
set_option Elab.async false
set_option linter.all false
set_option maxRecDepth 100000
set_option maxHeartbeats 4000000
namespace K7
open PySem L2 PyProof.Rows
def spStep : Sp := fun vs H Q _ => ∃ (r a g : Addr) (n : Nat) (us : List V) (rs : List Rm) (hand : List Str) (gone : List Nat), vs = [.ref r, .ref a, .ref g, .int n] ∧ H r = some (.lst us) ∧ RoomsAt H us rs ∧ (∀ q ∈ rs, q.1.length ≤ 1000) ∧ H a = some (.lst (hand.map V.str)) ∧ H g = some (.lst (intsN gone)) ∧ n < rs.length ∧
  ∀ H', Same H H' → Q (.bl (!decide (n ∈ gone) && mayB hand ((rs[n]?).getD ([], [])).1)) H'
section
variable {P : Program} {w : World} {K : PySem.W.Frag} {mg : Str → Option Value} {base : Heap}
theorem sc_is_step : FnScope ["rooms", "hand", "gone", "number"] ["rooms", "hand", "gone", "number"] (defScope st_is_step) := ⟨rfl, rfl, rfl, by decide +kernel, rfl, by decide +kernel, by decide +kernel⟩
theorem ok_step {f fW fS : Addr} {fd fdW fdS : FuncData} (F : Fun K "is_step" "is_step" st_is_step f fd) (G_is_whole : FnOk P w K mg base CX0 1 fW fdW ["thing"] spWhole) (c_is_whole : Cal K mg "is_whole" ["thing"] fW fdW)
    (G_serves : FnOk P w K mg base CX0 1 fS fdS ["hand", "locks"] spServes) (c_serves : Cal K mg "serves" ["hand", "locks"] fS fdS) (m_len : mg "len" = none) : FnOk P w K mg base CX0 2 f fd ["rooms", "hand", "gone", "number"] spStep := by
  refine F.ok sc_is_step (fun vs H Q E h => ?_) (fun cdv A outer s H vs Q E hr h => ?_)
  · obtain ⟨r, a, g, n, us, rs, hand, gone, rfl, _⟩ := h
    rfl
  · obtain ⟨r, a, g, n, us, rs, hand, gone, rfl, hr', hR, hl, ha, hg, hn, k⟩ := h
    refine ⟨_, (pss_cons (ps_if (PW.pt (pw_or (pt_not (pt_val (pe_call G_is_whole hr rfl c_is_whole.mg c_is_whole.kp c_is_whole.b .nil pass0 (pa_cons (pv 3) pa_nil)))) (pw_or1 (pt_not (pt_chain op_le op_lt pe_int (pv 3) (pe_callB call_len_seq rfl m_len PySem.boot_len (pa_cons (pv 0) pa_nil)))))))
        (pss_one (ps_ret pe_bl)) pss_nil)
      (pss_one (ps_ret (pe_and (pe_cmpR op_notIn_seq (pv 3) (pv 2) rfl) (pe_one (pe_call G_serves hr rfl c_serves.mg c_serves.kp c_serves.b .nil pass0 (pa_cons (pv 1) (pa_cons (pe_ix ix_tup (pe_ix ix_list (pv 0) (pv 3) (fun _ _ => rfl)) pe_int (fun _ _ => rfl)) pa_nil)))))))), ?_⟩
    refine ⟨_, rfl, (n : Int), rfl, fun H1 s1 => ⟨true, rfl, iteF ?_⟩⟩
    refine ⟨_, rfl, 0, _, rfl, rfl, true, congrArg V.bl (decide_eq_true (by (first | lia | omega))), iteT ?_⟩
    refine ⟨_, rfl, r, us, rfl, .inl (SqL.of (s1 _ _ hr')), _, _, rfl, rfl, true, congrArg V.bl (decide_eq_true (by have := hR.1; (first | lia | omega))), iteF ?_⟩
    refine ⟨_, rfl, _, rfl, g, _, rfl, .inl (SqL.of (s1 _ _ hg)), rfl, flat_ints gone, ?_⟩
    by_cases hin : n ∈ gone
    · refine ⟨false, congrArg V.bl (by rw [if_pos rfl, in_ints, decide_eq_true hin]; rfl), iteF ?_⟩
      have := k H1 s1
      rw [decide_eq_true hin] at this
      exact this
    · refine ⟨true, congrArg V.bl (by rw [if_pos rfl, in_ints, decide_eq_false hin]; rfl), iteT ?_⟩
      obtain ⟨q, hq⟩ : ∃ q, rs[n]? = some q := ⟨_, List.getElem?_eq_getElem hn⟩
      obtain ⟨v, hv⟩ : ∃ v, us[n]? = some v := ⟨_, List.getElem?_eq_getElem (by rw [hR.1]; exact hn)⟩
      obtain ⟨tt, aa, bb, rfl, q1, q2, q3⟩ := (hR.2 n v q hv hq).same s1
      refine ⟨_, rfl, _, rfl, _, rfl, r, us, (n : Int), _, rfl, rfl, SqL.of (s1 _ _ hr'), atI_nat hv, tt, _, 0, .ref aa, rfl, rfl, SqT.of q1, rfl, a, aa, hand, q.1, rfl, s1 _ _ ha, q2, hl q (List.mem_of_getElem? hq), fun H2 s2 => ?_⟩
      have := k H2 (s1.trans s2)
      rw [decide_eq_false hin, hq] at this
      exact this
end
end K7
set_option Elab.async false
set_option linter.all false
set_option maxRecDepth 100000
set_option maxHeartbeats 4000000
namespace K7
open PySem L2 PyProof.Rows
theorem cut_to {xs : List V} {k : Nat} (h : k ≤ xs.length) : cutV xs none (some (k : Int)) = xs.take k := by
  unfold cutV
  rw [HT.sIx_none, HT.sIx_nat, Nat.sub_zero, List.drop_zero, Nat.min_eq_left h]
def spAfter : Sp := fun vs H Q _ => ∃ (v : V) (o : Addr) (h : Hs) (order : List Nat), vs = [v, .ref o] ∧ HouseAt H v h ∧ HouseOk h ∧ H o = some (.lst (intsN order)) ∧ Gone h.1 h.2 order ∧ order.length ≤ 200 ∧
  ∀ (l : Addr) (H' : Hp), Same H H' → H l = none → H' l = some (.lst ((handOf h.1 h.2 order).map V.str)) → Q (.ref l) H'
def spNextR : Sp := fun vs H Q _ => ∃ (v : V) (o : Addr) (h : Hs) (order : List Nat), vs = [v, .ref o] ∧ HouseAt H v h ∧ HouseOk h ∧ H o = some (.lst (intsN order)) ∧ Gone h.1 h.2 order ∧ order.length ≤ 200 ∧
  ∀ (l : Addr) (H' : Hp), Same H H' → H l = none → H' l = some (.lst (intsN (nextOf h.2 (handOf h.1 h.2 order) order))) → Q (.ref l) H'
def spKeysB : Sp := fun vs H Q _ => ∃ (v : V) (o : Addr) (h : Hs) (order : List Nat), vs = [v, .ref o] ∧ HouseAt H v h ∧ HouseOk h ∧ H o = some (.lst (intsN order)) ∧ Gone h.1 h.2 order ∧ order.length ≤ 200 ∧
  ∀ (l : Addr) (ss : List Str) (H' : Hp), Same H H' → H l = none → ss.Perm (handOf h.1 h.2 order) → ss.Pairwise leS → H' l = some (.lst (ss.map V.str)) → Q (.ref l) H'
theorem erases_mem {x : Str} : ∀ (l h : List Str), x ∈ l.foldl List.erase h → x ∈ h
  | [], h, e => e
  | a :: l, h, e => List.mem_of_mem_erase (erases_mem l _ (by rw [List.foldl_cons] at e; exact e))
theorem hand_kinds {rs : List Rm} (hr : ∀ r ∈ rs, ∀ k ∈ r.2, KindOk k) : ∀ (order : List Nat) (ks : List Str), (∀ k ∈ ks, KindOk k) → ∀ k ∈ handOf ks rs order, KindOk k
  | [], ks, hk, k, e => hk k e
  | i :: order, ks, hk, k, e => by
    refine hand_kinds hr order (handB ks ((rs[i]?).getD ([], []))) (fun x hx => ?_) k e
    unfold handB at hx
    rcases List.mem_append.mp hx with q | q
    · exact hk x (erases_mem _ _ q)
    · cases e2 : rs[i]? with
      | none => rw [e2] at q; cases q
      | some r => rw [e2] at q; exact hr r (List.mem_of_getElem? e2) x q
theorem hand_few {h : Hs} (ok : HouseOk h) {order : List Nat} (ho : order.length ≤ 200) : (handOf h.1 h.2 order).length ≤ 201000 := by
  have := handOf_len (ks := h.1) 1000 (fun r hr => (ok.rs r hr).kl) order h.1
  have := ok.kl
  (first | lia | omega)
section
variable {P : Program} {w : World} {K : PySem.W.Frag} {mg : Str → Option Value} {base : Heap}
theorem sc_hand_after : FnScope ["house", "order", "keys", "rooms", "hand", "at", "number"] ["house", "order"] (defScope st_hand_after) := ⟨rfl, rfl, rfl, by decide +kernel, rfl, by decide +kernel, by decide +kernel⟩
inductive AfI1 (t : Addr) (o : Addr) (a : Addr) (r : Addr) (h : Hs) (order : List Nat) (H : Hp) (σ' : L2.St) (H' : Hp) : Prop
  | mk (l : Addr) (x5 x6 : Option V) : (σ' = [some (.ref t), some (.ref o), some (.ref a), some (.ref r), some (.ref l), x5, x6]) → (H' l = some (.lst ((handOf h.1 h.2 order).map V.str))) → (H l = none) → (Same H H') → AfI1 t o a r h order H σ' H'
inductive AfI2 (t : Addr) (o : Addr) (a : Addr) (r : Addr) (h : Hs) (order : List Nat) (H : Hp) (i : Nat) (σ' : L2.St) (H' : Hp) : Prop
  | mk (l : Addr) (x5 x6 : Option V) : (σ' = [some (.ref t), some (.ref o), some (.ref a), some (.ref r), some (.ref l), x5, x6]) → (H' l = some (.lst ((handOf h.1 h.2 (order.take i)).map V.str))) → (H l = none) → (Same H H') → AfI2 t o a r h order H i σ' H'
theorem ok_after {f fS fB : Addr} {fd fdS fdB : FuncData} (F : Fun K "hand_after" "hand_after" st_hand_after f fd) (G_is_step : FnOk P w K mg base CX0 2 fS fdS ["rooms", "hand", "gone", "number"] spStep) (c_is_step : Cal K mg "is_step" ["rooms", "hand", "gone", "number"] fS fdS)
    (G_hand_behind : FnOk P w K mg base CX0 1 fB fdB ["hand", "room"] spBehind) (c_hand_behind : Cal K mg "hand_behind" ["hand", "room"] fB fdB) (m_enumerate : mg "enumerate" = none) (m_isinstance : mg "isinstance" = none) (m_list : mg "list" = none) : FnOk P w K mg base CX0 3 f fd ["house", "order"] spAfter := by
  refine F.ok sc_hand_after (fun vs H Q E h => ?_) (fun cdv A outer s H vs Q E hr h => ?_)
  · obtain ⟨v, o, h, order, rfl, _⟩ := h
    rfl
  · obtain ⟨v, o, h, order, rfl, ⟨t, a, r, us, rfl, ht, ha, hr', hR⟩, ok, ho, hg, hol, k⟩ := h
    refine ⟨_, (pss_cons (ps_if (pt_not (pt_val (pe_callB call_isinst rfl m_isinstance (by decide +kernel) (pa_cons (pv 1) (pa_cons (pe_bltn (v := .ty "list") (u := .type "list") rfl m_list (by decide +kernel) rfl) pa_nil)))))
        pss_never pss_nil)
      (pss_cons (ps_asg (pv 0) (pg_tup rfl (pgs_cons (pg_name (i := 2) sc_hand_after.nd rfl (Or.inl rfl)) (pgs_cons (pg_name (i := 3) sc_hand_after.nd rfl (Or.inl rfl)) pgs_nil))))
      (pss_cons (ps_set (i := 4) sc_hand_after.nd rfl (Or.inl rfl) (pe_callTy call_list_of rfl m_list (by decide +kernel) (pa_cons (pv 2) pa_nil)))
      (pss_cons (ps_cut (ps_for PassesOwn.never rfl (pi_enum rfl m_enumerate (pa_cons (pv 1) pa_nil)) (pg_tup rfl (pgs_cons (pg_name (i := 5) sc_hand_after.nd rfl (Or.inl rfl)) (pgs_cons (pg_name (i := 6) sc_hand_after.nd rfl (Or.inl rfl)) pgs_nil)))
        (pss_cons (ps_if (pt_not (pt_val (pe_call G_is_step hr rfl c_is_step.mg c_is_step.kp c_is_step.b .nil pass0 (pa_cons (pv 3) (pa_cons (pv 4) (pa_cons (pe_slice sl_list (pv 1) po_none (po_some (pv 5))) (pa_cons (pv 6) pa_nil)))))))
          pss_never pss_nil)
        (pss_one (ps_set (i := 4) sc_hand_after.nd rfl (Or.inl rfl) (pe_call G_hand_behind (hr.mono (show 1 ≤ 2 by decide)) rfl c_hand_behind.mg c_hand_behind.kp c_hand_behind.b .nil pass0 (pa_cons (pv 4) (pa_cons (pe_ix ix_list (pv 3) (pv 6) (fun _ _ => rfl)) pa_nil))))))))
      (pss_one (ps_ret (pv 4))))))), ?_⟩
    first | refine tvE rfl ?_ | refine ⟨_, rfl, ?_⟩
    refine ⟨_, _, _, true, rfl, .lst ho, kit_same K _, true, rfl, iteF ?_⟩
    first | refine tvE rfl ?_ | refine ⟨_, rfl, ?_⟩
    refine ⟨t, _, rfl, SqT.of ht, rfl, _, _, rfl, _, _, rfl, rfl, ?_⟩
    first | refine tvE rfl ?_ | refine ⟨_, rfl, ?_⟩
    refine ⟨a, _, rfl, .inl (SqL.of ha), fun l nl => ?_⟩
    have s1 : Same H (upd H l (.lst (h.1.map V.str))) := fun b u e => by rw [upd_ne (ne_of_none e nl)]; exact e
    refine ⟨AfI1 t o a r h order H, ?_, ?_⟩
    · rintro σ H2 ⟨l, x5, x6, rfl, hl, nl, s2⟩
      first | refine tvE rfl ?_ | refine ⟨_, rfl, ?_⟩
      exact k l H2 s2 nl hl
    first | refine tvE rfl ?_ | refine ⟨_, rfl, ?_⟩
    refine ⟨o, rfl, ⟨_, SqL.of (s1 _ _ ho)⟩, ?_⟩
    refine for_enum (xs := intsN order) (AfI2 t o a r h order H) ⟨l, _, _, rfl, upd_same, nl, s1⟩ (fun i σ H' _ ⟨_, _, _, _, _, _, s⟩ => SqL.of (s _ _ ho)) ?_ ?_
    · rintro i x σ H2 T hx ⟨l2, x5, x6, rfl, hl2, nl2, s2⟩ nT
      have hi : i < order.length := by
        have := (List.getElem?_eq_some_iff.mp hx).1
        rw [List.length_map] at this; exact this
      obtain ⟨n, hn⟩ : ∃ n, order[i]? = some n := ⟨_, List.getElem?_eq_getElem hi⟩
      rw [List.getElem?_map, hn] at hx
      cases hx
      obtain ⟨g1, g2, g3⟩ := hg i n hn
      have sT : Same H2 (upd H2 T (.tup [.int (i : Int), .int ((n : Nat) : Int)])) := fun b u e => by rw [upd_ne (ne_of_none e nT)]; exact e
      refine ⟨T, _, rfl, SqT.of upd_same, rfl, _, _, rfl, _, _, rfl, rfl, ?_⟩
      have hl3 := sT _ _ hl2
      have s3 := s2.trans sT
      generalize upd H2 T (.tup [.int (i : Int), .int ((n : Nat) : Int)]) = H3 at hl3 s3 ⊢
      first | refine tvE rfl ?_ | refine ⟨_, rfl, ?_⟩
      first | refine tvE rfl ?_ | refine ⟨_, rfl, ?_⟩
      first | refine tvE rfl ?_ | refine ⟨_, rfl, ?_⟩
      first | refine tvE rfl ?_ | refine ⟨_, rfl, ?_⟩
      first | refine tvE rfl ?_ | refine ⟨_, rfl, ?_⟩
      refine ⟨o, _, rfl, SqL.of (s3 _ _ ho), fun c nc => ?_⟩
      rw [cut_to (by rw [List.length_map]; (first | lia | omega))]
      have ec : (intsN order).take i = intsN (order.take i) := List.map_take.symm
      rw [ec]
      have s4 : Same H3 (upd H3 c (.lst (intsN (order.take i)))) := fun b u e => by rw [upd_ne (ne_of_none e nc)]; exact e
      have hc4 : (upd H3 c (.lst (intsN (order.take i)))) c = some (.lst (intsN (order.take i))) := upd_same
      generalize upd H3 c (.lst (intsN (order.take i))) = H4 at s4 hc4 ⊢
      have s04 := s3.trans s4
      first | refine tvE rfl ?_ | refine ⟨_, rfl, ?_⟩
      refine ⟨r, l2, c, n, us, h.2, handOf h.1 h.2 (order.take i), order.take i, rfl, s04 _ _ hr', hR.same s04, fun q hq => by have := (ok.rs q hq).l4; (first | lia | omega), s4 _ _ hl3, hc4, g1, fun H5 s5 => ?_⟩
      refine ⟨true, congrArg V.bl (by rw [decide_eq_false g2, g3]; rfl), iteF ?_⟩
      have s05 := s04.trans s5
      obtain ⟨q, hq⟩ : ∃ q, h.2[n]? = some q := ⟨_, List.getElem?_eq_getElem g1⟩
      obtain ⟨v, hv⟩ : ∃ v, us[n]? = some v := ⟨_, List.getElem?_eq_getElem (by rw [hR.1]; exact g1)⟩
      have hrm := (hR.2 n v q hv hq).same s05
      have hf := hand_few ok (order := order.take i) (by rw [List.length_take]; (first | lia | omega))
      have hkl := (ok.rs q (List.mem_of_getElem? hq)).kl
      rw [hq] at g3
      first | refine tvE rfl ?_ | refine ⟨_, rfl, ?_⟩
      first | refine tvE rfl ?_ | refine ⟨_, rfl, ?_⟩
      first | refine tvE rfl ?_ | refine ⟨_, rfl, ?_⟩
      refine ⟨r, us, (n : Int), _, rfl, rfl, SqL.of (s05 _ _ hr'), atI_nat hv, l2, v, handOf h.1 h.2 (order.take i), q, rfl, s5 _ _ (s4 _ _ hl3), hrm, g3, Nat.le_trans (by (first | lia | omega) : _ ≤ 202000) (by decide), fun l6 H6 s6 nl6 hl6 => ?_⟩
      refine ⟨l6, _, _, rfl, ?_, s05.free nl6, s05.trans s6⟩
      rw [hl6, List.take_add_one, hn]
      show _ = some (HO.lst ((handOf h.1 h.2 (order.take i ++ [n])).map V.str))
      rw [handOf_snoc, hq]
      rfl
    · rintro σ H2 ⟨l2, x5, x6, rfl, hl2, nl2, s2⟩
      rw [List.length_map, List.take_length] at hl2
      exact ⟨l2, x5, x6, rfl, hl2, nl2, s2⟩
theorem sc_next_rooms : FnScope ["house", "order", "hand", "rooms"] ["house", "order"] (defScope st_next_rooms) := ⟨rfl, rfl, rfl, by decide +kernel, rfl, by decide +kernel, by decide +kernel⟩
theorem nd_next_rooms_0 : (["number", "rooms", "hand", "order"] : List Str).Nodup := by decide +kernel
theorem ok_nextr {f fR fA fS : Addr} {fd fdR fdA fdS : FuncData} (F : Fun K "next_rooms" "next_rooms" st_next_rooms f fd) (G_require_house : FnOk P w K mg base CX0 6 fR fdR ["thing"] spReq) (c_require_house : Cal K mg "require_house" ["thing"] fR fdR)
    (G_hand_after : FnOk P w K mg base CX0 3 fA fdA ["house", "order"] spAfter) (c_hand_after : Cal K mg "hand_after" ["house", "order"] fA fdA)
    (G_is_step : FnOk P w K mg base CX0 2 fS fdS ["rooms", "hand", "gone", "number"] spStep) (c_is_step : Cal K mg "is_step" ["rooms", "hand", "gone", "number"] fS fdS) (m_len : mg "len" = none) (m_range : mg "range" = none) : FnOk P w K mg base CX0 7 f fd ["house", "order"] spNextR := by
  refine F.ok sc_next_rooms (fun vs H Q E h => ?_) (fun cdv A outer s H vs Q E hr h => ?_)
  · obtain ⟨v, o, h, order, rfl, _⟩ := h
    rfl
  · obtain ⟨v, o, h, order, rfl, hh, ok, ho, hg, hol, k⟩ := h
    refine ⟨_, (pss_cons (ps_expr (pe_call G_require_house hr rfl c_require_house.mg c_require_house.kp c_require_house.b .nil pass0 (pa_cons (pv 0) pa_nil)))
      (pss_cons (ps_set (i := 2) sc_next_rooms.nd rfl (Or.inr rfl) (pe_call G_hand_after (hr.mono (show 3 ≤ 6 by decide)) rfl c_hand_after.mg c_hand_after.kp c_hand_after.b .nil pass0 (pa_cons (pv 0) (pa_cons (pv 1) pa_nil))))
      (pss_cons (ps_set (i := 3) sc_next_rooms.nd rfl (Or.inr rfl) (pe_ix ix_tup (pv 0) pe_int (fun _ _ => rfl)))
      (pss_one (ps_ret (pe_lc (tg := .Name "number" _) (outer := defScope (st_next_rooms)) (N := ["house", "order", "hand", "rooms"]) (N' := ["number", "rooms", "hand", "order"]) (nl := 1) (ix := [3, 2, 1]) rfl rfl rfl (pi_range1 rfl m_range (pa_cons (pe_callB call_len_seq rfl m_len PySem.boot_len (pa_cons (pv 3) pa_nil)) pa_nil))
        (fun C fp s₀ H₀ => (pg_name (i := 0) nd_next_rooms_0 rfl (Or.inl rfl) (.inr rfl))) (fun C fp s₀ H₀ => (pif_one (pt_val (pe_call G_is_step (hr.mono (show 2 ≤ 6 by decide)) rfl c_is_step.mg c_is_step.kp c_is_step.b .nil pass0 (pa_cons (pv 1) (pa_cons (pv 2) (pa_cons (pv 3) (pa_cons (pv 0) pa_nil))))))))
        (fun C fp s₀ H₀ => (pv 0)))))))), ?_⟩
    first | refine tvE rfl ?_ | refine ⟨_, rfl, ?_⟩
    refine ⟨v, h, rfl, hh, ok, fun H1 s1 => ?_⟩
    first | refine tvE rfl ?_ | refine ⟨_, rfl, ?_⟩
    first | refine tvE rfl ?_ | refine ⟨_, rfl, ?_⟩
    refine ⟨v, o, h, order, rfl, hh.same s1, ok, s1 _ _ ho, hg, hol, fun l H2 s2 nl hl => ?_⟩
    have s02 := s1.trans s2
    obtain ⟨t, a, r, us, rfl, ht, ha, hr', hR⟩ := hh.same s02
    have ho2 := s02 _ _ ho
    first | refine tvE rfl ?_ | refine ⟨_, rfl, ?_⟩
    refine ⟨t, _, 1, .ref r, rfl, rfl, SqT.of ht, rfl, ?_⟩
    have hul : us.length ≤ 1000 := by rw [hR.1]; exact ok.rl
    dsimp only [tRet]
    refine lcomp_eq _ _ _ _ _ _ _ _ _ ?_
    first | refine tvE rfl ?_ | refine ⟨_, rfl, ?_⟩
    refine ⟨r, us, rfl, .inl (SqL.of hr'), ((us.length : Nat) : Int), rfl, by (first | lia | omega), by (first | lia | omega), ?_⟩
    rw [Int.toNat_natCast]
    intro D hD
    refine comp_range (n := us.length) (fun i ys H' => ys = intsN ((List.range i).filter fun i => !decide (i ∈ order) && mayB (handOf h.1 h.2 order) ((h.2[i]?).getD ([], [])).1) ∧ i ≤ 1000 ∧ H' D = some (.lst ys) ∧ Same H2 H') ⟨rfl, by decide, upd_same, fun b u e => by rw [upd_ne (ne_of_none e hD)]; exact e⟩ (fun i ys H' ⟨_, _, h, _⟩ => h) ?_ ?_
    · rintro i ys H3 hi ⟨rfl, hi0, hD3, s3⟩
      rw [show (0 + (i : Int)) = ((i : Nat) : Int) by (first | lia | omega)]
      have hi' : i < h.2.length := by rw [← hR.1]; exact hi
      have hlen : (intsN ((List.range i).filter fun i => !decide (i ∈ order) && mayB (handOf h.1 h.2 order) ((h.2[i]?).getD ([], [])).1)).length ≤ 1000 := by
        rw [List.length_map]
        exact Nat.le_trans (List.length_filter_le _ _) (by rw [List.length_range]; (first | lia | omega))
      refine turn_test rfl ?_
      first | refine tvE rfl ?_ | refine ⟨_, rfl, ?_⟩
      first | refine tvE rfl ?_ | refine ⟨_, rfl, ?_⟩
      first | refine tvE rfl ?_ | refine ⟨_, rfl, ?_⟩
      first | refine tvE rfl ?_ | refine ⟨_, rfl, ?_⟩
      refine ⟨r, l, o, i, us, h.2, handOf h.1 h.2 order, order, rfl, s3 _ _ hr', hR.same s3, fun q hq => by have := (ok.rs q hq).l4; (first | lia | omega), s3 _ _ hl, s3 _ _ ho2, hi', fun H4 s4 => ?_⟩
      cases hm : (!decide (i ∈ order) && mayB (handOf h.1 h.2 order) ((h.2[i]?).getD ([], [])).1) with
      | true =>
        refine ⟨true, rfl, iteT ?_⟩
        first | refine tvE rfl ?_ | refine ⟨_, rfl, ?_⟩
        refine ⟨s4 _ _ hD3, small1000 hlen, nx hi ⟨?_, by (first | lia | omega), upd_same, fun b u e => ?_⟩⟩
        · rw [List.range_succ, List.filter_append, List.filter_cons, if_pos hm, List.filter_nil]
          unfold intsN
          rw [List.map_append]
          rfl
        · rw [upd_ne (ne_of_none e hD)]; exact s4 _ _ (s3 b u e)
      | false =>
        refine ⟨false, rfl, iteF ?_⟩
        refine nx hi ⟨?_, by (first | lia | omega), s4 _ _ hD3, s3.trans s4⟩
        rw [List.range_succ, List.filter_append, List.filter_cons, if_neg (by rw [hm]; exact Bool.false_ne_true), List.filter_nil, List.append_nil]
    · rintro ys H3 ⟨rfl, _, hD3, s3⟩
      rw [hR.1] at hD3
      exact k D H3 (s02.trans s3) (s02.free hD) hD3
theorem sc_keys_behind : FnScope ["house", "order"] ["house", "order"] (defScope st_keys_behind) := ⟨rfl, rfl, rfl, by decide +kernel, rfl, by decide +kernel, by decide +kernel⟩
theorem ok_keysb {f fR fA : Addr} {fd fdR fdA : FuncData} (F : Fun K "keys_behind" "keys_behind" st_keys_behind f fd) (G_require_house : FnOk P w K mg base CX0 6 fR fdR ["thing"] spReq) (c_require_house : Cal K mg "require_house" ["thing"] fR fdR)
    (G_hand_after : FnOk P w K mg base CX0 3 fA fdA ["house", "order"] spAfter) (c_hand_after : Cal K mg "hand_after" ["house", "order"] fA fdA) (m_sorted : mg "sorted" = none) : FnOk P w K mg base CX0 7 f fd ["house", "order"] spKeysB := by
  refine F.ok sc_keys_behind (fun vs H Q E h => ?_) (fun cdv A outer s H vs Q E hr h => ?_)
  · obtain ⟨v, o, h, order, rfl, _⟩ := h
    rfl
  · obtain ⟨v, o, h, order, rfl, hh, ok, ho, hg, hol, k⟩ := h
    refine ⟨_, (pss_cons (ps_expr (pe_call G_require_house hr rfl c_require_house.mg c_require_house.kp c_require_house.b .nil pass0 (pa_cons (pv 0) pa_nil)))
      (pss_one (ps_ret (pe_callB call_sortedA rfl m_sorted boot_sorted (pa_cons (pe_call G_hand_after (hr.mono (show 3 ≤ 6 by decide)) rfl c_hand_after.mg c_hand_after.kp c_hand_after.b .nil pass0 (pa_cons (pv 0) (pa_cons (pv 1) pa_nil))) pa_nil))))), ?_⟩
    first | refine tvE rfl ?_ | refine ⟨_, rfl, ?_⟩
    refine ⟨v, h, rfl, hh, ok, fun H1 s1 => ?_⟩
    first | refine tvE rfl ?_ | refine ⟨_, rfl, ?_⟩
    first | refine tvE rfl ?_ | refine ⟨_, rfl, ?_⟩
    refine ⟨v, o, h, order, rfl, hh.same s1, ok, s1 _ _ ho, hg, hol, fun l H2 s2 nl hl => ?_⟩
    have hf := hand_few ok hol
    refine ⟨l, _, rfl, SqL.of hl, Nat.le_trans hf (by decide), fun l2 ss nl2 hp hs => ?_⟩
    have s02 := s1.trans s2
    exact k l2 ss _ (fun b u e => by rw [upd_ne (ne_of_none (s02 b u e) nl2)]; exact s02 b u e) (s02.free nl2) hp (sortedS_pairwise hs) upd_same
end
end K7
set_option Elab.async false
set_option linter.all false
set_option maxRecDepth 100000
set_option maxHeartbeats 4000000
namespace K7
open PySem L2 PyProof.Rows
theorem SeesAll.ints {H : Hp} : ∀ ns : List Nat, SeesAll H (intsN ns) (ns.map fun i => PyData.int ((i : Nat) : Int))
  | [] => .nil
  | n :: ns => .cons (.int _) (SeesAll.ints ns)
theorem ints_lay : ∀ ns : List Nat, PyData.canLayAll0 (ns.map fun i => PyData.int ((i : Nat) : Int)) = true
  | [] => rfl
  | n :: ns => by rw [List.map_cons]; simp only [PyData.canLayAll0, PyData.canLay0, Bool.true_and]; exact ints_lay ns
theorem ints_eqv : ∀ ns : List Nat, PyData.eqvAll (ns.map fun i => PyData.int ((i : Nat) : Int)) (ns.map fun i => PyData.int ((i : Nat) : Int)) = true
  | [] => rfl
  | n :: ns => by
    rw [List.map_cons]
    simp only [PyData.eqvAll, PyData.eqv, beq_self_eq_true, Bool.true_and]
    exact ints_eqv ns
theorem ints_depth : ∀ ns : List Nat, PyData.depthAll (ns.map fun i => PyData.int ((i : Nat) : Int)) = 0
  | [] => rfl
  | n :: ns => by
    rw [List.map_cons]
    simp only [PyData.depthAll, PyData.depth, ints_depth ns]
    rfl
theorem strs_not_pool {ss : List Str} {a f c : Int} (h : HO.lst (ss.map V.str) = .lst [.int a, .int f, .int c]) : False := by
  cases ss with
  | nil => cases h
  | cons x t => simp at h
theorem HouseAt.but {H H' : Hp} {v : V} {h : Hs} {p : Addr} {c : Int} (x : HouseAt H v h) (pl : PoolAt H p c) (b : But p H H') : HouseAt H' v h := by
  obtain ⟨o, hp, a0, f0, rfl⟩ := pl
  obtain ⟨t, a, r, vs, rfl, h1, h2, h3, hl, h4⟩ := x
  have ns : ∀ {y : Addr} {ss : List Str}, H y = some (.lst (ss.map V.str)) → y ≠ p := fun e z => by
    rw [z, hp] at e
    exact strs_not_pool (Option.some.inj e).symm
  have nt : ∀ {y : Addr} {us : List V}, H y = some (.tup us) → y ≠ p := fun e z => by
    rw [z, hp] at e
    cases e
  have nr : r ≠ p := fun z => by
    rw [z, hp] at h3
    cases h3
    have hlt : 0 < h.2.length := by rw [← hl]; exact Nat.succ_pos 2
    obtain ⟨_, _, _, e, _⟩ := h4 0 _ h.2[0] rfl (List.getElem?_eq_getElem hlt)
    cases e
  refine ⟨t, a, r, vs, rfl, b _ _ (nt h1) h1, b _ _ (ns h2) h2, b _ _ nr h3, hl, fun i v q e1 e2 => ?_⟩
  obtain ⟨t', a', b', e, g1, g2, g3⟩ := h4 i v q e1 e2
  exact ⟨t', a', b', e, b _ _ (nt g1) g1, b _ _ (ns g2) g2, b _ _ (ns g3) g3⟩
end K7
set_option Elab.async false
set_option linter.all false
set_option maxRecDepth 100000
set_option maxHeartbeats 4000000
namespace K7
open PySem L2 PyProof.Rows
theorem neD_strs {A : Around} {H : Hp} {x y : Addr} {ss : List Str} {Q : VK} (hx : H x = some (.lst (ss.map V.str))) (hy : H y = some (.lst (ss.map V.str))) (kk : ∀ k ∈ ss, KindOk k) (hu : A.units + 1 < cLine) (q : Q (.bl false) H) : rEqD A true (.ref x) (.ref y) H Q := by
  have lay := strs_lay kk
  have d1 : (PyData.list (ss.map PyData.str)).depth ≤ 1 := by simp only [PyData.depth, strs_depth]; decide
  refine ⟨.list (ss.map PyData.str), .list (ss.map PyData.str), .lst hx (SeesAll.strs _), .lst hy (SeesAll.strs _), by simp only [PyData.canLay0, lay], by simp only [PyData.canLay0, lay], Nat.lt_of_le_of_lt (Nat.add_le_add_left (Nat.le_trans (Nat.min_le_left _ _) d1) _) hu, ?_⟩
  rw [show (if true = true then !PyData.eqv (.list (ss.map PyData.str)) (.list (ss.map PyData.str)) else PyData.eqv (.list (ss.map PyData.str)) (.list (ss.map PyData.str))) = false by simp only [PyData.eqv, strs_eqv]; rfl]
  exact q
theorem neD_ints {A : Around} {H : Hp} {x y : Addr} {ns : List Nat} {Q : VK} (hx : H x = some (.lst (intsN ns))) (hy : H y = some (.lst (intsN ns))) (hu : A.units + 1 < cLine) (q : Q (.bl false) H) : rEqD A true (.ref x) (.ref y) H Q := by
  have d1 : (PyData.list (ns.map fun i => PyData.int ((i : Nat) : Int))).depth ≤ 1 := by simp only [PyData.depth, ints_depth]; decide
  refine ⟨.list (ns.map fun i => PyData.int ((i : Nat) : Int)), .list (ns.map fun i => PyData.int ((i : Nat) : Int)), .lst hx (SeesAll.ints _), .lst hy (SeesAll.ints _), by simp only [PyData.canLay0, ints_lay], by simp only [PyData.canLay0, ints_lay], Nat.lt_of_le_of_lt (Nat.add_le_add_left (Nat.le_trans (Nat.min_le_left _ _) d1) _) hu, ?_⟩
  rw [show (if true = true then !PyData.eqv (.list (ns.map fun i => PyData.int ((i : Nat) : Int))) (.list (ns.map fun i => PyData.int ((i : Nat) : Int))) else PyData.eqv (.list (ns.map fun i => PyData.int ((i : Nat) : Int))) (.list (ns.map fun i => PyData.int ((i : Nat) : Int)))) = false by simp only [PyData.eqv, ints_eqv]; rfl]
  exact q
theorem Gone.nil (ks : List Str) (rs : List Rm) : Gone ks rs [] := fun j i e => by simp at e
theorem Gone.snoc {ks : List Str} {rs : List Rm} {order : List Nat} {i : Nat} (h : Gone ks rs order) (hi : i ∈ nextOf rs (handOf ks rs order) order) : Gone ks rs (order ++ [i]) := by
  unfold nextOf at hi
  obtain ⟨h1, h2⟩ := List.mem_filter.mp hi
  rw [Bool.and_eq_true, Bool.not_eq_true', decide_eq_false_iff_not] at h2
  intro j n e
  by_cases hj : j < order.length
  · rw [List.getElem?_append_left hj] at e
    rw [List.take_append_of_le_length (by (first | lia | omega))]
    exact h j n e
  · have hl := (List.getElem?_eq_some_iff.mp e).1
    rw [List.length_append, List.length_singleton] at hl
    have ej : j = order.length := by (first | lia | omega)
    subst ej
    rw [List.getElem?_append_right (Nat.le_refl _), Nat.sub_self] at e
    cases e
    rw [List.take_left]
    exact ⟨List.mem_range.mp h1, h2.1, h2.2⟩
end K7
set_option Elab.async false
set_option linter.all false
set_option maxRecDepth 100000
set_option maxHeartbeats 4000000
namespace K7
open PySem L2 PyProof.Rows
def Scal (x : V) : Prop := (∃ z, KindOk z ∧ x = .str z) ∨ ∃ i : Int, x = .int i
theorem scal_all {H : Hp} : ∀ {xs : List V}, (∀ x ∈ xs, Scal x) → ∃ ds, SeesAll H xs ds ∧ PyData.canLayAll0 ds = true ∧ ds.isEmpty = xs.isEmpty
  | [], _ => ⟨[], .nil, rfl, rfl⟩
  | x :: xs, h => by
    obtain ⟨ds, s, l, _⟩ := scal_all (H := H) fun y hy => h y (List.mem_cons_of_mem _ hy)
    rcases h x List.mem_cons_self with ⟨z, hz, rfl⟩ | ⟨i, rfl⟩
    · have := strs_lay (ks := [z]) fun k hk => by rw [List.mem_singleton.mp hk]; exact hz
      simp only [List.map_cons, List.map_nil, PyData.canLayAll0, Bool.and_true] at this
      exact ⟨_, .cons (.str z) s, by simp only [PyData.canLayAll0, this, l, Bool.and_self], rfl⟩
    · exact ⟨_, .cons (.int i) s, by simp only [PyData.canLayAll0, PyData.canLay0, l, Bool.and_self], rfl⟩
theorem neD_nil {A : Around} {H : Hp} {x y : Addr} {xs : List V} {Q : VK} (hx : H x = some (.lst xs)) (hy : H y = some (.lst [])) (sc : ∀ x ∈ xs, Scal x) (hu : A.units + 1 < cLine) (q : Q (.bl (!xs.isEmpty)) H) : rEqD A true (.ref x) (.ref y) H Q := by
  obtain ⟨ds, s, l, e⟩ := scal_all (H := H) sc
  refine ⟨.list ds, .list [], .lst hx s, .lst hy .nil, by simp only [PyData.canLay0, l], rfl, Nat.lt_of_le_of_lt (Nat.add_le_add_left (Nat.min_le_right _ _) _) hu, ?_⟩
  rw [if_pos rfl, show PyData.eqv (.list ds) (.list []) = ds.isEmpty by cases ds <;> rfl, e]
  exact q
theorem perm_pop {xs ys zs : List V} {k : Nat} {y : V} (h : (ys ++ zs).Perm xs) (e : zs[k]? = some y) : ((ys ++ [y]) ++ zs.eraseIdx k).Perm xs := by
  refine .trans ?_ h
  rw [List.append_assoc]
  refine List.Perm.append_left _ ?_
  obtain ⟨hk, rfl⟩ := List.getElem?_eq_some_iff.mp e
  have ez : zs = zs.take k ++ zs[k] :: zs.drop (k + 1) := by rw [← List.drop_eq_getElem_cons hk, List.take_append_drop]
  rw [List.eraseIdx_eq_take_drop_succ]
  exact .trans (List.perm_middle (l₁ := zs.take k)).symm (.of_eq ez.symm)
theorem same_new {H : Hp} {l : Addr} {o : HO} (n : H l = none) : Same H (upd H l o) := fun b u e => by rw [upd_ne (ne_of_none e n)]; exact e
theorem pool_same {H H' : Hp} {p : Addr} {c : Int} (pl : PoolAt H p c) (s : Same H H') : PoolAt H' p c := let ⟨o, e, i⟩ := pl; ⟨o, s _ _ e, i⟩
theorem but_same {H H' : Hp} {p : Addr} (s : Same H H') : But p H H' := fun b u _ e => s b u e
def spMixed : Sp := fun vs H Q _ => ∃ (p t : Addr) (xs : List V) (c : Int), vs = [.ref p, .ref t] ∧ PoolAt H p c ∧ t ≠ p ∧ H t = some (.lst xs) ∧ (∀ x ∈ xs, Scal x) ∧ xs.length ≤ 1000 ∧ 0 ≤ c ∧ c + 1000 < 1000000 ∧
  ∀ (l : Addr) (ys : List V) (c' : Int) (H' : Hp), H l = none → ys.Perm xs → H' l = some (.lst ys) → PoolAt H' p c' → c ≤ c' → c' ≤ c + xs.length → But p H H' → Q (.ref l) H'
inductive MxI (p t : Addr) (xs : List V) (c : Int) (H : Hp) (m : Nat) (σ' : L2.St) (H' : Hp) : Prop
  | mk (l f : Addr) (ys zs : List V) (c' : Int) : σ' = [some (.ref p), some (.ref t), some (.ref l), some (.ref f)] → H l = none → H f = none → l ≠ f → H' l = some (.lst zs) → H' f = some (.lst ys) → (ys ++ zs).Perm xs → zs.length = m → PoolAt H' p c' → c ≤ c' → c' ≤ c + ys.length → But p H H' → MxI p t xs c H m σ' H'
section
variable {P : Program} {w : World} {K : PySem.W.Frag} {mg : Str → Option Value} {base : Heap}
theorem sc__law_mixed_up : FnScope ["pool", "things", "left", "found"] ["pool", "things"] (defScope st__law_mixed_up) := ⟨rfl, rfl, rfl, by decide +kernel, rfl, by decide +kernel, by decide +kernel⟩
theorem sc_is_stuck : FnScope ["house", "order"] ["house", "order"] (defScope st_is_stuck) := ⟨rfl, rfl, rfl, by decide +kernel, rfl, by decide +kernel, by decide +kernel⟩
theorem ok_mixed {f fT : Addr} {fd fdT : FuncData} (F : Fun K "_law_mixed_up" "_law_mixed_up" st__law_mixed_up f fd) (G__law_take : FnOk P w K mg base CX0 1 fT fdT ["pool", "many"] spTake) (c__law_take : Cal K mg "_law_take" ["pool", "many"] fT fdT) (m_len : mg "len" = none) (m_list : mg "list" = none) : FnOk P w K mg base CX0 2 f fd ["pool", "things"] spMixed := by
  refine F.ok sc__law_mixed_up (fun vs H Q E h => ?_) (fun cdv A outer s H vs Q E hr h => ?_)
  · obtain ⟨p, t, xs, c, rfl, _⟩ := h
    rfl
  · obtain ⟨p, t, xs, c, rfl, pl, tp, ht, sc, hl, c0, c1, k⟩ := h
    have hu := hu_of hr
    refine ⟨_, (pss_cons (ps_set (i := 2) sc__law_mixed_up.nd rfl (Or.inl rfl) (pe_callTy call_list_of rfl m_list (by decide +kernel) (pa_cons (pv 1) pa_nil)))
      (pss_cons (ps_set (i := 3) sc__law_mixed_up.nd rfl (Or.inl rfl) pe_l0)
      (pss_cons (ps_cut (ps_while PassesOwn.never (pt_cmpR op_neD (pv 2) pe_l0 (nomark _))
        (pss_one (ps_expr (pe_bm PySem.F.plainAttrs_list PySem.F.slot_list_append PySem.F.type_list_append mt_append (pv 3) (pa_cons (pe_bm PySem.F.plainAttrs_list PySem.F.slot_list_pop PySem.F.type_list_pop mt_popAt (pv 2) (pa_cons (pe_call G__law_take hr rfl c__law_take.mg c__law_take.kp c__law_take.b .nil pass0 (pa_cons (pv 0) (pa_cons (pe_callB call_len_seq rfl m_len PySem.boot_len (pa_cons (pv 2) pa_nil)) pa_nil))) pa_nil)) pa_nil))))))
      (pss_one (ps_ret (pv 3)))))), ?_⟩
    refine ⟨_, rfl, t, _, rfl, .inl (SqL.of ht), fun l nl => ⟨Nat.zero_le _, fun g ng => ?_⟩⟩
    have s1 : Same H (upd H l (.lst xs)) := same_new nl
    have e1 : (upd H l (.lst xs)) l = some (.lst xs) := upd_same
    generalize upd H l (.lst xs) = H1 at *
    have s2 : Same H1 (upd H1 g (.lst [])) := same_new ng
    have e2 : (upd H1 g (.lst [])) g = some (.lst []) := upd_same
    have ngH : H g = none := s1.free ng
    have lg : l ≠ g := ne_of_none e1 ng
    have el := s2 _ _ e1
    generalize upd H1 g (.lst []) = H2 at *
    refine ⟨fun σ' H' => MxI p t xs c H 0 σ' H', ?_, ?_⟩
    · rintro σ H3 ⟨l, f, ys, zs, c', rfl, nl, nf, lf, hz, hy, pm, hm, pl3, w1, w2, B⟩
      have ez : zs = [] := List.length_eq_zero_iff.mp hm
      subst ez
      rw [List.append_nil] at pm
      exact ⟨_, rfl, k f ys c' H3 nf pm hy pl3 w1 (by rw [← pm.length_eq]; exact w2) B⟩
    refine ⟨fun m σ' H' => MxI p t xs c H m σ' H', ⟨_, l, g, [], xs, c, rfl, nl, ngH, lg, el, e2, .refl _, rfl, pool_same (pool_same pl s1) s2, Int.le_refl _, by simp, but_same (s1.trans s2)⟩, ?_⟩
    rintro m σ H3 ⟨l, f, ys, zs, c', rfl, nl, nf, lf, hz, hy, pm, hm, pl3, w1, w2, B⟩
    have np : ∀ {b : Addr}, H b = none → b ≠ p := fun {b} n z => by
      obtain ⟨o, e, _⟩ := pl
      rw [z, e] at n; cases n
    have Sc : ∀ x ∈ zs, Scal x := fun x hx => sc x (pm.mem_iff.mp (List.mem_append.mpr (.inr hx)))
    have pml := pm.length_eq
    rw [List.length_append] at pml
    refine ⟨_, rfl, Nat.zero_le _, fun e ne => ?_⟩
    have s4 : Same H3 (upd H3 e (.lst [])) := same_new ne
    have e4 : (upd H3 e (.lst [])) e = some (.lst []) := upd_same
    generalize upd H3 e (.lst []) = H4 at *
    refine neD_nil (s4 _ _ hz) e4 Sc hu ?_
    refine ⟨_, rfl, ?_⟩
    cases zs with
    | nil => exact ⟨l, f, ys, [], c', rfl, nl, nf, lf, s4 _ _ hz, s4 _ _ hy, pm, rfl, pool_same pl3 s4, w1, w2, B.trans (but_same s4)⟩
    | cons z0 zs0 =>
    show ∃ N, _ ∧ _
    refine ⟨fun σ' H' => MxI p t xs c H zs0.length σ' H', fun σ' H' h => ⟨_, by rw [← hm]; exact Nat.lt_succ_self _, h⟩, ?_⟩
    have hz4 := s4 _ _ hz
    have hy4 := s4 _ _ hy
    obtain ⟨o4, hp4, io4⟩ := pool_same pl3 s4
    have B4 := B.trans (but_same s4)
    have zl : (z0 :: zs0).length ≤ 1000 := by (first | lia | omega)
    refine ⟨_, rfl, .inl ⟨rfl, _, SqL.of hy4⟩, _, rfl, ?_⟩
    refine ⟨.inl ⟨rfl, _, SqL.of hz4⟩, _, rfl, _, rfl, l, _, rfl, .inl (SqL.of hz4), p, ((z0 :: zs0).length : Nat), c', o4, rfl, hp4, io4, by simp, by (first | lia | omega), by (first | lia | omega), by (first | lia | omega), fun q c5 o5 q0 q1 g1 g2 io5 => ?_⟩
    obtain ⟨i, rfl⟩ : ∃ i : Nat, q = (i : Int) := ⟨q.toNat, by (first | lia | omega)⟩
    have hi : i < (z0 :: zs0).length := by (first | lia | omega)
    have hz5 : (upd H4 p o5) l = some (.lst (z0 :: zs0)) := by rw [upd_ne (np nl)]; exact hz4
    have hy5 : (upd H4 p o5) f = some (.lst ys) := by rw [upd_ne (np nf)]; exact hy4
    have hp5 : (upd H4 p o5) p = some o5 := upd_same
    have B5 : But p H (upd H4 p o5) := B4.trans But.upd
    generalize upd H4 p o5 = H5 at *
    have ei : (z0 :: zs0)[i]? = some (z0 :: zs0)[i] := List.getElem?_eq_getElem hi
    refine ⟨l, _, _, i, _, rfl, rfl, hz5, by (first | lia | omega), by (first | lia | omega), (PySem.StrLaws.seqIndex_nonneg (Int.natCast_nonneg i) (by (first | lia | omega))).trans (by simp), ei, ?_⟩
    have yl : ys.length < sizeLine := Nat.lt_of_le_of_lt (show ys.length ≤ 1000 by (first | lia | omega)) (by decide)
    refine ⟨f, ys, _, rfl, rfl, by rw [upd_ne (Ne.symm lf)]; exact hy5, yl, ?_⟩
    refine ⟨l, f, ys ++ [(z0 :: zs0)[i]], (z0 :: zs0).eraseIdx i, c5, rfl, nl, nf, lf, ?_, upd_same, perm_pop pm ei, ?_, ?_, by (first | lia | omega), ?_, ?_⟩
    · rw [upd_ne lf, upd_same]
    · rw [List.length_eraseIdx_of_lt hi]; rfl
    · refine ⟨o5, ?_, io5⟩
      rw [upd_ne (Ne.symm (np nf)), upd_ne (Ne.symm (np nl))]
      exact hp5
    · rw [List.length_append, List.length_singleton]
      (first | lia | omega)
    · intro b u nb e
      rw [upd_ne (ne_of_none e nf), upd_ne (ne_of_none e nl)]
      exact B5 b u nb e
def spStuck : Sp := fun vs H Q _ => ∃ (v : V) (o : Addr) (h : Hs) (order : List Nat), vs = [v, .ref o] ∧ HouseAt H v h ∧ HouseOk h ∧ H o = some (.lst (intsN order)) ∧ Gone h.1 h.2 order ∧ order.length ≤ 200 ∧
  ∀ H' : Hp, Same H H' → Q (.bl (nextOf h.2 (handOf h.1 h.2 order) order).isEmpty) H'
theorem ok_stuck {f fN : Addr} {fd fdN : FuncData} (F : Fun K "is_stuck" "is_stuck" st_is_stuck f fd) (G_next_rooms : FnOk P w K mg base CX0 7 fN fdN ["house", "order"] spNextR) (c_next_rooms : Cal K mg "next_rooms" ["house", "order"] fN fdN) : FnOk P w K mg base CX0 8 f fd ["house", "order"] spStuck := by
  refine F.ok sc_is_stuck (fun vs H Q E h => ?_) (fun cdv A outer s H vs Q E hr h => ?_)
  · obtain ⟨v, o, h, order, rfl, _⟩ := h
    rfl
  · obtain ⟨v, o, h, order, rfl, hh, ok, ho, hg, hol, k⟩ := h
    refine ⟨_, (pss_one (ps_ret (pe_notV (pe_call G_next_rooms hr rfl c_next_rooms.mg c_next_rooms.kp c_next_rooms.b .nil pass0 (pa_cons (pv 0) (pa_cons (pv 1) pa_nil)))))), ?_⟩
    refine ⟨_, rfl, _, rfl, v, o, h, order, rfl, hh, ok, ho, hg, hol, fun l H2 s2 nl hl => ?_⟩
    refine ⟨_, .inl ⟨_, SqL.of hl, rfl⟩, ?_⟩
    have := k H2 s2
    rw [Bool.not_not]
    rw [show (intsN (nextOf h.2 (handOf h.1 h.2 order) order)).isEmpty = (nextOf h.2 (handOf h.1 h.2 order) order).isEmpty from List.isEmpty_map ..]
    exact this
end
end K7
set_option Elab.async false
set_option linter.all false
set_option maxRecDepth 100000
set_option maxHeartbeats 4000000
namespace K7
open PySem L2 PyProof.Rows
def Inj (U : List Str) (φ : Str → Str) : Prop := ∀ x ∈ U, ∀ y ∈ U, φ x = φ y → x = y
theorem count_map_inj {U : List Str} {φ : Str → Str} (hi : Inj U φ) {x : Str} (hx : x ∈ U) : ∀ {l : List Str}, (∀ y ∈ l, y ∈ U) → (l.map φ).count (φ x) = l.count x
  | [], _ => rfl
  | a :: l, h => by
    rw [List.map_cons, List.count_cons, List.count_cons, count_map_inj hi hx fun y hy => h y (List.mem_cons_of_mem _ hy)]
    by_cases e : a = x
    · subst e; simp
    · have e2 : φ a ≠ φ x := fun z => e (hi _ (h a List.mem_cons_self) _ hx z)
      simp [e, e2]
theorem may_map {U : List Str} {φ : Str → Str} (hi : Inj U φ) {hand locks hand' locks' : List Str} (h1 : ∀ x ∈ hand, x ∈ U) (h2 : ∀ x ∈ locks, x ∈ U) (p1 : hand'.Perm (hand.map φ)) (p2 : locks'.Perm (locks.map φ)) : mayB hand' locks' = mayB hand locks := by
  unfold mayB
  rw [Bool.eq_iff_iff, List.all_eq_true, List.all_eq_true]
  constructor
  · intro h x hx
    have := of_decide_eq_true (h (φ x) (p2.mem_iff.mpr (List.mem_map_of_mem hx)))
    rw [p1.count_eq, p2.count_eq, count_map_inj hi (h2 x hx) h1, count_map_inj hi (h2 x hx) h2] at this
    exact decide_eq_true this
  · intro h y hy
    obtain ⟨x, hx, rfl⟩ := List.mem_map.mp (p2.mem_iff.mp hy)
    have := of_decide_eq_true (h x hx)
    rw [p1.count_eq, p2.count_eq, count_map_inj hi (h2 x hx) h1, count_map_inj hi (h2 x hx) h2]
    exact decide_eq_true this
theorem erases_map {U : List Str} {φ : Str → Str} (hi : Inj U φ) {hand locks hand' locks' : List Str} (h1 : ∀ x ∈ hand, x ∈ U) (h2 : ∀ x ∈ locks, x ∈ U) (p1 : hand'.Perm (hand.map φ)) (p2 : locks'.Perm (locks.map φ)) :
    (locks'.foldl List.erase hand').Perm ((locks.foldl List.erase hand).map φ) := by
  rw [List.perm_iff_count]
  intro y
  rw [count_erases, p1.count_eq, p2.count_eq]
  by_cases hy : ∃ x ∈ U, φ x = y
  · obtain ⟨x, hx, rfl⟩ := hy
    rw [count_map_inj hi hx h1, count_map_inj hi hx h2, count_map_inj hi hx fun z hz => h1 z (erases_mem _ _ hz), count_erases]
  · have z1 : (hand.map φ).count y = 0 := List.count_eq_zero.mpr fun h => by
      obtain ⟨x, hx, e⟩ := List.mem_map.mp h
      exact hy ⟨x, h1 x hx, e⟩
    have z2 : ((locks.foldl List.erase hand).map φ).count y = 0 := List.count_eq_zero.mpr fun h => by
      obtain ⟨x, hx, e⟩ := List.mem_map.mp h
      exact hy ⟨x, h1 x (erases_mem _ _ hx), e⟩
    rw [z1, z2, Nat.zero_sub]
structure Anew (U : List Str) (φ : Str → Str) (π : List Nat) (h h' : Hs) : Prop where
  inj : Inj U φ
  keys : h'.1.Perm (h.1.map φ)
  ku : ∀ x ∈ h.1, x ∈ U
  pl : π.Perm (List.range h.2.length)
  len : h'.2.length = h.2.length
  rooms : ∀ (i j : Nat) (r : Rm), π[i]? = some j → h.2[i]? = some r → ∃ r' : Rm, h'.2[j]? = some r' ∧ r'.1.Perm (r.1.map φ) ∧ r'.2.Perm (r.2.map φ)
  ru : ∀ r ∈ h.2, (∀ x ∈ r.1, x ∈ U) ∧ ∀ x ∈ r.2, x ∈ U
def at_ (π : List Nat) (i : Nat) : Nat := (π[i]?).getD 0
theorem at_get {π : List Nat} {i : Nat} (h : i < π.length) : π[i]? = some (at_ π i) := by
  unfold at_
  rw [List.getElem?_eq_getElem h]
  rfl
theorem Anew.plen {U : List Str} {φ : Str → Str} {π : List Nat} {h h' : Hs} (a : Anew U φ π h h') : π.length = h.2.length := by rw [a.pl.length_eq, List.length_range]
theorem Anew.lt {U : List Str} {φ : Str → Str} {π : List Nat} {h h' : Hs} (a : Anew U φ π h h') {i : Nat} (hi : i < h.2.length) : at_ π i < h.2.length := by
  have e := at_get (π := π) (i := i) (by rw [a.plen]; exact hi)
  exact List.mem_range.mp (a.pl.mem_iff.mp (List.mem_of_getElem? e))
theorem Anew.inj' {U : List Str} {φ : Str → Str} {π : List Nat} {h h' : Hs} (a : Anew U φ π h h') {i j : Nat} (hi : i < h.2.length) (hj : j < h.2.length) (e : at_ π i = at_ π j) : i = j := by
  have nd : π.Nodup := a.pl.nodup_iff.mpr List.nodup_range
  have e1 := at_get (π := π) (i := i) (by rw [a.plen]; exact hi)
  have e2 := at_get (π := π) (i := j) (by rw [a.plen]; exact hj)
  exact (List.getElem?_inj (by rw [a.plen]; exact hi) nd).mp (by rw [e1, e2, e])
theorem Anew.room {U : List Str} {φ : Str → Str} {π : List Nat} {h h' : Hs} (a : Anew U φ π h h') {i : Nat} (hi : i < h.2.length) :
    ((h'.2[at_ π i]?).getD ([], [])).1.Perm (((h.2[i]?).getD ([], [])).1.map φ) ∧ ((h'.2[at_ π i]?).getD ([], [])).2.Perm (((h.2[i]?).getD ([], [])).2.map φ) ∧ (∀ x ∈ ((h.2[i]?).getD ([], [])).1, x ∈ U) ∧ ∀ x ∈ ((h.2[i]?).getD ([], [])).2, x ∈ U := by
  have e := at_get (π := π) (i := i) (by rw [a.plen]; exact hi)
  have er : h.2[i]? = some h.2[i] := List.getElem?_eq_getElem hi
  obtain ⟨r', e', p1, p2⟩ := a.rooms i _ _ e er
  rw [e', er]
  exact ⟨p1, p2, a.ru _ (List.getElem_mem hi)⟩
theorem Anew.hand {U : List Str} {φ : Str → Str} {π : List Nat} {h h' : Hs} (a : Anew U φ π h h') : ∀ {order : List Nat} {ks ks' : List Str}, (∀ i ∈ order, i < h.2.length) → ks'.Perm (ks.map φ) → (∀ x ∈ ks, x ∈ U) →
    (handOf ks' h'.2 (order.map (at_ π))).Perm ((handOf ks h.2 order).map φ) ∧ ∀ x ∈ handOf ks h.2 order, x ∈ U
  | [], ks, ks', _, p, u => ⟨p, u⟩
  | i :: order, ks, ks', ho, p, u => by
    obtain ⟨r1, r2, u1, u2⟩ := a.room (ho i List.mem_cons_self)
    refine a.hand (order := order) (ks := handB ks ((h.2[i]?).getD ([], []))) (ks' := handB ks' ((h'.2[at_ π i]?).getD ([], []))) (fun j hj => ho j (List.mem_cons_of_mem _ hj)) ?_ ?_
    · unfold handB
      rw [List.map_append]
      exact (erases_map a.inj u u1 p r1).append r2
    · intro x hx
      unfold handB at hx
      rcases List.mem_append.mp hx with q | q
      · exact u x (erases_mem _ _ q)
      · exact u2 x q
theorem Gone.lt {ks : List Str} {rs : List Rm} {order : List Nat} (h : Gone ks rs order) : ∀ i ∈ order, i < rs.length := fun i hi => by
  obtain ⟨j, e⟩ := List.mem_iff_getElem?.mp hi
  exact (h j i e).1
theorem Anew.mem {U : List Str} {φ : Str → Str} {π : List Nat} {h h' : Hs} (a : Anew U φ π h h') {order : List Nat} (ho : ∀ i ∈ order, i < h.2.length) {i : Nat} (hi : i < h.2.length) : at_ π i ∈ order.map (at_ π) ↔ i ∈ order := by
  constructor
  · intro m
    obtain ⟨j, hj, e⟩ := List.mem_map.mp m
    rw [← a.inj' (ho j hj) hi e]
    exact hj
  · exact List.mem_map_of_mem
theorem Anew.gone {U : List Str} {φ : Str → Str} {π : List Nat} {h h' : Hs} (a : Anew U φ π h h') {order : List Nat} (g : Gone h.1 h.2 order) : Gone h'.1 h'.2 (order.map (at_ π)) := by
  intro j i' e
  rw [List.getElem?_map] at e
  cases e0 : order[j]? with
  | none => rw [e0] at e; cases e
  | some i =>
    rw [e0] at e
    cases e
    obtain ⟨g1, g2, g3⟩ := g j i e0
    have ht : ∀ i ∈ order.take j, i < h.2.length := fun i hi => g.lt i (List.mem_of_mem_take hi)
    rw [← List.map_take]
    refine ⟨by rw [a.len]; exact a.lt g1, fun m => g2 ((a.mem ht g1).mp m), ?_⟩
    obtain ⟨p, u⟩ := a.hand ht a.keys a.ku
    obtain ⟨r1, _, u1, _⟩ := a.room g1
    rw [may_map a.inj u u1 p r1]
    exact g3
theorem Anew.next {U : List Str} {φ : Str → Str} {π : List Nat} {h h' : Hs} (a : Anew U φ π h h') {order : List Nat} (g : Gone h.1 h.2 order) :
    (nextOf h'.2 (handOf h'.1 h'.2 (order.map (at_ π))) (order.map (at_ π))).Perm ((nextOf h.2 (handOf h.1 h.2 order) order).map (at_ π)) := by
  obtain ⟨p, u⟩ := a.hand g.lt a.keys a.ku
  have n1 : (nextOf h'.2 (handOf h'.1 h'.2 (order.map (at_ π))) (order.map (at_ π))).Nodup := List.nodup_range.filter _
  have n2 : ((nextOf h.2 (handOf h.1 h.2 order) order).map (at_ π)).Nodup := by
    refine List.Pairwise.map _ (fun x y (hxy : x < y ∧ y < h.2.length) e => ?_) (List.Pairwise.filter _ ?_ : (nextOf h.2 (handOf h.1 h.2 order) order).Pairwise fun x y => x < y ∧ y < h.2.length)
    · have := a.inj' (by (first | lia | omega)) hxy.2 e
      (first | lia | omega)
    · rw [List.pairwise_iff_getElem]
      intro i j hi hj hij
      simp only [List.getElem_range]
      rw [List.length_range] at hj
      exact ⟨hij, hj⟩
  refine (List.perm_ext_iff_of_nodup n1 n2).mpr fun y => ?_
  unfold nextOf
  rw [List.mem_filter, List.mem_range, a.len]
  constructor
  · rintro ⟨hy, c⟩
    obtain ⟨i, ei⟩ := List.mem_iff_getElem?.mp (a.pl.mem_iff.mpr (List.mem_range.mpr hy))
    have hi : i < h.2.length := by rw [← a.plen]; exact (List.getElem?_eq_some_iff.mp ei).1
    have ey : y = at_ π i := by unfold at_; rw [ei]; rfl
    subst ey
    obtain ⟨r1, _, u1, _⟩ := a.room hi
    rw [may_map a.inj u u1 p r1] at c
    refine List.mem_map_of_mem (List.mem_filter.mpr ⟨List.mem_range.mpr hi, ?_⟩)
    have := a.mem g.lt hi
    simpa [this] using c
  · intro m
    obtain ⟨i, hm, rfl⟩ := List.mem_map.mp m
    obtain ⟨hi, c⟩ := List.mem_filter.mp hm
    have hi := List.mem_range.mp hi
    obtain ⟨r1, _, u1, _⟩ := a.room hi
    refine ⟨a.lt hi, ?_⟩
    rw [may_map a.inj u u1 p r1]
    have := a.mem g.lt hi
    simpa [this] using c
theorem hand_wide {rs qs : List Rm} : ∀ {order : List Nat} {ks : List Str}, (∀ i ∈ order, i < rs.length) → handOf ks (rs ++ qs) order = handOf ks rs order
  | [], _, _ => rfl
  | i :: order, ks, h => by
    show handOf (handB ks (((rs ++ qs)[i]?).getD ([], []))) (rs ++ qs) order = handOf (handB ks ((rs[i]?).getD ([], []))) rs order
    rw [List.getElem?_append_left (h i List.mem_cons_self)]
    exact hand_wide fun j hj => h j (List.mem_cons_of_mem _ hj)
theorem Gone.wide {ks : List Str} {rs qs : List Rm} {order : List Nat} (g : Gone ks rs order) : Gone ks (rs ++ qs) order := by
  intro j i e
  obtain ⟨g1, g2, g3⟩ := g j i e
  rw [hand_wide (fun i hi => g.lt i (List.mem_of_mem_take hi)), List.getElem?_append_left g1]
  exact ⟨by rw [List.length_append]; (first | lia | omega), g2, g3⟩
theorem next_wide {rs : List Rm} {hand : List Str} {order : List Nat} {x : Str} {l : List Str} (hx : x ∉ hand) : nextOf (rs ++ [([x], l)]) hand order = nextOf rs hand order := by
  unfold nextOf
  rw [List.length_append, List.length_singleton, List.range_succ, List.filter_append]
  have e1 : (List.range rs.length).filter (fun i => !decide (i ∈ order) && mayB hand ((((rs ++ [([x], l)])[i]?).getD ([], []))).1) = (List.range rs.length).filter (fun i => !decide (i ∈ order) && mayB hand ((rs[i]?).getD ([], [])).1) := by
    refine List.filter_congr fun i hi => ?_
    rw [List.getElem?_append_left (List.mem_range.mp hi)]
  have e2 : mayB hand [x] = false := by
    unfold mayB
    rw [List.all_cons, List.all_nil, Bool.and_true]
    refine decide_eq_false ?_
    rw [List.count_eq_zero.mpr hx]
    simp
  rw [e1, List.filter_cons, List.getElem?_append_right (Nat.le_refl _), Nat.sub_self]
  simp [e2]
end K7
set_option Elab.async false
set_option linter.all false
set_option maxRecDepth 100000
set_option maxHeartbeats 4000000
namespace K7
open PySem L2 PyProof.Rows
def plainB (h : Hs) : Bool := h.2.all fun r => decide (r.1.length = 1)
def spPlain : Sp := fun vs H Q _ => ∃ (v : V) (h : Hs), vs = [v] ∧ HouseAt H v h ∧ HouseOk h ∧ ∀ H', Same H H' → Q (.bl (plainB h)) H'
def spWalk : Sp := fun vs H Q _ => ∃ (p : Addr) (v : V) (h : Hs) (c : Int), vs = [.ref p, v] ∧ PoolAt H p c ∧ HouseAt H v h ∧ HouseOk h ∧ h.2.length ≤ 60 ∧ 0 ≤ c ∧ c + 100 < 1000000 ∧
  ∀ (o : Addr) (order : List Nat) (c' : Int) (H' : Hp), H o = none → H' o = some (.lst (intsN order)) → Gone h.1 h.2 order → order.length ≤ 60 → PoolAt H' p c' → c ≤ c' → c' ≤ c + 100 → But p H H' → Q (.ref o) H'
inductive WkI (p : Addr) (v : V) (h : Hs) (c : Int) (H : Hp) (i : Nat) (σ' : L2.St) (H' : Hp) : Prop
  | mk (o : Addr) (order : List Nat) (c' : Int) (x3 x4 : Option V) : σ' = [some (.ref p), some v, some (.ref o), x3, x4] → H o = none → H' o = some (.lst (intsN order)) → Gone h.1 h.2 order → order.length ≤ i → PoolAt H' p c' → c ≤ c' → c' ≤ c + 1 + i → But p H H' → WkI p v h c H i σ' H'
section
variable {P : Program} {w : World} {K : PySem.W.Frag} {mg : Str → Option Value} {base : Heap}
theorem sc_is_plain : FnScope ["house"] ["house"] (defScope st_is_plain) := ⟨rfl, rfl, rfl, by decide +kernel, rfl, by decide +kernel, by decide +kernel⟩
theorem nd_is_plain_0 : (["locks", "within"] : List Str).Nodup := by decide +kernel
theorem sc__law_walk : FnScope ["pool", "house", "order", "turn", "further"] ["pool", "house"] (defScope st__law_walk) := ⟨rfl, rfl, rfl, by decide +kernel, rfl, by decide +kernel, by decide +kernel⟩
theorem ok_plain {f fQ : Addr} {fd fdQ : FuncData} (F : Fun K "is_plain" "is_plain" st_is_plain f fd) (G_require_house : FnOk P w K mg base CX0 6 fQ fdQ ["thing"] spReq) (c_require_house : Cal K mg "require_house" ["thing"] fQ fdQ) (m_all : mg "all" = none) (m_len : mg "len" = none) : FnOk P w K mg base CX0 7 f fd ["house"] spPlain := by
  refine F.ok sc_is_plain (fun vs H Q E h => ?_) (fun cdv A outer s H vs Q E hr h => ?_)
  · obtain ⟨v, h, rfl, _⟩ := h
    rfl
  · obtain ⟨v, h, rfl, hh, ok, k⟩ := h
    refine ⟨_, (pss_cons (ps_expr (pe_call G_require_house hr rfl c_require_house.mg c_require_house.kp c_require_house.b .nil pass0 (pa_cons (pv 0) pa_nil)))
      (pss_one (ps_ret (pe_callB (call_all rfl) rfl m_all (by decide +kernel) (pa_cons (pe_lc (outer := defScope (st_is_plain)) (N := ["house"]) (N' := ["locks", "within"]) (nl := 2) (ix := []) rfl rfl rfl (pi_list (pe_ix ix_tup (pv 0) pe_int (fun _ _ => rfl)))
        (fun C fp s₀ H₀ => (pg_tupK (K := K) (n := 2) rfl rfl (pgs_cons (pg_name (i := 0) nd_is_plain_0 rfl (Or.inl rfl) (.inr rfl)) (pgs_cons (pg_name (i := 1) nd_is_plain_0 rfl (Or.inl rfl) (.inr rfl)) pgs_nil)))) (fun C fp s₀ H₀ => pif_nil)
        (fun C fp s₀ H₀ => (pe_cmpR op_eq (pe_callB (call_lenK (K := K) rfl) rfl m_len PySem.boot_len (pa_cons (pv 0) pa_nil)) pe_int (nomark _)))) pa_nil))))), ?_⟩
    refine ⟨_, rfl, v, h, rfl, hh, ok, fun H1 s1 => ?_⟩
    obtain ⟨t, a, r, vs, rfl, ht, ha, hrr, hR⟩ := hh.same s1
    dsimp only [tNext, tRet, tCB, tCons, tNil]
    refine lcomp_eq _ _ _ _ _ _ _ _ _ ?_
    refine ⟨_, rfl, t, _, 1, .ref r, rfl, rfl, SqT.of ht, rfl, r, rfl, ⟨_, SqL.of hrr⟩, ?_⟩
    intro D hD
    have hl := hR.1
    have rl := ok.rl
    refine comp_list (xs := vs) (fun i ys H2 => ys = ((h.2.take i).map fun r => decide (r.1.length = 1)).map V.bl ∧ i ≤ h.2.length ∧ H2 D = some (.lst ys) ∧ Same H1 H2) ⟨rfl, Nat.zero_le _, upd_same, fun b u e => by rw [upd_ne (ne_of_none e hD)]; exact e⟩ (fun i ys H2 ⟨_, _, h, _⟩ => h) (fun i ys H2 ⟨_, _, _, sm⟩ => SqL.of (sm r _ hrr)) ?_ ?_
    · rintro i ys H2 x hx ⟨rfl, hi0, hD2, sm⟩
      have hi : i < vs.length := (List.getElem?_eq_some_iff.mp hx).1
      have hi' : i < h.2.length := by (first | lia | omega)
      have er : h.2[i]? = some h.2[i] := List.getElem?_eq_getElem hi'
      obtain ⟨tt, aa, bb, rfl, g1, g2, g3⟩ := (hR.2 i x _ hx er).same sm
      refine turn_two tt (.ref aa) (.ref bb) rfl (SqT.of g1) rfl ?_
      refine ⟨_, rfl, aa, _, rfl, .inl (SqL.of g2), rfl, hD2, by rw [List.length_map, List.length_map, List.length_take]; exact small1000 (by (first | lia | omega)), nx hi ⟨?_, by (first | lia | omega), upd_same, fun b u e => ?_⟩⟩
      · rw [List.take_succ, er, List.map_append, List.map_append]
        simp only [Option.toList_some, List.map_cons, List.map_nil, List.length_map]
        congr 3
        by_cases q : (h.2[i]).1.length = 1
        · rw [q]; rfl
        · rw [decide_eq_false q, decide_eq_false]
          intro z
          injection z with z
          (first | lia | omega)
      · rw [upd_ne (ne_of_none e hD)]
        exact sm b u e
    · rintro ys H2 ⟨rfl, _, hD2, sm⟩
      refine ⟨D, _, rfl, SqL.of hD2, ?_⟩
      have z3 := k H2 (s1.trans sm)
      have e3 : plainB h = (((h.2.take vs.length).map fun r => decide (r.1.length = 1)).all id) := by
        rw [hl, List.take_length, List.all_map]
        rfl
      rw [e3] at z3
      exact z3
theorem ok_walk {f fT fN : Addr} {fd fdT fdN : FuncData} (F : Fun K "_law_walk" "_law_walk" st__law_walk f fd) (G__law_take : FnOk P w K mg base CX0 1 fT fdT ["pool", "many"] spTake) (c__law_take : Cal K mg "_law_take" ["pool", "many"] fT fdT)
    (G_next_rooms : FnOk P w K mg base CX0 7 fN fdN ["house", "order"] spNextR) (c_next_rooms : Cal K mg "next_rooms" ["house", "order"] fN fdN) (m_len : mg "len" = none) (m_range : mg "range" = none) : FnOk P w K mg base CX0 8 f fd ["pool", "house"] spWalk := by
  refine F.ok sc__law_walk (fun vs H Q E h => ?_) (fun cdv A outer s H vs Q E hr h => ?_)
  · obtain ⟨p, v, h, c, rfl, _⟩ := h
    rfl
  · obtain ⟨p, v, h, c, rfl, pl, hh, ok, hl, c0, c1, k⟩ := h
    have hu := hu_of hr
    refine ⟨_, (pss_cons (ps_set (i := 2) sc__law_walk.nd rfl (Or.inl rfl) pe_l0)
      (pss_cons (ps_cut (ps_for PassesOwn.never rfl (pi_range1 rfl m_range (pa_cons (pe_call G__law_take (hr.mono (show 1 ≤ 7 by decide)) rfl c__law_take.mg c__law_take.kp c__law_take.b .nil pass0 (pa_cons (pv 0) (pa_cons (pe_op op_add (pe_callB call_len_seq rfl m_len PySem.boot_len (pa_cons (pe_ix ix_tup (pv 1) pe_int (fun _ _ => rfl)) pa_nil)) pe_int) pa_nil))) pa_nil)) (pg_name (i := 3) sc__law_walk.nd rfl (Or.inl rfl))
        (pss_cons (ps_set (i := 4) sc__law_walk.nd rfl (Or.inl rfl) (pe_call G_next_rooms hr rfl c_next_rooms.mg c_next_rooms.kp c_next_rooms.b .nil pass0 (pa_cons (pv 1) (pa_cons (pv 2) pa_nil))))
        (pss_one (ps_cut (ps_if (pt_cmpR op_neD (pv 4) pe_l0 (nomark _))
          (pss_one (ps_expr (pe_bm PySem.F.plainAttrs_list PySem.F.slot_list_append PySem.F.type_list_append mt_append (pv 2) (pa_cons (pe_ix ix_list (pv 4) (pe_call G__law_take (hr.mono (show 1 ≤ 7 by decide)) rfl c__law_take.mg c__law_take.kp c__law_take.b .nil pass0 (pa_cons (pv 0) (pa_cons (pe_callB call_len_seq rfl m_len PySem.boot_len (pa_cons (pv 4) pa_nil)) pa_nil))) (fun _ _ => rfl)) pa_nil)))) pss_nil))))))
      (pss_one (ps_ret (pv 2))))), ?_⟩
    refine ⟨Nat.zero_le _, fun o no => ?_⟩
    have s1 : Same H (upd H o (.lst [])) := same_new no
    have e1 : (upd H o (.lst [])) o = some (.lst (intsN [])) := upd_same
    generalize upd H o (.lst []) = H1 at *
    have np : ∀ {b : Addr}, H b = none → b ≠ p := fun {b} n z => by
      obtain ⟨o, e, _⟩ := pl
      rw [z, e] at n; cases n
    refine ⟨fun σ' H' => WkI p v h c H 60 σ' H', ?_, ?_⟩
    · rintro σ H3 ⟨o, order, c', x3, x4, rfl, no, ho, hg, hol, pl3, w1, w2, B⟩
      exact ⟨_, rfl, k o order c' H3 no ho hg hol pl3 w1 (by (first | lia | omega)) B⟩
    have hh1 := hh.same s1
    obtain ⟨t, a, r, us, rfl, ht, ha, hrr, hR⟩ := hh1
    obtain ⟨o1, hp1, io1⟩ := pool_same pl s1
    have ul := hR.1
    refine ⟨_, rfl, _, rfl, t, _, 1, .ref r, rfl, rfl, SqT.of ht, rfl, r, _, rfl, .inl (SqL.of hrr), _, 1, rfl, rfl, p, _, c, o1, rfl, hp1, io1, by (first | lia | omega), by (first | lia | omega), by (first | lia | omega), by (first | lia | omega), fun q c2 o2 q0 q1 g1 g2 io2 => ?_⟩
    obtain ⟨n, rfl⟩ : ∃ n : Nat, q = (n : Int) := ⟨q.toNat, by (first | lia | omega)⟩
    refine ⟨_, rfl, by (first | lia | omega), by (first | lia | omega), ?_⟩
    rw [Int.toNat_natCast]
    have B2 : But p H (upd H1 p o2) := (but_same s1).trans But.upd
    have ho2 : (upd H1 p o2) o = some (.lst (intsN [])) := by rw [upd_ne (np no)]; exact e1
    have hp2 : (upd H1 p o2) p = some o2 := upd_same
    generalize upd H1 p o2 = H2 at *
    refine for_range (fun i σ' H' => WkI p (.ref t) h c H i σ' H') ⟨o, [], c2, _, _, rfl, no, ho2, Gone.nil _ _, Nat.le_refl _, ⟨o2, hp2, io2⟩, g1, by (first | lia | omega), B2⟩ ?_ ?_
    rotate_left
    · rintro σ H3 ⟨o, order, c', x3, x4, rfl, no, ho, hg, hol, pl3, w1, w2, B⟩
      exact ⟨o, order, c', x3, x4, rfl, no, ho, hg, by (first | lia | omega), pl3, w1, by (first | lia | omega), B⟩
    rintro i σ H3 hi ⟨o, order, c', x3, x4, rfl, no, ho, hg, hol, pl3, w1, w2, B⟩
    have hh3 := hh.but pl B
    refine ⟨_, rfl, _, rfl, .ref t, o, h, order, rfl, hh3, ok, ho, hg, by (first | lia | omega), fun l H4 s4 nl hl4 => ?_⟩
    refine ⟨fun σ' H' => WkI p (.ref t) h c H (i + 1) σ' H', fun σ' H' z => z, ?_⟩
    refine ⟨_, rfl, Nat.zero_le _, fun e ne => ?_⟩
    have s5 : Same H4 (upd H4 e (.lst [])) := same_new ne
    have e5 : (upd H4 e (.lst [])) e = some (.lst []) := upd_same
    generalize upd H4 e (.lst []) = H5 at *
    have s35 := s4.trans s5
    refine neD_nil (s5 _ _ hl4) e5 (fun x hx => .inr (by obtain ⟨j, _, rfl⟩ := List.mem_map.mp hx; exact ⟨_, rfl⟩)) hu ?_
    refine ⟨_, rfl, ?_⟩
    have hl5 := s5 _ _ hl4
    have nxl : (nextOf h.2 (handOf h.1 h.2 order) order).length ≤ 60 := Nat.le_trans (List.length_filter_le _ _) (by rw [List.length_range]; exact hl)
    have hmem : ∀ j ∈ nextOf h.2 (handOf h.1 h.2 order) order, Gone h.1 h.2 (order ++ [j]) := fun j hj => hg.snoc hj
    generalize nextOf h.2 (handOf h.1 h.2 order) order = ns at hl4 hl5 nxl hmem ⊢
    cases ns with
    | nil => exact ⟨o, order, c', _, _, rfl, no, s35 _ _ ho, hg, by (first | lia | omega), pool_same pl3 s35, w1, by (first | lia | omega), B.trans (but_same s35)⟩
    | cons n0 ns0 =>
    obtain ⟨o5, hp5, io5⟩ := pool_same pl3 s35
    have ho5 := s35 _ _ ho
    have nll : ((intsN (n0 :: ns0)).length : Int) ≤ 60 := by rw [List.length_map]; (first | lia | omega)
    refine ⟨_, rfl, .inl ⟨rfl, _, SqL.of ho5⟩, _, rfl, _, rfl, _, rfl, l, _, rfl, .inl (SqL.of hl5), p, _, c', o5, rfl, hp5, io5, by rw [List.length_map]; simp, by (first | lia | omega), by (first | lia | omega), by (first | lia | omega), fun q c6 o6 q0 q1 g3 g4 io6 => ?_⟩
    obtain ⟨j, rfl⟩ : ∃ j : Nat, q = (j : Int) := ⟨q.toNat, by (first | lia | omega)⟩
    rw [List.length_map] at q1
    have hj : j < (n0 :: ns0).length := by (first | lia | omega)
    have nlp : l ≠ p := fun z => by
      obtain ⟨o3, e3, _⟩ := pl3
      rw [z, e3] at nl; cases nl
    have hl6 : (upd H5 p o6) l = some (.lst (intsN (n0 :: ns0))) := by rw [upd_ne nlp]; exact hl5
    have ho6 : (upd H5 p o6) o = some (.lst (intsN order)) := by rw [upd_ne (np no)]; exact ho5
    have hp6 : (upd H5 p o6) p = some o6 := upd_same
    have B6 : But p H (upd H5 p o6) := (B.trans (but_same s35)).trans But.upd
    generalize upd H5 p o6 = H6 at *
    refine ⟨l, _, (j : Int), .int ((n0 :: ns0)[j] : Nat), rfl, rfl, SqL.of hl6, atI_nat (by rw [List.getElem?_map, List.getElem?_eq_getElem hj]; rfl), ?_⟩
    refine ⟨o, _, _, rfl, rfl, ho6, by rw [List.length_map]; exact small1000 (by (first | lia | omega)), ?_⟩
    refine ⟨o, order ++ [(n0 :: ns0)[j]], c6, _, _, rfl, no, ?_, hmem _ (List.getElem_mem hj), by rw [List.length_append, List.length_singleton]; (first | lia | omega), ⟨o6, ?_, io6⟩, by (first | lia | omega), by (first | lia | omega), fun b u n e => ?_⟩
    · rw [upd_same]; unfold intsN; rw [List.map_append]; rfl
    · rw [upd_ne (Ne.symm (np no))]; exact hp6
    · rw [upd_ne (ne_of_none e no)]; exact B6 b u n e
end
end K7
set_option Elab.async false
set_option linter.all false
set_option maxRecDepth 100000
set_option maxHeartbeats 4000000
namespace K7
open PySem L2 PyProof.Rows
theorem perm_map_inv {α β : Type} {f : α → β} : ∀ {zs ys : List β}, zs.Perm ys → ∀ {xs : List α}, xs.map f = zs → ∃ ws : List α, ys = ws.map f ∧ ws.Perm xs := by
  intro zs ys h
  induction h with
  | nil =>
    intro xs e
    rw [List.map_eq_nil_iff.mp e]
    exact ⟨[], rfl, .refl _⟩
  | cons x p ih =>
    intro xs e
    cases xs with
    | nil => cases e
    | cons a t =>
      rw [List.map_cons] at e
      injection e with e1 e2
      obtain ⟨ws, rfl, pw⟩ := ih e2
      exact ⟨a :: ws, by rw [List.map_cons, e1], pw.cons _⟩
  | swap x y l =>
    intro xs e
    cases xs with
    | nil => cases e
    | cons a t =>
      cases t with
      | nil => cases e
      | cons b t =>
        rw [List.map_cons, List.map_cons] at e
        injection e with e1 e2
        injection e2 with e2 e3
        exact ⟨b :: a :: t, by rw [List.map_cons, List.map_cons, e1, e2, e3], .swap _ _ _⟩
  | trans _ _ ih1 ih2 =>
    intro xs e
    obtain ⟨ws, rfl, pw⟩ := ih1 e
    obtain ⟨vs, rfl, pv⟩ := ih2 rfl
    exact ⟨vs, rfl, pv.trans pw⟩
def said (h : Hs) (i : Nat) : List Str := h.1 ++ (h.2.take i).flatMap fun r => r.1 ++ r.2
theorem said_zero (h : Hs) : said h 0 = h.1 := by simp [said]
theorem said_succ {h : Hs} {i : Nat} {r : Rm} (e : h.2[i]? = some r) : said h (i + 1) = said h i ++ r.1 ++ r.2 := by
  unfold said
  rw [List.take_add_one, e, List.flatMap_append]
  simp
theorem flat_two (rs : List Rm) : (rs.flatMap fun r => r.1 ++ r.2).length = (rs.flatMap (·.2)).length + (rs.flatMap (·.1)).length := by
  induction rs with
  | nil => rfl
  | cons r rs ih => simp only [List.flatMap_cons, List.length_append, ih]; (first | lia | omega)
theorem said_len (h : Hs) : (said h h.2.length).length = (allKeys h).length + (allLocks h).length := by
  unfold said allKeys allLocks
  rw [List.take_length, List.length_append, List.length_append, flat_two]
  (first | lia | omega)
theorem said_le {h : Hs} {i : Nat} : (said h i).length ≤ (allKeys h).length + (allLocks h).length := by
  rw [← said_len]
  unfold said
  rw [List.length_append, List.length_append, List.take_length, flat_two, flat_two]
  have a : ∀ (g : Rm → List Str), ((h.2.take i).flatMap g).length ≤ (h.2.flatMap g).length := fun g => by
    rw [show h.2.flatMap g = (h.2.take i).flatMap g ++ (h.2.drop i).flatMap g by rw [← List.flatMap_append, List.take_append_drop], List.length_append]
    (first | lia | omega)
  have := a (·.1)
  have := a (·.2)
  (first | lia | omega)
theorem said_mem {h : Hs} {x : Str} : x ∈ said h h.2.length ↔ x ∈ allKeys h ∨ x ∈ allLocks h := by
  unfold said allKeys allLocks
  rw [List.take_length]
  simp only [List.mem_append, List.mem_flatMap]
  constructor
  · rintro (q | ⟨r, hr, q | q⟩)
    · exact .inl (.inl q)
    · exact .inr ⟨r, hr, q⟩
    · exact .inl (.inr ⟨r, hr, q⟩)
  · rintro ((q | ⟨r, hr, q⟩) | ⟨r, hr, q⟩)
    · exact .inl q
    · exact .inr ⟨r, hr, .inr q⟩
    · exact .inr ⟨r, hr, .inl q⟩
theorem within_le {h : Hs} {r : Rm} (hr : r ∈ h.2) : r.2.length ≤ (allKeys h).length := by
  unfold allKeys
  rw [List.length_append]
  have : r.2.length ≤ (h.2.flatMap (·.2)).length := by
    obtain ⟨a, b, e⟩ := List.append_of_mem hr
    rw [e, List.flatMap_append, List.flatMap_cons, List.length_append, List.length_append]
    (first | lia | omega)
  (first | lia | omega)
def RoomN (p q : Addr) (H : Hp) (v : V) (r : Rm) : Prop := ∃ t a b : Addr, v = .ref t ∧ H t = some (.tup [.ref a, .ref b]) ∧ H a = some (.lst (r.1.map V.str)) ∧ H b = some (.lst (r.2.map V.str)) ∧ (t ≠ p ∧ a ≠ p ∧ b ≠ p) ∧ t ≠ q ∧ a ≠ q ∧ b ≠ q
theorem RoomN.at {p q : Addr} {H : Hp} {v : V} {r : Rm} (x : RoomN p q H v r) : RoomAt H v r := let ⟨t, a, b, e, h1, h2, h3, _⟩ := x; ⟨t, a, b, e, h1, h2, h3⟩
theorem RoomN.to {p q : Addr} {H H' : Hp} {v : V} {r : Rm} (x : RoomN p q H v r) (k : ∀ b u, b ≠ p → b ≠ q → H b = some u → H' b = some u) : RoomN p q H' v r :=
  let ⟨t, a, b, e, h1, h2, h3, ⟨p1, p2, p3⟩, q1, q2, q3⟩ := x
  ⟨t, a, b, e, k _ _ p1 q1 h1, k _ _ p2 q2 h2, k _ _ p3 q3 h3, ⟨p1, p2, p3⟩, q1, q2, q3⟩
def Laid (p q : Addr) (H : Hp) (φ : Str → Str) (π : List Nat) (rs : List Rm) (i : Nat) (rv : List V) : Prop :=
  ∀ (k j : Nat) (r : Rm), k < i → π[k]? = some j → rs[k]? = some r → ∃ (u : V) (r' : Rm), rv[j]? = some u ∧ RoomN p q H u r' ∧ RoomOk r' ∧ r'.1.Perm (r.1.map φ) ∧ r'.2.Perm (r.2.map φ)
theorem Laid.to {p q : Addr} {H H' : Hp} {φ : Str → Str} {π : List Nat} {rs : List Rm} {i : Nat} {rv : List V} (x : Laid p q H φ π rs i rv) (k : ∀ b u, b ≠ p → b ≠ q → H b = some u → H' b = some u) : Laid p q H' φ π rs i rv := fun k' j r a b c =>
  let ⟨u, r', e, n, o⟩ := x k' j r a b c
  ⟨u, r', e, n.to k, o⟩
theorem Laid.put {p q : Addr} {H : Hp} {φ : Str → Str} {π : List Nat} {rs : List Rm} {i j : Nat} {rv : List V} {u : V} {r r' : Rm} (x : Laid p q H φ π rs i rv) (nd : π.Nodup) (hj : j < rv.length) (ej : π[i]? = some j) (er : rs[i]? = some r) (n : RoomN p q H u r') (o : RoomOk r') (p1 : r'.1.Perm (r.1.map φ)) (p2 : r'.2.Perm (r.2.map φ)) :
    Laid p q H φ π rs (i + 1) (rv.set j u) := by
  intro k' j' s hk e1 e2
  by_cases hki : k' = i
  · subst hki
    rw [ej] at e1
    rw [er] at e2
    cases e1
    cases e2
    exact ⟨u, r', List.getElem?_set_self hj, n, o, p1, p2⟩
  · obtain ⟨u2, r2, g, rest⟩ := x k' j' s (by (first | lia | omega)) e1 e2
    have nj : j ≠ j' := fun z => by
      subst z
      exact hki ((List.getElem?_inj (List.getElem?_eq_some_iff.mp e1).1 nd).mp (by rw [e1, ej]))
    exact ⟨u2, r2, by rw [List.getElem?_set_ne nj]; exact g, rest⟩
theorem list_of {α : Type} {Pj : Nat → α → Prop} : ∀ n : Nat, (∀ j, j < n → ∃ a, Pj j a) → ∃ l : List α, l.length = n ∧ ∀ j a, l[j]? = some a → Pj j a
  | 0, _ => ⟨[], rfl, fun j a e => by simp at e⟩
  | n + 1, h => by
    obtain ⟨l, hl, hp⟩ := list_of n fun j hj => h j (by (first | lia | omega))
    obtain ⟨a, ha⟩ := h n (Nat.lt_succ_self n)
    refine ⟨l ++ [a], by simp [hl], fun j b e => ?_⟩
    by_cases hj : j < l.length
    · rw [List.getElem?_append_left hj] at e
      exact hp j b e
    · rw [List.getElem?_append_right (by (first | lia | omega))] at e
      have : j - l.length = 0 := by
        have := (List.getElem?_eq_some_iff.mp e).1
        simp at this
        (first | lia | omega)
      rw [this] at e
      cases e
      rw [show j = n by (first | lia | omega)]
      exact ha
theorem Laid.rooms {p q : Addr} {H : Hp} {φ : Str → Str} {π : List Nat} {rs : List Rm} {rv : List V} (x : Laid p q H φ π rs rs.length rv) (pp : π.Perm (List.range rs.length)) (hl : rv.length = rs.length) :
    ∃ rs', RoomsAt H rv rs' ∧ rs'.length = rs.length ∧ (∀ r ∈ rs', RoomOk r) ∧ ∀ (i j : Nat) (r : Rm), π[i]? = some j → rs[i]? = some r → ∃ r' : Rm, rs'[j]? = some r' ∧ r'.1.Perm (r.1.map φ) ∧ r'.2.Perm (r.2.map φ) := by
  have nd : π.Nodup := pp.nodup_iff.mpr List.nodup_range
  have pl : π.length = rs.length := by rw [pp.length_eq, List.length_range]
  obtain ⟨rs', l1, l2⟩ := list_of (Pj := fun j r' => ∃ u, rv[j]? = some u ∧ RoomN p q H u r' ∧ RoomOk r' ∧ ∀ (i : Nat) (r : Rm), π[i]? = some j → rs[i]? = some r → r'.1.Perm (r.1.map φ) ∧ r'.2.Perm (r.2.map φ)) rs.length fun j hj => by
    obtain ⟨i, ei⟩ := List.mem_iff_getElem?.mp (pp.mem_iff.mpr (List.mem_range.mpr hj))
    have hi := (List.getElem?_eq_some_iff.mp ei).1
    have er : rs[i]? = some (rs[i]'(by (first | lia | omega))) := List.getElem?_eq_getElem (by (first | lia | omega))
    obtain ⟨u, r', g, n, o, p1, p2⟩ := x i j _ (by (first | lia | omega)) ei er
    refine ⟨r', u, g, n, o, fun i2 r2 e1 e2 => ?_⟩
    have : i2 = i := (List.getElem?_inj (List.getElem?_eq_some_iff.mp e1).1 nd).mp (by rw [e1, ei])
    subst this
    rw [er] at e2
    cases e2
    exact ⟨p1, p2⟩
  refine ⟨rs', ⟨by (first | lia | omega), fun j v r e1 e2 => ?_⟩, l1, fun r hr => ?_, fun i j r e1 e2 => ?_⟩
  · obtain ⟨u, g, n, _⟩ := l2 j r e2
    rw [g] at e1
    cases e1
    exact n.at
  · obtain ⟨j, e⟩ := List.mem_iff_getElem?.mp hr
    obtain ⟨_, _, _, o, _⟩ := l2 j r e
    exact o
  · have hj : j < rs.length := List.mem_range.mp (pp.mem_iff.mp (List.mem_of_getElem? e1))
    have er : rs'[j]? = some (rs'[j]'(by (first | lia | omega))) := List.getElem?_eq_getElem (by (first | lia | omega))
    obtain ⟨_, _, _, _, k⟩ := l2 j _ er
    exact ⟨_, er, k i r e1 e2⟩
def nameV (ks vs : List Str) : V → V
  | .str x => .str (nameOf ks vs x)
  | v => v
theorem nameV_map (ks vs l : List Str) : (l.map V.str).map (nameV ks vs) = (l.map (nameOf ks vs)).map V.str := by
  rw [List.map_map, List.map_map]
  rfl
theorem Anew.plain {U : List Str} {φ : Str → Str} {π : List Nat} {h h' : Hs} (a : Anew U φ π h h') : plainB h' = plainB h := by
  unfold plainB
  rw [Bool.eq_iff_iff, List.all_eq_true, List.all_eq_true]
  constructor
  · intro k r hr
    obtain ⟨i, e⟩ := List.mem_iff_getElem?.mp hr
    have hi := (List.getElem?_eq_some_iff.mp e).1
    obtain ⟨r', e', p1, _⟩ := a.rooms i _ r (at_get (by rw [a.plen]; exact hi)) e
    have := k r' (List.mem_of_getElem? e')
    rw [p1.length_eq, List.length_map] at this
    exact this
  · intro k r' hr
    obtain ⟨j, e⟩ := List.mem_iff_getElem?.mp hr
    have hj : j < h.2.length := by rw [← a.len]; exact (List.getElem?_eq_some_iff.mp e).1
    obtain ⟨i, ei⟩ := List.mem_iff_getElem?.mp (a.pl.mem_iff.mpr (List.mem_range.mpr hj))
    have hi : i < h.2.length := by rw [← a.plen]; exact (List.getElem?_eq_some_iff.mp ei).1
    obtain ⟨r2, e2, p1, _⟩ := a.rooms i j _ ei (List.getElem?_eq_getElem hi)
    rw [e2] at e
    cases e
    have := k _ (List.getElem_mem hi)
    rw [p1.length_eq, List.length_map]
    exact this
end K7
set_option Elab.async false
set_option linter.all false
set_option maxRecDepth 100000
set_option maxHeartbeats 4000000
namespace K7
open PySem L2 PyProof.Rows
def hid1 (p : Addr) (H : Hp) : Hp := fun b => if b = p then none else H b
theorem hid1_but {p : Addr} {H H' : Hp} (B : But p H H') : Same (hid1 p H) H' := fun b u e => by
  unfold hid1 at e
  split at e
  · cases e
  · rename_i n
    exact B b u n e
theorem but_hid1 {p : Addr} {H : Hp} : But p H (hid1 p H) := fun b u n e => by
  unfold hid1
  rw [if_neg n]
  exact e
theorem pack_new {G H : Hp} {l : Addr} {o : HO} (n : G l = none) (s : Same H G) : ∃ H3, H3 = upd G l o ∧ H3 l = some o ∧ Same H H3 := ⟨_, rfl, upd_same, s.trans (same_new n)⟩
def spNamed : Sp := fun vs H Q _ => ∃ (p : Addr) (v : V) (h : Hs) (c : Int), vs = [.ref p, v] ∧ PoolAt H p c ∧ HouseAt H v h ∧ HouseOk h ∧ HouseFew h ∧ h.2.length ≤ 60 ∧ (allKeys h).length ≤ 276 ∧ 0 ≤ c ∧ c + 20000 < 1000000 ∧
  ∀ (L d pA : Addr) (vO : V) (ks vs : List Str) (h' : Hs) (π : List Nat) (c' : Int) (H' : Hp), H' L = some (.lst [vO, .ref d, .ref pA]) → HouseAt H' vO h' → H' d = some (.dK (zipKV ks vs)) → H' pA = some (.lst (intsN π)) → H d = none → H pA = none → Anew ks (nameOf ks vs) π h h' → HouseOk h' → ks.length < 61 → ks.length = vs.length → (∀ k ∈ vs, KindOk k) →
    PoolAt H' p c' → c ≤ c' → c' ≤ c + 20000 → But p H H' → Q (.ref L) H'
inductive NmI1 (p t : Addr) (h : Hs) (H : Hp) (i : Nat) (σ' : L2.St) (H' : Hp) : Prop
  | mk (kA : Addr) (x3 x4 : Option V) : σ' = [some (.ref p), some (.ref t), some (.ref kA), x3, x4, none, none, none, none, none] → H' kA = some (.lst ((said h i).map V.str)) → Same H H' → NmI1 p t h H i σ' H'
inductive NmI2 (p t kB d pA rA : Addr) (φ : Str → Str) (π : List Nat) (h : Hs) (c : Int) (H : Hp) (i : Nat) (σ' : L2.St) (H' : Hp) : Prop
  | mk (rv : List V) (c' : Int) (x3 x4 x8 x9 : Option V) : σ' = [some (.ref p), some (.ref t), some (.ref kB), x3, x4, some (.ref d), some (.ref pA), some (.ref rA), x8, x9] → H' rA = some (.lst rv) → rv.length = h.2.length → Laid p rA H' φ π h.2 i rv → PoolAt H' p c' → c ≤ c' → c' ≤ c + 276 * i → (∀ b u, b ≠ p → b ≠ rA → H b = some u → H' b = some u) → NmI2 p t kB d pA rA φ π h c H i σ' H'
section
variable {P : Program} {w : World} {K : PySem.W.Frag} {mg : Str → Option Value} {base : Heap}
theorem sc__law_named : FnScope ["pool", "house", "kinds", "locks", "keys", "names", "places", "rooms", "room", "place"] ["pool", "house"] (defScope st__law_named) := ⟨rfl, rfl, rfl, by decide +kernel, rfl, by decide +kernel, by decide +kernel⟩
theorem nd__law_named_0 : (["kind", "names"] : List Str).Nodup := by decide +kernel
theorem ok_named {f fK fM : Addr} {fd fdK fdM : FuncData} (F : Fun K "_law_named" "_law_named" st__law_named f fd) (G__law_kinds : FnOk P w K mg base CX0 2 fK fdK ["pool", "many"] spMade) (c__law_kinds : Cal K mg "_law_kinds" ["pool", "many"] fK fdK)
    (G__law_mixed_up : FnOk P w K mg base CX0 2 fM fdM ["pool", "things"] spMixed) (c__law_mixed_up : Cal K mg "_law_mixed_up" ["pool", "things"] fM fdM) (m_dict : mg "dict" = none) (m_enumerate : mg "enumerate" = none) (m_len : mg "len" = none) (m_list : mg "list" = none) (m_range : mg "range" = none) (m_set : mg "set" = none) (m_sorted : mg "sorted" = none) (m_zip : mg "zip" = none) : FnOk P w K mg base CX0 3 f fd ["pool", "house"] spNamed := by
  refine F.ok sc__law_named (fun vs H Q E h => ?_) (fun cdv A outer s H vs Q E hr h => ?_)
  · obtain ⟨p, v, h, c, rfl, _⟩ := h
    rfl
  · obtain ⟨p, v, h, c, rfl, pl, hh, ok, few, hl, nk, c0, c1, k⟩ := h
    have hu := hu_of hr
    refine ⟨_, (pss_cons (ps_set (i := 2) sc__law_named.nd rfl (Or.inl rfl) (pe_callTy call_list_of rfl m_list (by decide +kernel) (pa_cons (pe_ix ix_tup (pv 1) pe_int (fun _ _ => rfl)) pa_nil)))
      (pss_cons (ps_cut (ps_for PassesOwn.never rfl (pi_list (pe_ix ix_tup (pv 1) pe_int (fun _ _ => rfl))) (pg_tup rfl (pgs_cons (pg_name (i := 3) sc__law_named.nd rfl (Or.inl rfl)) (pgs_cons (pg_name (i := 4) sc__law_named.nd rfl (Or.inl rfl)) pgs_nil)))
        (pss_one (ps_set (i := 2) sc__law_named.nd rfl (Or.inl rfl) (pe_op op_cat (pe_op op_cat (pv 2) (pv 3)) (pv 4))))))
      (pss_cons (ps_set (i := 2) sc__law_named.nd rfl (Or.inl rfl) (pe_callB (call_sorted_set rfl) rfl m_sorted boot_sorted (pa_cons (pe_callTy (call_set_of rfl) rfl m_set (by decide +kernel) (pa_cons (pv 2) pa_nil)) pa_nil)))
      (pss_cons (ps_set (i := 5) sc__law_named.nd rfl (Or.inr rfl) (pe_dictZip rfl m_dict rfl m_zip rfl (pa_cons (pv 2) (pa_cons (pe_call G__law_kinds hr rfl c__law_kinds.mg c__law_kinds.kp c__law_kinds.b .nil pass0 (pa_cons (pv 0) (pa_cons (pe_callB call_len_seq rfl m_len PySem.boot_len (pa_cons (pv 2) pa_nil)) pa_nil))) pa_nil))))
      (pss_cons (ps_set (i := 6) sc__law_named.nd rfl (Or.inl rfl) (pe_call G__law_mixed_up hr rfl c__law_mixed_up.mg c__law_mixed_up.kp c__law_mixed_up.b .nil pass0 (pa_cons (pv 0) (pa_cons (pe_listRange rfl m_list rfl m_range rfl (pa_cons (pe_callB call_len_seq rfl m_len PySem.boot_len (pa_cons (pe_ix ix_tup (pv 1) pe_int (fun _ _ => rfl)) pa_nil)) pa_nil)) pa_nil))))
      (pss_cons (ps_set (i := 7) sc__law_named.nd rfl (Or.inl rfl) (pe_op op_rep (pe_lst (pa_cons pe_non pa_nil)) (pe_callB call_len_seq rfl m_len PySem.boot_len (pa_cons (pv 6) pa_nil))))
      (pss_cons (ps_cut (ps_for PassesOwn.never rfl (pi_enum rfl m_enumerate (pa_cons (pv 6) pa_nil)) (pg_tup rfl (pgs_cons (pg_name (i := 8) sc__law_named.nd rfl (Or.inl rfl)) (pgs_cons (pg_name (i := 9) sc__law_named.nd rfl (Or.inl rfl)) pgs_nil)))
        (pss_cons (ps_asg (pe_ix ix_list (pe_ix ix_tup (pv 1) pe_int (fun _ _ => rfl)) (pv 8) (fun _ _ => rfl)) (pg_tup rfl (pgs_cons (pg_name (i := 3) sc__law_named.nd rfl (Or.inl rfl)) (pgs_cons (pg_name (i := 4) sc__law_named.nd rfl (Or.inl rfl)) pgs_nil))))
        (pss_one (ps_asg (pe_tup (pa_cons (pe_callB call_sortedA rfl m_sorted boot_sorted (pa_cons (pe_lc (tg := .Name "kind" _) (outer := defScope (st__law_named)) (N := ["pool", "house", "kinds", "locks", "keys", "names", "places", "rooms", "room", "place"]) (N' := ["kind", "names"]) (nl := 1) (ix := [5]) rfl rfl rfl (pi_list (pv 3))
        (fun C fp s₀ H₀ => (pg_name (i := 0) nd__law_named_0 rfl (Or.inl rfl) (.inr rfl))) (fun C fp s₀ H₀ => pif_nil)
        (fun C fp s₀ H₀ => (pe_dget hu (pv 1) (pv 0) (fun _ _ => rfl)))) pa_nil)) (pa_cons (pe_call G__law_mixed_up hr rfl c__law_mixed_up.mg c__law_mixed_up.kp c__law_mixed_up.b .nil pass0 (pa_cons (pv 0) (pa_cons (pe_lc (tg := .Name "kind" _) (outer := defScope (st__law_named)) (N := ["pool", "house", "kinds", "locks", "keys", "names", "places", "rooms", "room", "place"]) (N' := ["kind", "names"]) (nl := 1) (ix := [5]) rfl rfl rfl (pi_list (pv 4))
        (fun C fp s₀ H₀ => (pg_name (i := 0) nd__law_named_0 rfl (Or.inl rfl) (.inr rfl))) (fun C fp s₀ H₀ => pif_nil)
        (fun C fp s₀ H₀ => (pe_dget hu (pv 1) (pv 0) (fun _ _ => rfl)))) pa_nil))) pa_nil))) (pg_sub (pv 7) (pv 9) set_list))))))
      (pss_one (ps_ret (pe_lst (pa_cons (pe_tup (pa_cons (pe_call G__law_mixed_up hr rfl c__law_mixed_up.mg c__law_mixed_up.kp c__law_mixed_up.b .nil pass0 (pa_cons (pv 0) (pa_cons (pe_lc (tg := .Name "kind" _) (outer := defScope (st__law_named)) (N := ["pool", "house", "kinds", "locks", "keys", "names", "places", "rooms", "room", "place"]) (N' := ["kind", "names"]) (nl := 1) (ix := [5]) rfl rfl rfl (pi_list (pe_ix ix_tup (pv 1) pe_int (fun _ _ => rfl)))
        (fun C fp s₀ H₀ => (pg_name (i := 0) nd__law_named_0 rfl (Or.inl rfl) (.inr rfl))) (fun C fp s₀ H₀ => pif_nil)
        (fun C fp s₀ H₀ => (pe_dget hu (pv 1) (pv 0) (fun _ _ => rfl)))) pa_nil))) (pa_cons (pv 7) pa_nil))) (pa_cons (pv 5) (pa_cons (pv 6) pa_nil))))))))))))), ?_⟩
    have np : ∀ {b : Addr}, H b = none → b ≠ p := fun {b} n z => by
      obtain ⟨o, e, _⟩ := pl
      rw [z, e] at n; cases n
    obtain ⟨t, a, r, us, rfl, ht, ha, hrr, hR⟩ := hh.but pl but_hid1
    have S0 : Same (hid1 p H) H := hid1_but (But.refl _ _)
    have ul := hR.1
    have sl : ∀ i, (said h i).length ≤ 1276 := fun i => Nat.le_trans said_le (by have := few.nl; (first | lia | omega))
    refine ⟨_, rfl, t, _, 0, .ref a, rfl, rfl, SqT.of (S0 _ _ ht), rfl, a, _, rfl, .inl (SqL.of (S0 _ _ ha)), fun kA nkA => ?_⟩
    have s1 : Same H (upd H kA (.lst (h.1.map V.str))) := same_new nkA
    have e1 : (upd H kA (.lst (h.1.map V.str))) kA = some (.lst ((said h 0).map V.str)) := by rw [upd_same, said_zero]
    generalize upd H kA (.lst (h.1.map V.str)) = H1 at *
    refine ⟨fun σ' H' => NmI1 p t h H h.2.length σ' H', ?_, ?_⟩
    rotate_left
    · have S1 := S0.trans s1
      refine ⟨_, rfl, t, _, 1, .ref r, rfl, rfl, SqT.of (S1 _ _ ht), rfl, r, rfl, ⟨_, SqL.of (S1 _ _ hrr)⟩, ?_⟩
      refine for_list (xs := us) (fun i σ' H' => NmI1 p t h H i σ' H') ⟨kA, none, none, rfl, e1, s1⟩ (fun i σ H' _ ⟨_, _, _, _, _, sm⟩ => SqL.of (sm _ _ (S0 _ _ hrr))) ?_ (fun σ H' z => by rw [← ul]; exact z)
      rintro i x σ H3 hx ⟨kA, x3, x4, rfl, hk, sm⟩
      have hi : i < us.length := (List.getElem?_eq_some_iff.mp hx).1
      have er : h.2[i]? = some (h.2[i]'(by (first | lia | omega))) := List.getElem?_eq_getElem (by (first | lia | omega))
      obtain ⟨tt, aa, bb, rfl, g1, g2, g3⟩ := (hR.2 i x _ hx er).same (S0.trans sm)
      refine ⟨tt, _, rfl, SqT.of g1, rfl, _, _, rfl, _, _, rfl, rfl, ?_⟩
      have l1 := sl i
      have l2 := sl (i + 1)
      rw [said_succ er, List.length_append, List.length_append] at l2
      have lim : 1276 ≤ sizeLine := by decide
      refine ⟨_, rfl, _, rfl, kA, aa, _, _, rfl, rfl, hk, g2, by rw [List.length_map, List.length_map]; (first | lia | omega), fun k1 n1 => ?_⟩
      have s4 : Same H3 (upd H3 k1 (.lst ((said h i).map V.str ++ (h.2[i]'(by (first | lia | omega))).1.map V.str))) := same_new n1
      have e4 : (upd H3 k1 (.lst ((said h i).map V.str ++ (h.2[i]'(by (first | lia | omega))).1.map V.str))) k1 = _ := upd_same
      generalize upd H3 k1 (.lst ((said h i).map V.str ++ (h.2[i]'(by (first | lia | omega))).1.map V.str)) = H4 at *
      refine ⟨_, rfl, k1, bb, _, _, rfl, rfl, e4, s4 _ _ g3, by rw [List.length_append, List.length_map, List.length_map, List.length_map]; (first | lia | omega), fun k2 n2 => ?_⟩
      refine ⟨k2, _, _, rfl, ?_, sm.trans (s4.trans (same_new n2))⟩
      rw [upd_same, said_succ er, List.map_append, List.map_append]
    rintro σ H2 ⟨kA, x3, x4, rfl, hk, s2⟩
    have sl0 := sl h.2.length
    refine ⟨_, rfl, kA, said h h.2.length, rfl, SqL.of hk, Nat.lt_of_le_of_lt (show (said h h.2.length).length + 1 ≤ 1277 by (first | lia | omega)) (by decide), fun sA ts nsA hset => ?_⟩
    obtain ⟨U, hU, hUm⟩ := few.few
    have tsl : ts.length < 61 := Nat.lt_of_le_of_lt (nodup_sub_length hset.1 fun x hx => hUm x (said_mem.mp ((hset.2 x).mp hx))) hU
    refine ⟨sA, ts, rfl, upd_same, by (first | lia | omega), fun kB ks nkB pm so => ?_⟩
    have nkB0 : H kB = none := (s2.trans (same_new nsA)).free nkB
    obtain ⟨H3, eH3, hkB, s3⟩ := pack_new (o := .lst (ks.map V.str)) nkB (s2.trans (same_new nsA))
    rw [← eH3]
    have ksl : ks.length < 61 := by rw [pm.length_eq]; exact tsl
    have ksn : ks.Nodup := pm.nodup_iff.mpr hset.1
    have ksm : ∀ x, x ∈ ks ↔ x ∈ allKeys h ∨ x ∈ allLocks h := fun x => by rw [pm.mem_iff, hset.2, said_mem]
    refine ⟨_, rfl, _, rfl, _, rfl, kB, _, rfl, .inl (SqL.of hkB), p, ks.length, c, by rw [List.length_map]; rfl, pool_same pl s3, by (first | lia | omega), c0, by (first | lia | omega), fun vA vs c4 H4 nvA vl vk vn hvA pl4 g1 g2 B4 => ?_⟩
    have B04 : But p H H4 := (but_same s3).trans B4
    have hkB4 := B4 _ _ (np nkB0) hkB
    refine ⟨kB, vA, ks, vs, rfl, SqL.of hkB4, SqL.of hvA, ksn, vl.symm, fun d nd => ?_⟩
    have s5 : Same H4 (upd H4 d (.dK (zipKV ks vs))) := same_new nd
    have hd5 : (upd H4 d (.dK (zipKV ks vs))) d = some (.dK (zipKV ks vs)) := upd_same
    show tSeq _ _ _ _ (upd H4 d (.dK (zipKV ks vs)))
    have dp : d ≠ p := fun z => by
      obtain ⟨o, e, _⟩ := pl4
      rw [z, e] at nd; cases nd
    have nd0 : H d = none := B04.free dp nd
    have pl5 := pool_same pl4 s5
    have B05 := B04.trans (but_same s5)
    generalize upd H4 d (.dK (zipKV ks vs)) = H5 at *
    have S5 := hid1_but B05
    refine ⟨_, rfl, _, rfl, t, _, 1, .ref r, rfl, rfl, SqT.of (S5 _ _ ht), rfl, r, _, rfl, .inl (SqL.of (S5 _ _ hrr)), h.2.length, by rw [ul], by (first | lia | omega), fun l2 n2 => ?_⟩
    have l2p : l2 ≠ p := fun z => by
      obtain ⟨o, e, _⟩ := pl5
      rw [z, e] at n2; cases n2
    refine ⟨p, l2, _, c4, rfl, pool_same pl5 (same_new n2), l2p, upd_same, fun x hx => .inr (by obtain ⟨j, _, rfl⟩ := List.mem_map.mp hx; exact ⟨_, rfl⟩), by rw [List.length_map, List.length_range]; (first | lia | omega), by (first | lia | omega), by (first | lia | omega), fun pA ys c7 H7 npA pmY hpA pl7 g3 g4 B7 => ?_⟩
    rw [List.length_map, List.length_range] at g4
    obtain ⟨π, rfl, pmπ⟩ := perm_map_inv pmY.symm rfl
    have npA5 : H5 pA = none := (same_new n2).free npA
    have B57 : But p H5 H7 := (but_same (same_new n2)).trans B7
    have pAp : pA ≠ p := fun z => by
      obtain ⟨o, e, _⟩ := pl5
      rw [z, e] at npA5; cases npA5
    have npA0 : H pA = none := B05.free pAp npA5
    have B07 := B05.trans B57
    have hd7 := B57 _ _ dp hd5
    have πl : π.length = h.2.length := by rw [pmπ.length_eq, List.length_range]
    have dpA : d ≠ pA := ne_of_none hd5 npA5
    refine ⟨by decide, fun e0 ne0 => ?_⟩
    have s8 : Same H7 (upd H7 e0 (.lst [.non])) := same_new ne0
    have e8 : (upd H7 e0 (.lst [.non])) e0 = some (.lst [.non]) := upd_same
    generalize upd H7 e0 (.lst [.non]) = H8 at *
    refine ⟨_, rfl, pA, _, rfl, .inl (SqL.of (s8 _ _ hpA)), e0, (π.length : Nat), [.non], rfl, by rw [List.length_map], e8, by (first | lia | omega), by (first | lia | omega), Nat.le_trans (show 1 * ((π.length : Nat) : Int).toNat ≤ 60 by (first | lia | omega)) (by decide), fun rA nrA => ?_⟩
    have B08 := B07.trans (but_same s8)
    have pl8 := pool_same pl7 s8
    have rAp : rA ≠ p := fun z => by
      obtain ⟨o, e, _⟩ := pl8
      rw [z, e] at nrA; cases nrA
    have nrA0 : H rA = none := B08.free rAp nrA
    have drA : d ≠ rA := ne_of_none (s8 _ _ hd7) nrA
    have pArA : pA ≠ rA := ne_of_none (s8 _ _ hpA) nrA
    obtain ⟨H9, eH9, hrA9, s9⟩ := pack_new (o := .lst (List.replicate ((π.length : Nat) : Int).toNat [.non]).flatten) nrA (Same.refl H8)
    rw [← eH9]
    have B09 := B08.trans (but_same s9)
    have pl9 := pool_same pl8 s9
    have hd9 := s9 _ _ (s8 _ _ hd7)
    have hpA9 := s9 _ _ (s8 _ _ hpA)
    have nonl : ((List.replicate ((π.length : Nat) : Int).toNat [V.non]).flatten).length = h.2.length := by rw [len_rep, Int.toNat_natCast, πl]; simp
    have S9 := hid1_but B09
    have πn : π.Nodup := pmπ.nodup_iff.mpr List.nodup_range
    have up : ∀ {H' : Hp}, (∀ b u, b ≠ p → b ≠ rA → H9 b = some u → H' b = some u) → Same (hid1 p H) H' := fun {H'} kp b u e => by
      have hb : b ≠ p := fun z => by rw [z] at e; unfold hid1 at e; rw [if_pos rfl] at e; cases e
      have eb : H b = some u := by unfold hid1 at e; rw [if_neg hb] at e; exact e
      exact kp b u hb (ne_of_none eb nrA0) (B09 b u hb eb)
    have inU : ∀ q ∈ h.2, (∀ x ∈ q.1, x ∈ ks) ∧ ∀ x ∈ q.2, x ∈ ks := fun q hq => ⟨fun x hx => (ksm x).mpr (.inr (List.mem_flatMap.mpr ⟨q, hq, hx⟩)), fun x hx => (ksm x).mpr (.inl (List.mem_append.mpr (.inr (List.mem_flatMap.mpr ⟨q, hq, hx⟩))))⟩
    have kn : ∀ {l : List Str} , (∀ x ∈ l, x ∈ ks) → ∀ y ∈ l.map (nameOf ks vs), KindOk y := fun {l} hl y hy => by
      obtain ⟨x, hx, rfl⟩ := List.mem_map.mp hy
      exact vk _ (nameOf_mem vl.symm (hl x hx))
    refine ⟨fun σ' H' => NmI2 p t kB d pA rA (nameOf ks vs) π h c7 H9 h.2.length σ' H', ?_, ?_⟩
    rotate_left
    · refine ⟨_, rfl, pA, rfl, ⟨_, SqL.of hpA9⟩, ?_⟩
      refine for_enum (xs := intsN π) (fun i σ' H' => NmI2 p t kB d pA rA (nameOf ks vs) π h c7 H9 i σ' H') ⟨_, c7, _, _, _, _, rfl, hrA9, nonl, fun k' j r h0 => absurd h0 (Nat.not_lt_zero _), pl9, Int.le_refl _, by (first | lia | omega), fun b u _ _ e => e⟩ (fun i σ H' _ ⟨_, _, _, _, _, _, _, _, _, _, _, _, _, kp⟩ => SqL.of (kp _ _ pAp pArA hpA9)) ?_ (fun σ H' z => by rw [List.length_map, πl] at z; exact z)
      rintro i x σ H10 T hx ⟨rv, c10, y3, y4, y8, y9, rfl, hrv, rvl, laid, pl10, u1, u2, kp⟩ nT
      have hi : i < π.length := by
        have := (List.getElem?_eq_some_iff.mp hx).1
        rw [List.length_map] at this; exact this
      obtain ⟨j, hj⟩ : ∃ j, π[i]? = some j := ⟨_, List.getElem?_eq_getElem hi⟩
      rw [List.getElem?_map, hj] at hx
      cases hx
      have hjn : j < h.2.length := List.mem_range.mp (pmπ.mem_iff.mp (List.mem_of_getElem? hj))
      obtain ⟨rm, er⟩ : ∃ q, h.2[i]? = some q := ⟨_, List.getElem?_eq_getElem (by (first | lia | omega))⟩
      obtain ⟨vi, ev⟩ : ∃ v, us[i]? = some v := ⟨_, List.getElem?_eq_getElem (by (first | lia | omega))⟩
      have rmm := List.mem_of_getElem? er
      have rok := ok.rs rm rmm
      have rkl := Nat.le_trans (within_le rmm) nk
      have s11 : Same H10 (upd H10 T (.tup [.int (i : Int), .int ((j : Nat) : Int)])) := same_new nT
      refine ⟨T, _, rfl, SqT.of upd_same, rfl, _, _, rfl, _, _, rfl, rfl, ?_⟩
      generalize upd H10 T (.tup [.int (i : Int), .int ((j : Nat) : Int)]) = H11 at *
      have kp11 : ∀ b u, b ≠ p → b ≠ rA → H9 b = some u → H11 b = some u := fun b u n1 n2 e => s11 _ _ (kp b u n1 n2 e)
      have S11 := up kp11
      have hd11 := kp11 _ _ dp drA hd9
      obtain ⟨tt, aa, bb, rfl, q1, q2, q3⟩ := (hR.2 i vi rm ev er).same S11
      refine ⟨_, rfl, t, _, 1, .ref r, rfl, rfl, SqT.of (S11 _ _ ht), rfl, _, rfl, r, us, (i : Int), .ref tt, rfl, rfl, SqL.of (S11 _ _ hrr), atI_nat ev, ?_⟩
      refine ⟨tt, _, rfl, SqT.of q1, rfl, _, _, rfl, _, _, rfl, rfl, ?_⟩
      dsimp only [tAsg, tTup, tCB, tCons, tNil]
      refine lcomp_eq _ _ _ _ _ _ _ _ _ ?_
      refine ⟨_, rfl, aa, rfl, ⟨_, SqL.of q2⟩, ?_⟩
      intro D1 nD1
      refine comp_fun (F := nameV ks vs) q2 nD1 (by rw [List.length_map]; have := rok.l4; (first | lia | omega)) (fun x => rfl) (fun G x R hx sG q => ?_) (fun H12 s12 hD12 => ?_)
      · obtain ⟨z, hz, rfl⟩ := List.mem_map.mp hx
        exact ⟨_, rfl, _, rfl, d, _, rfl, .inl ⟨_, .inr z, Rd.of (sG _ _ hd11), rfl, (zip_val ((inU rm rmm).1 z hz) vl.symm).symm⟩, q⟩
      rw [nameV_map] at hD12
      refine ⟨D1, _, rfl, SqL.of hD12, Nat.le_trans (show _ ≤ 4 by rw [List.length_map]; exact rok.l4) (by decide), fun lA ls nlA pmL soL => ?_⟩
      obtain ⟨H13, eH13, hlA, s13⟩ := pack_new (o := .lst (ls.map V.str)) nlA s12
      rw [← eH13]
      refine ⟨_, rfl, ?_⟩
      refine lcomp_eq _ _ _ _ _ _ _ _ _ ?_
      refine ⟨_, rfl, bb, rfl, ⟨_, SqL.of (s13 _ _ q3)⟩, ?_⟩
      intro D2 nD2
      have hd13 := s13 _ _ hd11
      refine comp_fun (F := nameV ks vs) (s13 _ _ q3) nD2 (by rw [List.length_map]; (first | lia | omega)) (fun x => rfl) (fun G x R hx sG q => ?_) (fun H14 s14 hD14 => ?_)
      · obtain ⟨z, hz, rfl⟩ := List.mem_map.mp hx
        exact ⟨_, rfl, _, rfl, d, _, rfl, .inl ⟨_, .inr z, Rd.of (sG _ _ hd13), rfl, (zip_val ((inU rm rmm).2 z hz) vl.symm).symm⟩, q⟩
      rw [nameV_map] at hD14
      have pl13 := pool_same (pool_same pl10 s11) s13
      have D2p : D2 ≠ p := fun z => by
        obtain ⟨o, e, _⟩ := pl13
        rw [z, e] at nD2; cases nD2
      have hlA14 := s14 _ _ hlA
      refine ⟨p, D2, _, c10, rfl, pool_same pl13 s14, D2p, hD14, fun x hx => .inl (by obtain ⟨z, hz, rfl⟩ := List.mem_map.mp hx; exact ⟨z, kn (inU rm rmm).2 z hz, rfl⟩), by rw [List.length_map, List.length_map]; (first | lia | omega), by (first | lia | omega), by (first | lia | omega), fun mA ys c15 H15 nmA pmM hmA pl15 g5 g6 B15 => ?_⟩
      rw [List.length_map, List.length_map] at g6
      obtain ⟨ws, rfl, pmW⟩ := perm_map_inv pmM.symm rfl
      have B1115 : But p H11 H15 := (but_same (s13.trans s14)).trans B15
      have lAp : lA ≠ p := fun z => by
        obtain ⟨o, e, _⟩ := pool_same (pool_same pl10 s11) s12
        rw [z, e] at nlA; cases nlA
      have lrA : lA ≠ rA := fun z => by rw [z, s12 _ _ (s11 _ _ hrv)] at nlA; cases nlA
      have mAp : mA ≠ p := fun z => by
        obtain ⟨o, e, _⟩ := pool_same pl13 s14
        rw [z, e] at nmA; cases nmA
      have mrA : mA ≠ rA := fun z => by rw [z, s14 _ _ (s13 _ _ (s11 _ _ hrv))] at nmA; cases nmA
      have hrA15 : H15 rA = some (.lst rv) := B1115 _ _ rAp (s11 _ _ hrv)
      have hlA15 : H15 lA = some (.lst (ls.map V.str)) := B15 _ _ lAp hlA14
      refine ⟨by show 2 ≤ sizeLine; decide, fun tA ntA => ?_⟩
      have tAp : tA ≠ p := fun z => by
        obtain ⟨o, e, _⟩ := pl15
        rw [z, e] at ntA; cases ntA
      have trA : tA ≠ rA := fun z => by rw [z, hrA15] at ntA; cases ntA
      obtain ⟨H16, eH16, htA, s16⟩ := pack_new (o := .tup [.ref lA, .ref mA]) ntA (Same.refl H15)
      rw [← eH16]
      have hrA16 := s16 _ _ hrA15
      have ix : ixN rv.length ((j : Nat) : Int) = some j := by
        unfold ixN
        rw [if_pos (Int.natCast_nonneg j), if_pos (by (first | lia | omega)), Int.toNat_natCast]
      refine ⟨_, rfl, _, rfl, rA, rv, ((j : Nat) : Int), j, rfl, rfl, hrA16, ix, ?_⟩
      have kp16 : ∀ b u, b ≠ p → b ≠ rA → H10 b = some u → (upd H16 rA (.lst (rv.set j (.ref tA)))) b = some u := fun b u n1 n2 e => by
        rw [upd_ne n2]
        exact s16 _ _ (B1115 b u n1 (s11 _ _ e))
      have rn : RoomN p rA (upd H16 rA (.lst (rv.set j (.ref tA)))) (.ref tA) (ls, ws) := ⟨tA, lA, mA, rfl, by rw [upd_ne trA]; exact htA, by rw [upd_ne lrA]; exact s16 _ _ hlA15, by rw [upd_ne mrA]; exact s16 _ _ hmA, ⟨tAp, lAp, mAp⟩, trA, lrA, mrA⟩
      have rok' : RoomOk (ls, ws) := ⟨fun y hy => kn (inU rm rmm).1 y (pmL.mem_iff.mp hy), by show 1 ≤ ls.length; rw [pmL.length_eq, List.length_map]; exact rok.l1, by show ls.length ≤ 4; rw [pmL.length_eq, List.length_map]; exact rok.l4, sortedS_pairwise soL, fun y hy => kn (inU rm rmm).2 y (pmW.mem_iff.mp hy), by show ws.length ≤ 1000; rw [pmW.length_eq, List.length_map]; (first | lia | omega)⟩
      refine ⟨rv.set j (.ref tA), c15, _, _, _, _, rfl, upd_same, by rw [List.length_set]; exact rvl, (laid.to kp16).put πn (by (first | lia | omega)) hj er rn rok' pmL pmW, ?_, by (first | lia | omega), by (first | lia | omega), fun b u n1 n2 e => kp16 b u n1 n2 (kp b u n1 n2 e)⟩
      obtain ⟨o, e, io⟩ := pool_same pl15 s16
      exact ⟨o, by rw [upd_ne (Ne.symm rAp)]; exact e, io⟩
    rintro σ H10 ⟨rv, c10, y3, y4, y8, y9, rfl, hrv, rvl, laid, pl10, u1, u2, kp⟩
    have S10 := up kp
    have hd10 := kp _ _ dp drA hd9
    have hpA10 := kp _ _ pAp pArA hpA9
    have B10 : But p H H10 := fun b u n e => kp b u n (ne_of_none e nrA0) (B09 b u n e)
    have k1 : ∀ x ∈ h.1, x ∈ ks := fun x hx => (ksm x).mpr (.inl (List.mem_append.mpr (.inl hx)))
    have hl1 : h.1.length ≤ 276 := by
      have := nk
      unfold allKeys at this
      rw [List.length_append] at this
      (first | lia | omega)
    dsimp only [tRet, tLst, tTup, tCall, tCons, tNil]
    refine ⟨_, rfl, ?_⟩
    refine lcomp_eq _ _ _ _ _ _ _ _ _ ?_
    refine ⟨_, rfl, t, _, 0, .ref a, rfl, rfl, SqT.of (S10 _ _ ht), rfl, a, rfl, ⟨_, SqL.of (S10 _ _ ha)⟩, ?_⟩
    intro D1 nD1
    refine comp_fun (F := nameV ks vs) (S10 _ _ ha) nD1 (by rw [List.length_map]; (first | lia | omega)) (fun x => rfl) (fun G x R hx sG q => ?_) (fun H11 s11 hD11 => ?_)
    · obtain ⟨z, hz, rfl⟩ := List.mem_map.mp hx
      exact ⟨_, rfl, _, rfl, d, _, rfl, .inl ⟨_, .inr z, Rd.of (sG _ _ hd10), rfl, (zip_val (k1 z hz) vl.symm).symm⟩, q⟩
    rw [nameV_map] at hD11
    have D1p : D1 ≠ p := fun z => by
      obtain ⟨o, e, _⟩ := pl10
      rw [z, e] at nD1; cases nD1
    refine ⟨p, D1, _, c10, rfl, pool_same pl10 s11, D1p, hD11, fun x hx => .inl (by obtain ⟨z, hz, rfl⟩ := List.mem_map.mp hx; exact ⟨z, kn k1 z hz, rfl⟩), by rw [List.length_map, List.length_map]; (first | lia | omega), by (first | lia | omega), by (first | lia | omega), fun mA ys c12 H12 nmA pmM hmA pl12 g5 g6 B12 => ?_⟩
    rw [List.length_map, List.length_map] at g6
    obtain ⟨ws, rfl, pmW⟩ := perm_map_inv pmM.symm rfl
    have B1012 : But p H10 H12 := (but_same s11).trans B12
    refine ⟨_, rfl, by show 2 ≤ sizeLine; decide, fun tA ntA => ?_⟩
    obtain ⟨H13, eH13, htA, s13⟩ := pack_new (o := .tup [.ref mA, .ref rA]) ntA (Same.refl H12)
    rw [← eH13]
    refine ⟨_, rfl, _, rfl, by show 3 ≤ sizeLine; decide, fun LA nLA => ?_⟩
    obtain ⟨H14, eH14, hLA, s34⟩ := pack_new (o := .lst [.ref tA, .ref d, .ref pA]) nLA (Same.refl H13)
    rw [← eH14]
    have s14 := s13.trans s34
    obtain ⟨rs', hR', rl', rok', rp'⟩ := (laid.to fun b u n1 _ e => s14 _ _ (B1012 b u n1 e)).rooms pmπ rvl
    have B14 : But p H H14 := B10.trans (B1012.trans (but_same s14))
    refine k LA d pA (.ref tA) ks vs (ws, rs') π c12 H14 hLA ⟨tA, mA, rA, rv, rfl, ?_, s14 _ _ hmA, s14 _ _ (B1012 _ _ rAp hrv), hR'⟩ (s14 _ _ (B1012 _ _ dp hd10)) (s14 _ _ (B1012 _ _ pAp hpA10)) nd0 npA0 ?_ ?_ ksl vl.symm vk (pool_same pl12 s14) (by (first | lia | omega)) (by (first | lia | omega)) B14
    · exact s34 _ _ htA
    · exact ⟨nameOf_inj vl.symm vn, pmW, k1, pmπ, rl', rp', fun q hq => inU q hq⟩
    · exact ⟨fun y hy => kn k1 y (pmW.mem_iff.mp hy), by show ws.length ≤ 1000; rw [pmW.length_eq, List.length_map]; (first | lia | omega), rok', by show rs'.length ≤ 1000; (first | lia | omega)⟩
end
end K7
set_option Elab.async false
set_option linter.all false
set_option maxRecDepth 100000
set_option maxHeartbeats 4000000
namespace K7
open PySem L2 PyProof.Rows
theorem gN {i : Nat} {x : V} {σ : L2.St} {H : Hp} {k : L2.St → Hp → Prop} (h : k (σ.set i (some x)) H) : gName i x σ H k := h
theorem lc_setN {nl : Nat} {ix : List Nat} {wi : TI} {g : TG} {tf : TT} {te : TE} {i : Nat} {rest : TS} {D : Ends} {σ : L2.St} {H : Hp} (h : wi σ H fun J H1 => ∀ Dd, H1 Dd = none → CompW nl ix g tf te σ J H1 Dd fun y H2 => rest D (σ.set i (some y)) H2) :
    tSeq (tAsg (tLComp nl ix wi g tf te) (gName i)) rest D σ H := h
theorem lc_cb {nl : Nat} {ix : List Nat} {wi : TI} {g : TG} {tf : TT} {te : TE} {r : List V → Hp → VK → Prop} {Q : VK} {σ : L2.St} {H : Hp} (h : wi σ H fun J H1 => ∀ Dd, H1 Dd = none → CompW nl ix g tf te σ J H1 Dd fun y H2 => r [y] H2 Q) :
    tCB r (tCons (tLComp nl ix wi g tf te) tNil) σ H Q := h
theorem lc_sl {nl : Nat} {ix : List Nat} {wi : TI} {g : TG} {tf : TT} {te : TE} {r : V → Option Int → Option Int → Hp → VK → Prop} {tl th : TO} {i : Nat} {rest : TS} {D : Ends} {σ : L2.St} {H : Hp} (h : wi σ H fun J H1 => ∀ Dd, H1 Dd = none → CompW nl ix g tf te σ J H1 Dd fun y H2 => tl σ H2 fun l H3 => th σ H3 fun u H4 => r y l u H4 fun z H5 => rest D (σ.set i (some z)) H5) :
    tSeq (tAsg (tSl r (tLComp nl ix wi g tf te) tl th) (gName i)) rest D σ H := h
theorem kind_a : KindOk "a" := ⟨by decide +kernel, by decide +kernel, by decide +kernel⟩
theorem rep_a (n : Nat) : (List.replicate n [V.str "a"]).flatten = (List.replicate n ("a" : Str)).map V.str := by
  induction n with
  | zero => rfl
  | succ n ih => rw [List.replicate_succ, List.replicate_succ, List.flatten_cons, ih]; rfl
theorem RoomsAt.snoc {H : Hp} {us : List V} {rs : List Rm} {u : V} {q : Rm} (h : RoomsAt H us rs) (hq : RoomAt H u q) : RoomsAt H (us ++ [u]) (rs ++ [q]) := by
  obtain ⟨l, k⟩ := h
  refine ⟨by rw [List.length_append, List.length_append, l]; rfl, fun i v r e1 e2 => ?_⟩
  by_cases hi : i < us.length
  · rw [List.getElem?_append_left hi] at e1
    rw [List.getElem?_append_left (by (first | lia | omega))] at e2
    exact k i v r e1 e2
  · rw [List.getElem?_append_right (by (first | lia | omega))] at e1
    rw [List.getElem?_append_right (by (first | lia | omega))] at e2
    have z : i - us.length = 0 := by
      have := (List.getElem?_eq_some_iff.mp e1).1
      simp at this
      (first | lia | omega)
    rw [z] at e1
    rw [show i - rs.length = 0 by (first | lia | omega)] at e2
    cases e1
    cases e2
    exact hq
def word2 (i : Nat) : Str := ⟨#[97 + i / 26, 97 + i % 26]⟩
def cands : List Str := (["a", "b", "ab", "ba", "q", "zzzz"] : List Str) ++ (List.range 61).map word2
theorem word2_inj {s t : Nat} (h : word2 s = word2 t) : s = t := by
  unfold word2 at h
  injection h with h
  have h0 : (97 + s / 26, 97 + s % 26) = (97 + t / 26, 97 + t % 26) := by
    have := congrArg Array.toList h
    injection this with a b
    injection b with b _
    rw [a, b]
  injection h0 with a b
  (first | lia | omega)
theorem word2_ok {t : Nat} (h : t < 676) : KindOk (word2 t) := by
  refine ⟨by show 1 ≤ 2; decide, by show 2 ≤ 4; decide, fun c hc => ?_⟩
  have hc' : c ∈ [97 + t / 26, 97 + t % 26] := hc
  simp only [List.mem_cons, List.not_mem_nil, or_false] at hc'
  (first | lia | omega)
theorem cands_ok : ∀ x ∈ cands, KindOk x := fun x hx => by
  rcases List.mem_append.mp hx with q | q
  · simp only [List.mem_cons, List.not_mem_nil, or_false] at q
    rcases q with rfl | rfl | rfl | rfl | rfl | rfl <;> exact ⟨by decide +kernel, by decide +kernel, by decide +kernel⟩
  · obtain ⟨i, hi, rfl⟩ := List.mem_map.mp q
    exact word2_ok (by have := List.mem_range.mp hi; (first | lia | omega))
theorem cands_some {ks : List Str} (h : ks.length < 61) : ∃ x t, cands.filter (fun z => decide (z ∉ ks)) = x :: t ∧ x ∉ ks ∧ KindOk x := by
  cases e : cands.filter (fun z => decide (z ∉ ks)) with
  | nil =>
    exfalso
    have all : ∀ i, i < 61 → word2 i ∈ ks := fun i hi => by
      have := List.filter_eq_nil_iff.mp e (word2 i) (List.mem_append.mpr (.inr (List.mem_map_of_mem (List.mem_range.mpr hi))))
      simpa using this
    have nd : ((List.range 61).map word2).Nodup := List.Pairwise.map _ (fun a b (n : a ≠ b) z => n (word2_inj z)) List.nodup_range
    have := nodup_sub_length (U := ks) nd fun x hx => by
      obtain ⟨i, hi, rfl⟩ := List.mem_map.mp hx
      exact all i (List.mem_range.mp hi)
    rw [List.length_map, List.length_range] at this
    (first | lia | omega)
  | cons x t =>
    have m : x ∈ cands.filter (fun z => decide (z ∉ ks)) := by rw [e]; exact List.mem_cons_self
    obtain ⟨m1, m2⟩ := List.mem_filter.mp m
    exact ⟨x, t, rfl, of_decide_eq_true m2, cands_ok x m1⟩
def pbV (ks vs : List Str) : V → Bool
  | .str z => !(valV (zipKV ks vs) (.inr z)).isSome
  | _ => false
theorem pbV_filter {ks vs : List Str} (hl : ks.length = vs.length) : ∀ l : List Str, (l.map V.str).filter (pbV ks vs) = (l.filter fun z => decide (z ∉ ks)).map V.str
  | [] => rfl
  | z :: l => by
    have e : pbV ks vs (.str z) = decide (z ∉ ks) := by
      show (!(valV (zipKV ks vs) (.inr z)).isSome) = _
      by_cases h : z ∈ ks
      · rw [zip_val h hl]; simp [h]
      · rw [zip_none h]; simp [h]
    rw [List.map_cons, List.filter_cons, List.filter_cons, e, pbV_filter hl l]
    split <;> rfl
def placeV (π : List Nat) : V → V
  | .int i => .int (at_ π i.toNat : Nat)
  | v => v
theorem placeV_map (π l : List Nat) : (intsN l).map (placeV π) = intsN (l.map (at_ π)) := by
  unfold intsN
  rw [List.map_map, List.map_map]
  refine List.map_congr_left fun i _ => ?_
  show V.int ((at_ π ((i : Nat) : Int).toNat : Nat) : Int) = _
  rw [Int.toNat_natCast]
  rfl
theorem ints_cast (l : List Nat) : intsN l = (l.map fun i => ((i : Nat) : Int)).map V.int := by
  unfold intsN
  rw [List.map_map]
  rfl
theorem next_sorted (rs : List Rm) (hand : List Str) (order : List Nat) : ((nextOf rs hand order).map fun i => ((i : Nat) : Int)).Pairwise (· ≤ ·) := by
  unfold nextOf
  refine List.Pairwise.map _ (fun x y (h : x < y) => by (first | lia | omega)) (List.Pairwise.filter _ List.pairwise_lt_range)
abbrev st_law : Stmt := sLaw
def spLaw (K : PySem.W.Frag) : Sp := fun vs H Q _ => ∃ (a : Addr) (ns : List Int), vs = [.ref a] ∧ SqL K H a (ns.map V.int) ∧ ns.length ≤ 63 ∧ ∀ H', Q (.bl true) H'
inductive LwI (a : Addr) (H : Hp) (σ' : L2.St) (H' : Hp) : Prop
  | mk (x1 x2 x3 x4 x5 x6 x7 x8 x9 x10 x11 : Option V) : σ' = [some (.ref a), x1, x2, x3, x4, x5, x6, x7, x8, x9, x10, x11] → Same H H' → LwI a H σ' H'
section
variable {P : Program} {w : World} {K : PySem.W.Frag} {mg : Str → Option Value} {base : Heap}
theorem sc_law : FnScope ["script", "k", "pool", "house", "other", "names", "places", "order", "there", "letters", "lost", "wider"] ["script"] (defScope st_law) := ⟨rfl, rfl, rfl, by decide +kernel, rfl, by decide +kernel, by decide +kernel⟩
theorem nd_law_0 : (["room", "places"] : List Str).Nodup := by decide +kernel
theorem nd_law_1 : (["kind", "names"] : List Str).Nodup := by decide +kernel
theorem nd_law_2 : (["k", "letters"] : List Str).Nodup := by decide +kernel
theorem ok_law {f fP fH fA fW fT fO fL fB fN fS : Addr} {fd fdP fdH fdA fdW fdT fdO fdL fdB fdN fdS : FuncData} (F : Fun K "law" "law" sLaw f fd)
    (G__law_pool : FnOk P w K mg base CX0 1 fP fdP ["script", "k"] (spPool K)) (c__law_pool : Cal K mg "_law_pool" ["script", "k"] fP fdP)
    (G__law_house : FnOk P w K mg base CX0 3 fH fdH ["pool", "most"] spDrawn) (c__law_house : Cal K mg "_law_house" ["pool", "most"] fH fdH)
    (G__law_named : FnOk P w K mg base CX0 3 fA fdA ["pool", "house"] spNamed) (c__law_named : Cal K mg "_law_named" ["pool", "house"] fA fdA)
    (G__law_walk : FnOk P w K mg base CX0 8 fW fdW ["pool", "house"] spWalk) (c__law_walk : Cal K mg "_law_walk" ["pool", "house"] fW fdW)
    (G__law_take : FnOk P w K mg base CX0 1 fT fdT ["pool", "many"] spTake) (c__law_take : Cal K mg "_law_take" ["pool", "many"] fT fdT)
    (G_is_house : FnOk P w K mg base CX0 5 fO fdO ["thing"] spHouse) (c_is_house : Cal K mg "is_house" ["thing"] fO fdO)
    (G_is_plain : FnOk P w K mg base CX0 7 fL fdL ["house"] spPlain) (c_is_plain : Cal K mg "is_plain" ["house"] fL fdL)
    (G_keys_behind : FnOk P w K mg base CX0 7 fB fdB ["house", "order"] spKeysB) (c_keys_behind : Cal K mg "keys_behind" ["house", "order"] fB fdB)
    (G_next_rooms : FnOk P w K mg base CX0 7 fN fdN ["house", "order"] spNextR) (c_next_rooms : Cal K mg "next_rooms" ["house", "order"] fN fdN)
    (G_is_stuck : FnOk P w K mg base CX0 8 fS fdS ["house", "order"] spStuck) (c_is_stuck : Cal K mg "is_stuck" ["house", "order"] fS fdS)
    (m_range : mg "range" = none) (m_len : mg "len" = none) (m_min : mg "min" = none) (m_max : mg "max" = none) (m_sorted : mg "sorted" = none) : FnOk P w K mg base CX0 9 f fd ["script"] (spLaw K) := by
  refine F.ok sc_law (fun vs H Q E h => ?_) (fun cdv A outer s H vs Q E hr h => ?_)
  · obtain ⟨a, ns, rfl, _⟩ := h
    rfl
  · obtain ⟨a, ns, rfl, hS, hn, k⟩ := h
    have hu := hu_of hr
    refine ⟨_, (pss_cons (ps_cut (ps_for PassesOwn.never rfl (pi_range1 rfl m_range (pa_cons (pe_callB (call_max2 rfl) rfl m_max (by decide +kernel) (pa_cons pe_int (pa_cons (pe_callB (call_min2 rfl) rfl m_min (by decide +kernel) (pa_cons pe_int (pa_cons (pe_callB call_len_seq rfl m_len PySem.boot_len (pa_cons (pv 0) pa_nil)) pa_nil))) pa_nil))) pa_nil)) (pg_name (i := 1) sc_law.nd rfl (Or.inl rfl))
        (pss_cons (ps_set (i := 2) sc_law.nd rfl (Or.inl rfl) (pe_call G__law_pool (hr.mono (show 1 ≤ 8 by decide)) rfl c__law_pool.mg c__law_pool.kp c__law_pool.b .nil pass0 (pa_cons (pv 0) (pa_cons (pv 1) pa_nil))))
        (pss_cons (ps_set (i := 3) sc_law.nd rfl (Or.inl rfl) (pe_call G__law_house (hr.mono (show 3 ≤ 8 by decide)) rfl c__law_house.mg c__law_house.kp c__law_house.b .nil pass0 (pa_cons (pv 2) (pa_cons pe_int pa_nil))))
        (pss_cons (ps_asg (pe_call G__law_named (hr.mono (show 3 ≤ 8 by decide)) rfl c__law_named.mg c__law_named.kp c__law_named.b .nil pass0 (pa_cons (pv 2) (pa_cons (pv 3) pa_nil))) (pg_lst rfl (pgs_cons (pg_name (i := 4) sc_law.nd rfl (Or.inl rfl)) (pgs_cons (pg_name (i := 5) sc_law.nd rfl (Or.inr rfl)) (pgs_cons (pg_name (i := 6) sc_law.nd rfl (Or.inr rfl)) pgs_nil)))))
        (pss_cons (ps_set (i := 7) sc_law.nd rfl (Or.inl rfl) (pe_call G__law_walk hr rfl c__law_walk.mg c__law_walk.kp c__law_walk.b .nil pass0 (pa_cons (pv 2) (pa_cons (pv 3) pa_nil))))
        (pss_cons (ps_setC (i := 8) (tg := .Name "room" _) (outer := defScope (st_law)) (N := ["script", "k", "pool", "house", "other", "names", "places", "order", "there", "letters", "lost", "wider"]) (N' := ["room", "places"]) (nl := 1) (ix := [6]) sc_law.nd rfl (Or.inl rfl) rfl rfl rfl (pi_list (pv 7))
        (fun C fp s₀ H₀ => (pg_name (i := 0) nd_law_0 rfl (Or.inl rfl) (.inr rfl))) (fun C fp s₀ H₀ => pif_nil)
        (fun C fp s₀ H₀ => (pe_ix (ix_listK (K := K) rfl) (pv 1) (pv 0) (fun _ _ => rfl))))
        (pss_cons (ps_if (PW.pt (pw_or (pt_not (pt_val (pe_call G_is_house (hr.mono (show 5 ≤ 8 by decide)) rfl c_is_house.mg c_is_house.kp c_is_house.b .nil pass0 (pa_cons (pv 4) pa_nil)))) (pw_or1 (pt_cmpR op_ne (pe_call G_is_plain (hr.mono (show 7 ≤ 8 by decide)) rfl c_is_plain.mg c_is_plain.kp c_is_plain.b .nil pass0 (pa_cons (pv 4) pa_nil)) (pe_call G_is_plain (hr.mono (show 7 ≤ 8 by decide)) rfl c_is_plain.mg c_is_plain.kp c_is_plain.b .nil pass0 (pa_cons (pv 3) pa_nil)) (nomark _)))))
          (pss_one (ps_ret pe_bl)) pss_nil)
        (pss_cons (ps_if (pt_cmpR op_neD (pe_call G_keys_behind (hr.mono (show 7 ≤ 8 by decide)) rfl c_keys_behind.mg c_keys_behind.kp c_keys_behind.b .nil pass0 (pa_cons (pv 4) (pa_cons (pv 8) pa_nil))) (pe_callB call_sortedA rfl m_sorted boot_sorted (pa_cons (pe_lc (tg := .Name "kind" _) (outer := defScope (st_law)) (N := ["script", "k", "pool", "house", "other", "names", "places", "order", "there", "letters", "lost", "wider"]) (N' := ["kind", "names"]) (nl := 1) (ix := [5]) rfl rfl rfl (pi_list (pe_call G_keys_behind (hr.mono (show 7 ≤ 8 by decide)) rfl c_keys_behind.mg c_keys_behind.kp c_keys_behind.b .nil pass0 (pa_cons (pv 3) (pa_cons (pv 7) pa_nil))))
        (fun C fp s₀ H₀ => (pg_name (i := 0) nd_law_1 rfl (Or.inl rfl) (.inr rfl))) (fun C fp s₀ H₀ => pif_nil)
        (fun C fp s₀ H₀ => (pe_dget hu (pv 1) (pv 0) (fun _ _ => rfl)))) pa_nil)) (nomark _))
          (pss_one (ps_ret pe_bl)) pss_nil)
        (pss_cons (ps_if (pt_cmpR op_neD (pe_call G_next_rooms (hr.mono (show 7 ≤ 8 by decide)) rfl c_next_rooms.mg c_next_rooms.kp c_next_rooms.b .nil pass0 (pa_cons (pv 4) (pa_cons (pv 8) pa_nil))) (pe_callB call_sorted_int rfl m_sorted boot_sorted (pa_cons (pe_lc (tg := .Name "room" _) (outer := defScope (st_law)) (N := ["script", "k", "pool", "house", "other", "names", "places", "order", "there", "letters", "lost", "wider"]) (N' := ["room", "places"]) (nl := 1) (ix := [6]) rfl rfl rfl (pi_list (pe_call G_next_rooms (hr.mono (show 7 ≤ 8 by decide)) rfl c_next_rooms.mg c_next_rooms.kp c_next_rooms.b .nil pass0 (pa_cons (pv 3) (pa_cons (pv 7) pa_nil))))
        (fun C fp s₀ H₀ => (pg_name (i := 0) nd_law_0 rfl (Or.inl rfl) (.inr rfl))) (fun C fp s₀ H₀ => pif_nil)
        (fun C fp s₀ H₀ => (pe_ix (ix_listK (K := K) rfl) (pv 1) (pv 0) (fun _ _ => rfl)))) pa_nil)) (nomark _))
          (pss_one (ps_ret pe_bl)) pss_nil)
        (pss_cons (ps_if (pt_cmpR op_ne (pe_call G_is_stuck hr rfl c_is_stuck.mg c_is_stuck.kp c_is_stuck.b .nil pass0 (pa_cons (pv 4) (pa_cons (pv 8) pa_nil))) (pe_call G_is_stuck hr rfl c_is_stuck.mg c_is_stuck.kp c_is_stuck.b .nil pass0 (pa_cons (pv 3) (pa_cons (pv 7) pa_nil))) (nomark _))
          (pss_one (ps_ret pe_bl)) pss_nil)
        (pss_cons (ps_set (i := 9) sc_law.nd rfl (Or.inr rfl) pe_str)
        (@pss_cons _ _ _ _ _ (@ps_set _ _ 10 _ _ _ _ sc_law.nd rfl (Or.inl rfl) (@pe_op _ _ _ _ _ _ _ _ op_cat (@pe_lst _ _ _ _ (@pa_c2 _ _ _ _ _ (@pe_str _ _ _ _) (@pa_c2 _ _ _ _ _ (@pe_str _ _ _ _) (@pa_c2 _ _ _ _ _ (@pe_str _ _ _ _) (@pa_c2 _ _ _ _ _ (@pe_str _ _ _ _) (@pa_c2 _ _ _ _ _ (@pe_str _ _ _ _) (@pa_c2 _ _ _ _ _ (@pe_str _ _ _ _) (@pa_nil _) rfl) rfl) rfl) rfl) rfl) rfl)) (pe_lc (tg := .Name "k" _) (outer := defScope (st_law)) (N := ["script", "k", "pool", "house", "other", "names", "places", "order", "there", "letters", "lost", "wider"]) (N' := ["k", "letters"]) (nl := 1) (ix := [9]) rfl rfl rfl (pi_range1 rfl m_range (pa_cons pe_int pa_nil))
        (fun C fp s₀ H₀ => (pg_name (i := 0) nd_law_2 rfl (Or.inl rfl) (.inr rfl))) (fun C fp s₀ H₀ => pif_nil)
        (fun C fp s₀ H₀ => (pe_op op_add_str (pe_ix ix_str (pv 1) (pe_op op_fdiv (pv 0) pe_int) (fun _ _ => rfl)) (pe_ix ix_str (pv 1) (pe_op op_mod (pv 0) pe_int) (fun _ _ => rfl)))))) rfl (by first | exact .inl rfl | exact .inr rfl))
        (pss_cons (ps_set (i := 10) sc_law.nd rfl (Or.inl rfl) (pe_slice sl_list (pe_lc (tg := .Name "kind" _) (outer := defScope (st_law)) (N := ["script", "k", "pool", "house", "other", "names", "places", "order", "there", "letters", "lost", "wider"]) (N' := ["kind", "names"]) (nl := 1) (ix := [5]) rfl rfl rfl (pi_list (pv 10))
        (fun C fp s₀ H₀ => (pg_name (i := 0) nd_law_1 rfl (Or.inl rfl) (.inr rfl))) (fun C fp s₀ H₀ => (pif_one (pt_cmp (pc_dnotin hu (pv 0) (pv 1)))))
        (fun C fp s₀ H₀ => (pv 0))) po_none (po_some pe_int)))
        (pss_cons (ps_set (i := 11) sc_law.nd rfl (Or.inl rfl) (pe_tup (pa_cons (pe_ix ix_tup (pv 3) pe_int (fun _ _ => rfl)) (pa_cons (pe_op op_cat (pe_ix ix_tup (pv 3) pe_int (fun _ _ => rfl)) (pe_lst (pa_cons (pe_tup (pa_cons (pv 10) (pa_cons (pe_op op_rep (pe_lst (pa_cons pe_str pa_nil)) (pe_call G__law_take (hr.mono (show 1 ≤ 8 by decide)) rfl c__law_take.mg c__law_take.kp c__law_take.b .nil pass0 (pa_cons (pv 2) (pa_cons pe_int pa_nil)))) pa_nil))) pa_nil))) pa_nil))))
        (pss_cons (ps_if (pt_cmpR op_neD (pe_call G_next_rooms (hr.mono (show 7 ≤ 8 by decide)) rfl c_next_rooms.mg c_next_rooms.kp c_next_rooms.b .nil pass0 (pa_cons (pv 11) (pa_cons (pv 7) pa_nil))) (pe_call G_next_rooms (hr.mono (show 7 ≤ 8 by decide)) rfl c_next_rooms.mg c_next_rooms.kp c_next_rooms.b .nil pass0 (pa_cons (pv 3) (pa_cons (pv 7) pa_nil))) (nomark _))
          (pss_one (ps_ret pe_bl)) pss_nil)
        (pss_one (ps_if (pt_cmpR op_neD (pe_call G_keys_behind (hr.mono (show 7 ≤ 8 by decide)) rfl c_keys_behind.mg c_keys_behind.kp c_keys_behind.b .nil pass0 (pa_cons (pv 11) (pa_cons (pv 7) pa_nil))) (pe_call G_keys_behind (hr.mono (show 7 ≤ 8 by decide)) rfl c_keys_behind.mg c_keys_behind.kp c_keys_behind.b .nil pass0 (pa_cons (pv 3) (pa_cons (pv 7) pa_nil))) (nomark _))
          (pss_one (ps_ret pe_bl)) pss_nil))))))))))))))))))
      (pss_one (ps_ret pe_bl))), ?_⟩
    refine ⟨fun σ' H' => LwI a H σ' H', ?_, ?_⟩
    · rintro σ H2 ⟨x1, x2, x3, x4, x5, x6, x7, x8, x9, x10, x11, rfl, sm⟩
      exact k _
    have mx : ∃ m : Nat, (if (if ((ns.map V.int).length : Int) < 10 then ((ns.map V.int).length : Int) else 10) > 1 then (if ((ns.map V.int).length : Int) < 10 then ((ns.map V.int).length : Int) else 10) else 1) = (m : Int) ∧ m ≤ 10 := by
      refine ⟨((if (if ((ns.map V.int).length : Int) < 10 then ((ns.map V.int).length : Int) else 10) > 1 then (if ((ns.map V.int).length : Int) < 10 then ((ns.map V.int).length : Int) else 10) else 1) : Int).toNat, ?_, ?_⟩ <;> split <;> split <;> (first | lia | omega)
    obtain ⟨m, em, hm⟩ := mx
    refine ⟨_, rfl, a, _, rfl, .inl hS, 10, _, rfl, 1, _, rfl, (m : Int), congrArg (fun z => [V.int z]) em, by (first | lia | omega), by (first | lia | omega), ?_⟩
    rw [Int.toNat_natCast]
    refine for_range (fun i σ' H' => LwI a H σ' H') ⟨none, none, none, none, none, none, none, none, none, none, none, rfl, Same.refl H⟩ ?_ ?_
    rotate_left
    · intro σ' H' h; exact h
    rintro i σ H2 hi ⟨x1, x2, x3, x4, x5, x6, x7, x8, x9, x10, x11, rfl, sm⟩
    refine ⟨_, rfl, _, rfl, a, i, ns, congrArg (fun z => [V.ref a, V.int z]) (show (0 + (i : Int)) = (i : Int) by (first | lia | omega)), sm.seq hS, by (first | lia | omega), hn, fun p c o np hpo c0 c1 => ?_⟩
    have s2 : Same H2 (upd H2 p o) := same_new np
    refine ⟨_, rfl, p, 30, c, rfl, ⟨o, upd_same, hpo⟩, by decide, c0, by (first | lia | omega), fun v h c4 H4 hh ok few len nk pl4 g1 g2 b4 => ?_⟩
    have s4 : Same H2 H4 := fun b u e => b4 b u (ne_of_none e np) (s2 b u e)
    have back : ∀ {H' : Hp}, But p H4 H' → Same H H' := fun {H'} B b u e => B b u (ne_of_none (sm b u e) np) (s4 b u (sm b u e))
    refine ⟨_, rfl, _, rfl, p, v, h, c4, rfl, pl4, hh, ok, few, by (first | lia | omega), nk, by (first | lia | omega), by (first | lia | omega), fun L d pA vO ks vs h' π c5 H5 hL hO hd hpA nd npA an ok' ksl kvl vk pl5 g3 g4 B5 => ?_⟩
    have n4 : ∀ {b : Addr}, H4 b = none → b ≠ p := fun {b} n z => by
      obtain ⟨o, e, _⟩ := pl4
      rw [z, e] at n; cases n
    refine ⟨L, _, rfl, SqL.of hL, rfl, _, _, rfl, _, _, rfl, _, _, rfl, rfl, ?_⟩
    refine ⟨_, rfl, _, rfl, p, v, h, c5, rfl, pl5, hh.but pl4 B5, ok, by (first | lia | omega), by (first | lia | omega), by (first | lia | omega), fun oA order c6 H6 noA hoA hg hol pl6 g5 g6 B6 => ?_⟩
    have B46 := B5.trans B6
    have hh6 := hh.but pl4 B46
    have hO6 := hO.but pl5 B6
    have hd6 := B6 _ _ (n4 nd) hd
    have hpA6 := B6 _ _ (n4 npA) hpA
    have πl := an.plen
    have oLt := hg.lt
    have gO := an.gone hg
    have gol : (order.map (at_ π)).length ≤ 200 := by rw [List.length_map]; (first | lia | omega)
    refine gN ?_
    dsimp only
    refine lc_setN ?_
    refine ⟨_, rfl, oA, rfl, ⟨_, SqL.of hoA⟩, ?_⟩
    intro D nD
    refine comp_fun (F := placeV π) hoA nD (by rw [List.length_map]; (first | lia | omega)) (fun x => rfl) (fun G x R hx sG q => ?_) (fun H7 s7 hD7 => ?_)
    · obtain ⟨z, hz, rfl⟩ := List.mem_map.mp hx
      exact ⟨_, rfl, _, rfl, pA, _, ((z : Nat) : Int), _, rfl, rfl, SqL.of (sG _ _ hpA6), atI_nat (by rw [List.getElem?_map, at_get (by rw [πl]; exact oLt z hz)]; rfl), q⟩
    rw [placeV_map] at hD7
    have hO7 := hO6.same s7
    have hh7 := hh6.same s7
    have hd7 := s7 _ _ hd6
    have hpA7 := s7 _ _ hpA6
    have hoA7 := s7 _ _ hoA
    obtain ⟨pmH, inH⟩ := an.hand oLt an.keys an.ku
    have hK : ∀ y ∈ handOf h.1 h.2 order, KindOk y := hand_kinds (fun r hr => (ok.rs r hr).kk) order h.1 ok.kk
    have hK' : ∀ y ∈ handOf h'.1 h'.2 (order.map (at_ π)), KindOk y := hand_kinds (fun r hr => (ok'.rs r hr).kk) _ h'.1 ok'.kk
    have hF := hand_few ok (order := order) (by (first | lia | omega))
    have nxl : (nextOf h.2 (handOf h.1 h.2 order) order).length ≤ 30 := Nat.le_trans (List.length_filter_le _ _) (by rw [List.length_range]; exact len)
    refine ⟨_, rfl, vO, h', rfl, hO7, ok', fun H8 s8 => ⟨true, rfl, iteF ?_⟩⟩
    refine ⟨_, rfl, vO, h', rfl, hO7.same s8, ok', fun H9 s9 => ⟨_, rfl, v, h, rfl, (hh7.same s8).same s9, ok, fun H10 s10 => ⟨rfl, false, by simp [an.plain], iteF ?_⟩⟩⟩
    have s710 := s8.trans (s9.trans s10)
    refine ⟨_, rfl, _, rfl, vO, D, h', order.map (at_ π), rfl, hO7.same s710, ok', s710 _ _ hD7, gO, gol, fun l1 ss1 H11 s11 nl1 pm1 so1 hl1 => ?_⟩
    refine lc_cb ?_
    have s711 := s710.trans s11
    refine ⟨_, rfl, _, rfl, v, oA, h, order, rfl, hh7.same s711, ok, s711 _ _ hoA7, hg, by (first | lia | omega), fun l2 ss2 H12 s12 nl2 pm2 so2 hl2 => ⟨l2, rfl, ⟨_, SqL.of hl2⟩, ?_⟩⟩
    have s712 := s711.trans s12
    intro D3 nD3
    have in2 : ∀ x ∈ ss2, x ∈ ks := fun x hx => inH x (pm2.mem_iff.mp hx)
    refine comp_fun (F := nameV ks vs) hl2 nD3 (by rw [List.length_map, pm2.length_eq]; (first | lia | omega)) (fun x => rfl) (fun G x R hx sG q => ?_) (fun H13 s13 hD13 => ?_)
    · obtain ⟨z, hz, rfl⟩ := List.mem_map.mp hx
      exact ⟨_, rfl, _, rfl, d, _, rfl, .inl ⟨_, .inr z, Rd.of (sG _ _ (s712 _ _ hd7)), rfl, (zip_val (in2 z hz) kvl).symm⟩, q⟩
    rw [nameV_map] at hD13
    have s713 := s712.trans s13
    refine ⟨D3, _, rfl, SqL.of hD13, Nat.le_trans (show _ ≤ 201000 by rw [List.length_map, pm2.length_eq]; exact hF) (by decide), fun l3 ss3 nl3 pm3 so3 => ?_⟩
    have e3 : ss3 = ss1 := sorted_one (sortedS_pairwise so3) so1 (pm3.trans ((pm2.map _).trans (pmH.symm.trans pm1.symm)))
    subst e3
    obtain ⟨H14, eH14, hl3, s14⟩ := pack_new (o := .lst (ss3.map V.str)) nl3 (s12.trans s13)
    rw [← eH14]
    have s714 := s711.trans s14
    refine neD_strs (s14 _ _ hl1) hl3 (fun y hy => hK' y (pm1.mem_iff.mp hy)) hu ⟨false, rfl, iteF ?_⟩
    refine ⟨_, rfl, _, rfl, vO, D, h', order.map (at_ π), rfl, hO7.same s714, ok', s714 _ _ hD7, gO, gol, fun l4 H15 s15 nl4 hl4 => ?_⟩
    refine lc_cb ?_
    have s715 := s714.trans s15
    refine ⟨_, rfl, _, rfl, v, oA, h, order, rfl, hh7.same s715, ok, s715 _ _ hoA7, hg, by (first | lia | omega), fun l5 H16 s16 nl5 hl5 => ⟨l5, rfl, ⟨_, SqL.of hl5⟩, ?_⟩⟩
    have s716 := s715.trans s16
    intro D6 nD6
    refine comp_fun (F := placeV π) hl5 nD6 (by rw [List.length_map]; (first | lia | omega)) (fun x => rfl) (fun G x R hx sG q => ?_) (fun H17 s17 hD17 => ?_)
    · obtain ⟨z, hz, rfl⟩ := List.mem_map.mp hx
      have hzl : z < h.2.length := by
        unfold nextOf at hz
        exact List.mem_range.mp (List.mem_filter.mp hz).1
      exact ⟨_, rfl, _, rfl, pA, _, ((z : Nat) : Int), _, rfl, rfl, SqL.of (sG _ _ (s716 _ _ hpA7)), atI_nat (by rw [List.getElem?_map, at_get (by rw [πl]; exact hzl)]; rfl), q⟩
    rw [placeV_map, ints_cast] at hD17
    have s717 := s716.trans s17
    refine ⟨D6, _, rfl, SqL.of hD17, by rw [List.length_map, List.length_map]; (first | lia | omega), fun l7 ns7 nl7 pm7 so7 => ?_⟩
    have e7 : ns7 = (nextOf h'.2 (handOf h'.1 h'.2 (order.map (at_ π))) (order.map (at_ π))).map fun i => ((i : Nat) : Int) := sorted_ints_one so7 (next_sorted _ _ _) (pm7.trans ((an.next hg).symm.map _))
    subst e7
    rw [← ints_cast]
    obtain ⟨H18, eH18, hl7, s18⟩ := pack_new (o := .lst (intsN (nextOf h'.2 (handOf h'.1 h'.2 (order.map (at_ π))) (order.map (at_ π))))) nl7 (s16.trans s17)
    rw [← eH18]
    have s718 := s715.trans s18
    refine neD_ints (s18 _ _ hl4) hl7 hu ⟨false, rfl, iteF ?_⟩
    refine ⟨_, rfl, _, rfl, vO, D, h', order.map (at_ π), rfl, hO7.same s718, ok', s718 _ _ hD7, gO, gol, fun H19 s19 => ?_⟩
    have s719 := s718.trans s19
    refine ⟨_, rfl, _, rfl, v, oA, h, order, rfl, hh7.same s719, ok, s719 _ _ hoA7, hg, by (first | lia | omega), fun H20 s20 => ⟨rfl, false, ?_, iteF ?_⟩⟩
    · have e9 : (nextOf h'.2 (handOf h'.1 h'.2 (order.map (at_ π))) (order.map (at_ π))).isEmpty = (nextOf h.2 (handOf h.1 h.2 order) order).isEmpty := by
        have := (an.next hg).length_eq
        rw [List.length_map] at this
        rw [Bool.eq_iff_iff, List.isEmpty_iff_length_eq_zero, List.isEmpty_iff_length_eq_zero, this]
      rw [e9]
      simp
    have s720 := s719.trans s20
    have hh20 := hh7.same s720
    have hd20 := s720 _ _ hd7
    have hoA20 := s720 _ _ hoA7
    have pl20 := pool_same (pool_same pl6 s7) s720
    have B20 : But p H4 H20 := B46.trans (but_same (s7.trans s720))
    refine ⟨by show 6 ≤ sizeLine; decide, fun e0 ne0 => ?_⟩
    obtain ⟨H21, eH21, he0, s21⟩ := pack_new (o := .lst ((["a", "b", "ab", "ba", "q", "zzzz"] : List Str).map V.str)) ne0 (Same.refl H20)
    refine lcomp_eq _ _ _ _ _ _ _ _ _ ?_
    refine ⟨61, rfl, by decide, by decide, ?_⟩
    rw [show upd H20 e0 (.lst [.str "a", .str "b", .str "ab", .str "ba", .str "q", .str "zzzz"]) = H21 from eH21.symm]
    intro D1 nD1
    refine comp_funR (n := 61) (F := fun i => V.str (word2 i)) nD1 (by decide) (fun x => rfl) (fun G i R hi sG q => ?_) (fun H22 s22 hD22 => ?_)
    · refine ⟨_, rfl, _, rfl, _, 26, rfl, rfl, ⟨by decide, by decide⟩, lettersS, _, 97 + i / 26, rfl, rfl, letters_len, ?_, ?_⟩
      · rw [show ((0 + (i : Int)) / 26) = ((i / 26 : Nat) : Int) from by (first | lia | omega)]
        exact letters_at _ (by (first | lia | omega))
      refine ⟨_, rfl, _, rfl, _, 26, rfl, rfl, (by show (0 : Int) < 26; decide), lettersS, _, 97 + i % 26, rfl, rfl, letters_len, ?_, ?_⟩
      · rw [show ((0 + (i : Int)) % 26) = ((i % 26 : Nat) : Int) from by (first | lia | omega)]
        exact letters_at _ (by (first | lia | omega))
      exact ⟨_, _, rfl, rfl, by show 1 + 1 ≤ sizeLine; decide, q⟩
    refine ⟨e0, D1, _, _, rfl, rfl, s22 _ _ he0, hD22, by rw [List.length_map, List.length_map, List.length_range]; show 6 + 61 ≤ sizeLine; decide, fun C nC => ?_⟩
    obtain ⟨H23, eH23, hC, s23⟩ := pack_new (o := .lst (cands.map V.str)) nC (s21.trans s22)
    rw [show upd H22 C (.lst ((["a", "b", "ab", "ba", "q", "zzzz"] : List Str).map V.str ++ (List.range 61).map fun i => V.str (word2 i))) = H23 from by
      rw [eH23]
      unfold cands
      rw [List.map_append, List.map_map]
      rfl]
    refine gN ?_
    dsimp only
    refine lc_sl ?_
    refine ⟨_, rfl, C, rfl, ⟨_, SqL.of hC⟩, ?_⟩
    intro D2 nD2
    have hd23 := s23 _ _ hd20
    refine comp_filter (pb := pbV ks vs) hC nD2 (by rw [List.length_map]; decide) (fun x => rfl) (fun G x R hx sG q => ?_) (fun G x R q => ⟨_, rfl, q⟩) (fun H24 s24 hD24 => ?_)
    · obtain ⟨z, hz, rfl⟩ := List.mem_map.mp hx
      exact ⟨_, rfl, _, rfl, d, _, rfl, .inl ⟨_, .inr z, Rd.of (sG _ _ hd23), rfl, rfl⟩, _, rfl, q⟩
    rw [pbV_filter kvl] at hD24
    obtain ⟨x, tl, ex, xn, xk⟩ := cands_some ksl
    rw [ex] at hD24
    refine ⟨1, rfl, D2, _, rfl, SqL.of hD24, fun lA nlA => ?_⟩
    rw [show cutV ((x :: tl).map V.str) none (some 1) = [V.str x] from cut_to (k := 1) (by simp)]
    obtain ⟨H25, eH25, hlA, s25⟩ := pack_new (o := .lst [V.str x]) nlA (s23.trans s24)
    rw [← eH25]
    have pl25 := pool_same pl20 s25
    have B25 := B20.trans (but_same s25)
    obtain ⟨t, aK, r, us, rfl, ht, hk, hrr, hR⟩ := (hh20.same s25).but pl25 but_hid1
    have lAp : lA ≠ p := fun z => by
      obtain ⟨o, e, _⟩ := pool_same pl20 (s23.trans s24)
      rw [z, e] at nlA; cases nlA
    have S25 : Same (hid1 p H25) H25 := hid1_but (But.refl _ _)
    obtain ⟨o25, hp25, io25⟩ := pl25
    refine ⟨_, rfl, t, _, 0, .ref aK, rfl, rfl, SqT.of (S25 _ _ ht), rfl, _, rfl, t, _, 1, .ref r, rfl, rfl, SqT.of (S25 _ _ ht), rfl, _, rfl, by show 1 ≤ sizeLine; decide, fun l1 n1 => ?_⟩
    obtain ⟨H26, eH26, hl1, s26⟩ := pack_new (o := .lst [V.str "a"]) n1 (Same.refl H25)
    have l1p : l1 ≠ p := fun z => by rw [z, hp25] at n1; cases n1
    refine ⟨_, rfl, p, 4, c6, o25, rfl, by rw [show upd H25 l1 _ = H26 from eH26.symm]; exact s26 _ _ hp25, io25, by decide, by decide, by (first | lia | omega), by (first | lia | omega), fun q c7 o7 q0 q1 g7 g8 io7 => ?_⟩
    rw [show upd H25 l1 _ = H26 from eH26.symm]
    obtain ⟨m', rfl⟩ : ∃ n : Nat, q = (n : Int) := ⟨q.toNat, by (first | lia | omega)⟩
    have B27 : But p H25 (upd H26 p o7) := (but_same s26).trans But.upd
    have hl27 : (upd H26 p o7) l1 = some (.lst [V.str "a"]) := by rw [upd_ne l1p]; exact hl1
    generalize upd H26 p o7 = H27 at *
    refine ⟨l1, _, _, rfl, rfl, hl27, by (first | lia | omega), by (first | lia | omega), Nat.le_trans (show 1 * ((m' : Nat) : Int).toNat ≤ 60 by (first | lia | omega)) (by decide), fun l2 n2 => ?_⟩
    rw [Int.toNat_natCast, rep_a]
    obtain ⟨H28, eH28, hl2, s28⟩ := pack_new (o := .lst ((List.replicate m' ("a" : Str)).map V.str)) n2 (Same.refl H27)
    rw [← eH28]
    refine ⟨by show 2 ≤ sizeLine; decide, fun t3 n3 => ?_⟩
    obtain ⟨H29, eH29, ht3, s29⟩ := pack_new (o := .tup [V.ref lA, .ref l2]) n3 (Same.refl H28)
    rw [← eH29]
    refine ⟨by show 1 ≤ sizeLine; decide, fun l4 n4 => ?_⟩
    obtain ⟨H30, eH30, hl4', s30⟩ := pack_new (o := .lst [V.ref t3]) n4 (Same.refl H29)
    rw [← eH30]
    have s2730 := s28.trans (s29.trans s30)
    have S30 : Same (hid1 p H25) H30 := (hid1_but B27).trans s2730
    have ul := hR.1
    refine ⟨r, l4, us, [.ref t3], rfl, rfl, S30 _ _ hrr, hl4', Nat.le_trans (show us.length + 1 ≤ 60 by (first | lia | omega)) (by decide), fun l5 n5 => ?_⟩
    obtain ⟨H31, eH31, hl5', s31⟩ := pack_new (o := .lst (us ++ [V.ref t3])) n5 (Same.refl H30)
    rw [← eH31]
    refine ⟨by show 2 ≤ sizeLine; decide, fun t6 n6 => ?_⟩
    obtain ⟨H32, eH32, ht6, s32⟩ := pack_new (o := .tup [V.ref aK, .ref l5]) n6 (Same.refl H31)
    rw [← eH32]
    have s3032 := s31.trans s32
    have S32 := S30.trans s3032
    have hR32 := (hR.same S32)
    have hW : HouseAt H32 (.ref t6) (h.1, h.2 ++ [([x], List.replicate m' ("a" : Str))]) := ⟨t6, aK, l5, _, rfl, ht6, S32 _ _ hk, s32 _ _ hl5', hR32.snoc ⟨t3, lA, l2, rfl, s3032 _ _ (s30 _ _ ht3), s3032 _ _ (s2730 _ _ (B27 _ _ lAp hlA)), s3032 _ _ (s30 _ _ (s29 _ _ hl2))⟩⟩
    have okW : HouseOk (h.1, h.2 ++ [([x], List.replicate m' ("a" : Str))]) := ⟨ok.kk, ok.kl, fun r hr => by
      rcases List.mem_append.mp hr with z | z
      · exact ok.rs r z
      · rw [List.mem_singleton.mp z]
        exact ⟨fun y hy => by rw [List.mem_singleton.mp hy]; exact xk, Nat.le_refl _, by show 1 ≤ 4; decide, List.pairwise_singleton _ _, fun y hy => by rw [(List.mem_replicate.mp hy).2]; exact kind_a, by show (List.replicate m' _).length ≤ 1000; rw [List.length_replicate]; (first | lia | omega)⟩, by show (h.2 ++ _).length ≤ 1000; rw [List.length_append]; show h.2.length + 1 ≤ 1000; (first | lia | omega)⟩
    have hh32 : HouseAt H32 (.ref t) h := ⟨t, aK, r, us, rfl, S32 _ _ ht, S32 _ _ hk, S32 _ _ hrr, hR32⟩
    have oAp : oA ≠ p := fun z => by
      obtain ⟨o, e, _⟩ := pl5
      rw [z, e] at noA; cases noA
    have hoA32 := s3032 _ _ (s2730 _ _ (B27 _ _ oAp (s25 _ _ hoA20)))
    have gW : Gone h.1 (h.2 ++ [([x], List.replicate m' ("a" : Str))]) order := hg.wide
    have eW : handOf h.1 (h.2 ++ [([x], List.replicate m' ("a" : Str))]) order = handOf h.1 h.2 order := hand_wide oLt
    have xh : x ∉ handOf h.1 h.2 order := fun z => xn (inH x z)
    have B32 : But p H4 H32 := B25.trans (B27.trans (but_same (s2730.trans s3032)))
    refine ⟨_, rfl, _, rfl, .ref t6, oA, _, order, rfl, hW, okW, hoA32, gW, by (first | lia | omega), fun l7 H33 s33 nl7 hl7 => ⟨_, rfl, _, rfl, .ref t, oA, h, order, rfl, hh32.same s33, ok, s33 _ _ hoA32, hg, by (first | lia | omega), fun l8 H34 s34 nl8 hl8 => ?_⟩⟩
    dsimp only at hl7
    rw [eW, next_wide xh] at hl7
    refine neD_ints (s34 _ _ hl7) hl8 hu ⟨false, rfl, iteF ?_⟩
    have s3234 := s33.trans s34
    refine ⟨_, rfl, _, rfl, .ref t6, oA, _, order, rfl, hW.same s3234, okW, s3234 _ _ hoA32, gW, by (first | lia | omega), fun l9 ss9 H35 s35 nl9 pm9 so9 hl9 => ⟨_, rfl, _, rfl, .ref t, oA, h, order, rfl, (hh32.same s3234).same s35, ok, s35 _ _ (s3234 _ _ hoA32), hg, by (first | lia | omega), fun l10 ss10 H36 s36 nl10 pm10 so10 hl10 => ?_⟩⟩
    dsimp only at pm9
    rw [eW] at pm9
    have e9 : ss9 = ss10 := sorted_one so9 so10 (pm9.trans pm10.symm)
    subst e9
    refine neD_strs (s36 _ _ hl9) hl10 (fun y hy => hK y (pm9.mem_iff.mp hy)) hu ⟨false, rfl, iteF ?_⟩
    exact ⟨_, _, _, _, _, _, _, _, _, _, _, rfl, back (B32.trans (but_same (s3234.trans (s35.trans s36))))⟩
end
end K7
set_option Elab.async false
set_option linter.all false
set_option maxRecDepth 100000
set_option maxHeartbeats 4000000
namespace K7
open PySem L2 PyProof.Rows
theorem all_mk {l : PySem.W.OpenLaw} {w : World} {K : PySem.W.Frag} {h : Heap} {mg : Str → Option Value} {fa f1 f2 f3 f4 f5 f6 f7 f8 f9 f10 f11 f12 f13 f14 f15 f16 f17 f18 f19 f20 f21 f22 f23 f24 : Addr} (X : K.In h) (G : h.Ns mainGlobals mg) (hfa : mg "law" = some (.ref fa))
    {od1 an1 od2 an2 od3 an3 od4 an4 od5 an5 od6 an6 od7 an7 od8 an8 od9 an9 od10 an10 od11 an11 od12 an12 od13 an13 od14 an14 od15 an15 od16 an16 od17 an17 od18 an18 od19 an19 od20 an20 od21 an21 od22 an22 od23 an23 od24 an24 : Option Addr} {sl1 sl2 sl3 sl4 sl5 sl6 sl7 sl8 sl9 sl10 sl11 sl12 sl13 sl14 sl15 sl16 sl17 sl18 sl19 sl20 sl21 sl22 sl23 sl24 : Array (Option Value)} {oc1 kV1 dc1 pm1 cd1 ct1 oc2 kV2 dc2 pm2 cd2 ct2 oc3 kV3 dc3 pm3 cd3 ct3 oc4 kV4 dc4 pm4 cd4 ct4 oc5 kV5 dc5 pm5 cd5 ct5 oc6 kV6 dc6 pm6 cd6 ct6 oc7 kV7 dc7 pm7 cd7 ct7 oc8 kV8 dc8 pm8 cd8 ct8 oc9 kV9 dc9 pm9 cd9 ct9 oc10 kV10 dc10 pm10 cd10 ct10 oc11 kV11 dc11 pm11 cd11 ct11 oc12 kV12 dc12 pm12 cd12 ct12 oc13 kV13 dc13 pm13 cd13 ct13 oc14 kV14 dc14 pm14 cd14 ct14 oc15 kV15 dc15 pm15 cd15 ct15 oc16 kV16 dc16 pm16 cd16 ct16 oc17 kV17 dc17 pm17 cd17 ct17 oc18 kV18 dc18 pm18 cd18 ct18 oc19 kV19 dc19 pm19 cd19 ct19 oc20 kV20 dc20 pm20 cd20 ct20 oc21 kV21 dc21 pm21 cd21 ct21 oc22 kV22 dc22 pm22 cd22 ct22 oc23 kV23 dc23 pm23 cd23 ct23 oc24 kV24 dc24 pm24 cd24 ct24 : Value} {t_LETTERS t_MOST_LETTERS t_MOST_LOCKS : Tok}
    (a1 : PySem.W.nsIn K mainGlobals "is_whole" = some (some (.ref f1))) (l1 : K.lookup f1 = some ⟨oc1, od1, .func (PySem.W.fnOf "is_whole" "is_whole" (defArgs st_is_whole) (defBody st_is_whole) (defScope st_is_whole) .none kV1 dc1 pm1 an1 cd1 ct1), sl1⟩) (c1 : PySem.W.codeIn K cd1 "is_whole" = true) (k1 : PySem.W.keepIn K (.ref f1) = true)
    (a2 : PySem.W.nsIn K mainGlobals "is_kind" = some (some (.ref f2))) (l2 : K.lookup f2 = some ⟨oc2, od2, .func (PySem.W.fnOf "is_kind" "is_kind" (defArgs sKind) (defBody sKind) (defScope sKind) .none kV2 dc2 pm2 an2 cd2 ct2), sl2⟩) (c2 : PySem.W.codeIn K cd2 "is_kind" = true) (k2 : PySem.W.keepIn K (.ref f2) = true)
    (a3 : PySem.W.nsIn K mainGlobals "are_kinds" = some (some (.ref f3))) (l3 : K.lookup f3 = some ⟨oc3, od3, .func (PySem.W.fnOf "are_kinds" "are_kinds" (defArgs sKinds) (defBody sKinds) (defScope sKinds) .none kV3 dc3 pm3 an3 cd3 ct3), sl3⟩) (c3 : PySem.W.codeIn K cd3 "are_kinds" = true) (k3 : PySem.W.keepIn K (.ref f3) = true)
    (a4 : PySem.W.nsIn K mainGlobals "are_locks" = some (some (.ref f4))) (l4 : K.lookup f4 = some ⟨oc4, od4, .func (PySem.W.fnOf "are_locks" "are_locks" (defArgs sLocks) (defBody sLocks) (defScope sLocks) .none kV4 dc4 pm4 an4 cd4 ct4), sl4⟩) (c4 : PySem.W.codeIn K cd4 "are_locks" = true) (k4 : PySem.W.keepIn K (.ref f4) = true)
    (a5 : PySem.W.nsIn K mainGlobals "is_room" = some (some (.ref f5))) (l5 : K.lookup f5 = some ⟨oc5, od5, .func (PySem.W.fnOf "is_room" "is_room" (defArgs sRoom) (defBody sRoom) (defScope sRoom) .none kV5 dc5 pm5 an5 cd5 ct5), sl5⟩) (c5 : PySem.W.codeIn K cd5 "is_room" = true) (k5 : PySem.W.keepIn K (.ref f5) = true)
    (a6 : PySem.W.nsIn K mainGlobals "is_house" = some (some (.ref f6))) (l6 : K.lookup f6 = some ⟨oc6, od6, .func (PySem.W.fnOf "is_house" "is_house" (defArgs sHouse) (defBody sHouse) (defScope sHouse) .none kV6 dc6 pm6 an6 cd6 ct6), sl6⟩) (c6 : PySem.W.codeIn K cd6 "is_house" = true) (k6 : PySem.W.keepIn K (.ref f6) = true)
    (a7 : PySem.W.nsIn K mainGlobals "require_house" = some (some (.ref f7))) (l7 : K.lookup f7 = some ⟨oc7, od7, .func (PySem.W.fnOf "require_house" "require_house" (defArgs sReq) (defBody sReq) (defScope sReq) .none kV7 dc7 pm7 an7 cd7 ct7), sl7⟩) (c7 : PySem.W.codeIn K cd7 "require_house" = true) (k7 : PySem.W.keepIn K (.ref f7) = true)
    (a8 : PySem.W.nsIn K mainGlobals "is_plain" = some (some (.ref f8))) (l8 : K.lookup f8 = some ⟨oc8, od8, .func (PySem.W.fnOf "is_plain" "is_plain" (defArgs st_is_plain) (defBody st_is_plain) (defScope st_is_plain) .none kV8 dc8 pm8 an8 cd8 ct8), sl8⟩) (c8 : PySem.W.codeIn K cd8 "is_plain" = true) (k8 : PySem.W.keepIn K (.ref f8) = true)
    (a9 : PySem.W.nsIn K mainGlobals "serves" = some (some (.ref f9))) (l9 : K.lookup f9 = some ⟨oc9, od9, .func (PySem.W.fnOf "serves" "serves" (defArgs st_serves) (defBody st_serves) (defScope st_serves) .none kV9 dc9 pm9 an9 cd9 ct9), sl9⟩) (c9 : PySem.W.codeIn K cd9 "serves" = true) (k9 : PySem.W.keepIn K (.ref f9) = true)
    (a10 : PySem.W.nsIn K mainGlobals "hand_behind" = some (some (.ref f10))) (l10 : K.lookup f10 = some ⟨oc10, od10, .func (PySem.W.fnOf "hand_behind" "hand_behind" (defArgs st_hand_behind) (defBody st_hand_behind) (defScope st_hand_behind) .none kV10 dc10 pm10 an10 cd10 ct10), sl10⟩) (c10 : PySem.W.codeIn K cd10 "hand_behind" = true) (k10 : PySem.W.keepIn K (.ref f10) = true)
    (a11 : PySem.W.nsIn K mainGlobals "is_step" = some (some (.ref f11))) (l11 : K.lookup f11 = some ⟨oc11, od11, .func (PySem.W.fnOf "is_step" "is_step" (defArgs st_is_step) (defBody st_is_step) (defScope st_is_step) .none kV11 dc11 pm11 an11 cd11 ct11), sl11⟩) (c11 : PySem.W.codeIn K cd11 "is_step" = true) (k11 : PySem.W.keepIn K (.ref f11) = true)
    (a12 : PySem.W.nsIn K mainGlobals "hand_after" = some (some (.ref f12))) (l12 : K.lookup f12 = some ⟨oc12, od12, .func (PySem.W.fnOf "hand_after" "hand_after" (defArgs st_hand_after) (defBody st_hand_after) (defScope st_hand_after) .none kV12 dc12 pm12 an12 cd12 ct12), sl12⟩) (c12 : PySem.W.codeIn K cd12 "hand_after" = true) (k12 : PySem.W.keepIn K (.ref f12) = true)
    (a13 : PySem.W.nsIn K mainGlobals "keys_behind" = some (some (.ref f13))) (l13 : K.lookup f13 = some ⟨oc13, od13, .func (PySem.W.fnOf "keys_behind" "keys_behind" (defArgs st_keys_behind) (defBody st_keys_behind) (defScope st_keys_behind) .none kV13 dc13 pm13 an13 cd13 ct13), sl13⟩) (c13 : PySem.W.codeIn K cd13 "keys_behind" = true) (k13 : PySem.W.keepIn K (.ref f13) = true)
    (a14 : PySem.W.nsIn K mainGlobals "next_rooms" = some (some (.ref f14))) (l14 : K.lookup f14 = some ⟨oc14, od14, .func (PySem.W.fnOf "next_rooms" "next_rooms" (defArgs st_next_rooms) (defBody st_next_rooms) (defScope st_next_rooms) .none kV14 dc14 pm14 an14 cd14 ct14), sl14⟩) (c14 : PySem.W.codeIn K cd14 "next_rooms" = true) (k14 : PySem.W.keepIn K (.ref f14) = true)
    (a15 : PySem.W.nsIn K mainGlobals "is_stuck" = some (some (.ref f15))) (l15 : K.lookup f15 = some ⟨oc15, od15, .func (PySem.W.fnOf "is_stuck" "is_stuck" (defArgs st_is_stuck) (defBody st_is_stuck) (defScope st_is_stuck) .none kV15 dc15 pm15 an15 cd15 ct15), sl15⟩) (c15 : PySem.W.codeIn K cd15 "is_stuck" = true) (k15 : PySem.W.keepIn K (.ref f15) = true)
    (a16 : PySem.W.nsIn K mainGlobals "_law_pool" = some (some (.ref f16))) (l16 : K.lookup f16 = some ⟨oc16, od16, .func (PySem.W.fnOf "_law_pool" "_law_pool" (defArgs sPool) (defBody sPool) (defScope sPool) .none kV16 dc16 pm16 an16 cd16 ct16), sl16⟩) (c16 : PySem.W.codeIn K cd16 "_law_pool" = true) (k16 : PySem.W.keepIn K (.ref f16) = true)
    (a17 : PySem.W.nsIn K mainGlobals "_law_take" = some (some (.ref f17))) (l17 : K.lookup f17 = some ⟨oc17, od17, .func (PySem.W.fnOf "_law_take" "_law_take" (defArgs sTake) (defBody sTake) (defScope sTake) .none kV17 dc17 pm17 an17 cd17 ct17), sl17⟩) (c17 : PySem.W.codeIn K cd17 "_law_take" = true) (k17 : PySem.W.keepIn K (.ref f17) = true)
    (a18 : PySem.W.nsIn K mainGlobals "_law_kinds" = some (some (.ref f18))) (l18 : K.lookup f18 = some ⟨oc18, od18, .func (PySem.W.fnOf "_law_kinds" "_law_kinds" (defArgs sMade) (defBody sMade) (defScope sMade) .none kV18 dc18 pm18 an18 cd18 ct18), sl18⟩) (c18 : PySem.W.codeIn K cd18 "_law_kinds" = true) (k18 : PySem.W.keepIn K (.ref f18) = true)
    (a19 : PySem.W.nsIn K mainGlobals "_law_some" = some (some (.ref f19))) (l19 : K.lookup f19 = some ⟨oc19, od19, .func (PySem.W.fnOf "_law_some" "_law_some" (defArgs sSome) (defBody sSome) (defScope sSome) .none kV19 dc19 pm19 an19 cd19 ct19), sl19⟩) (c19 : PySem.W.codeIn K cd19 "_law_some" = true) (k19 : PySem.W.keepIn K (.ref f19) = true)
    (a20 : PySem.W.nsIn K mainGlobals "_law_house" = some (some (.ref f20))) (l20 : K.lookup f20 = some ⟨oc20, od20, .func (PySem.W.fnOf "_law_house" "_law_house" (defArgs sDrawn) (defBody sDrawn) (defScope sDrawn) .none kV20 dc20 pm20 an20 cd20 ct20), sl20⟩) (c20 : PySem.W.codeIn K cd20 "_law_house" = true) (k20 : PySem.W.keepIn K (.ref f20) = true)
    (a21 : PySem.W.nsIn K mainGlobals "_law_mixed_up" = some (some (.ref f21))) (l21 : K.lookup f21 = some ⟨oc21, od21, .func (PySem.W.fnOf "_law_mixed_up" "_law_mixed_up" (defArgs st__law_mixed_up) (defBody st__law_mixed_up) (defScope st__law_mixed_up) .none kV21 dc21 pm21 an21 cd21 ct21), sl21⟩) (c21 : PySem.W.codeIn K cd21 "_law_mixed_up" = true) (k21 : PySem.W.keepIn K (.ref f21) = true)
    (a22 : PySem.W.nsIn K mainGlobals "_law_named" = some (some (.ref f22))) (l22 : K.lookup f22 = some ⟨oc22, od22, .func (PySem.W.fnOf "_law_named" "_law_named" (defArgs st__law_named) (defBody st__law_named) (defScope st__law_named) .none kV22 dc22 pm22 an22 cd22 ct22), sl22⟩) (c22 : PySem.W.codeIn K cd22 "_law_named" = true) (k22 : PySem.W.keepIn K (.ref f22) = true)
    (a23 : PySem.W.nsIn K mainGlobals "_law_walk" = some (some (.ref f23))) (l23 : K.lookup f23 = some ⟨oc23, od23, .func (PySem.W.fnOf "_law_walk" "_law_walk" (defArgs st__law_walk) (defBody st__law_walk) (defScope st__law_walk) .none kV23 dc23 pm23 an23 cd23 ct23), sl23⟩) (c23 : PySem.W.codeIn K cd23 "_law_walk" = true) (k23 : PySem.W.keepIn K (.ref f23) = true)
    (a24 : PySem.W.nsIn K mainGlobals "law" = some (some (.ref f24))) (l24 : K.lookup f24 = some ⟨oc24, od24, .func (PySem.W.fnOf "law" "law" (defArgs sLaw) (defBody sLaw) (defScope sLaw) .none kV24 dc24 pm24 an24 cd24 ct24), sl24⟩) (c24 : PySem.W.codeIn K cd24 "law" = true) (k24 : PySem.W.keepIn K (.ref f24) = true)
    (g_LETTERS : PySem.W.nsIn K mainGlobals "LETTERS" = some (some (.str lettersS t_LETTERS)))
    (g_MOST_LETTERS : PySem.W.nsIn K mainGlobals "MOST_LETTERS" = some (some (.int 4 t_MOST_LETTERS)))
    (g_MOST_LOCKS : PySem.W.nsIn K mainGlobals "MOST_LOCKS" = some (some (.int 4 t_MOST_LOCKS)))
    (z_isinstance : PySem.W.nsIn K mainGlobals "isinstance" = some none)
    (z_str : PySem.W.nsIn K mainGlobals "str" = some none)
    (z_len : PySem.W.nsIn K mainGlobals "len" = some none)
    (z_all : PySem.W.nsIn K mainGlobals "all" = some none)
    (z_list : PySem.W.nsIn K mainGlobals "list" = some none)
    (z_tuple : PySem.W.nsIn K mainGlobals "tuple" = some none)
    (z_sorted : PySem.W.nsIn K mainGlobals "sorted" = some none)
    (z_range : PySem.W.nsIn K mainGlobals "range" = some none)
    (z_min : PySem.W.nsIn K mainGlobals "min" = some none)
    (z_max : PySem.W.nsIn K mainGlobals "max" = some none)
    (z_sum : PySem.W.nsIn K mainGlobals "sum" = some none)
    (z_int : PySem.W.nsIn K mainGlobals "int" = some none)
    (z_bool : PySem.W.nsIn K mainGlobals "bool" = some none)
    (z_enumerate : PySem.W.nsIn K mainGlobals "enumerate" = some none)
    (z_dict : PySem.W.nsIn K mainGlobals "dict" = some none)
    (z_set : PySem.W.nsIn K mainGlobals "set" = some none)
    (z_zip : PySem.W.nsIn K mainGlobals "zip" = some none)
    : ∃ fd : FuncData, (∀ (s : Shared) (v : Value), BindsTo s fd ⟨[v], []⟩ [("script", v)]) ∧ ∀ base : Heap, K.In base → base.Ns mainGlobals mg → FnOk l.prog w K mg base CX0 9 fa fd ["script"] (spLaw K) := by
  have e := hfa.symm.trans (PySem.W.mg_of X G a24)
  cases e
  have F_is_whole := fun_mk (st := st_is_whole) l1 c1 k1
  have c_is_whole : Cal K mg "is_whole" ["thing"] f1 _ := ⟨PySem.W.mg_of X G a1, k1, F_is_whole.binds fun _ _ _ _ _ _ us hl => match us, hl with | [_], _ => rfl⟩
  have F_is_kind := fun_mk (st := sKind) l2 c2 k2
  have c_is_kind : Cal K mg "is_kind" ["thing"] f2 _ := ⟨PySem.W.mg_of X G a2, k2, F_is_kind.binds fun _ _ _ _ _ _ us hl => match us, hl with | [_], _ => rfl⟩
  have F_are_kinds := fun_mk (st := sKinds) l3 c3 k3
  have c_are_kinds : Cal K mg "are_kinds" ["thing"] f3 _ := ⟨PySem.W.mg_of X G a3, k3, F_are_kinds.binds fun _ _ _ _ _ _ us hl => match us, hl with | [_], _ => rfl⟩
  have F_are_locks := fun_mk (st := sLocks) l4 c4 k4
  have c_are_locks : Cal K mg "are_locks" ["thing"] f4 _ := ⟨PySem.W.mg_of X G a4, k4, F_are_locks.binds fun _ _ _ _ _ _ us hl => match us, hl with | [_], _ => rfl⟩
  have F_is_room := fun_mk (st := sRoom) l5 c5 k5
  have c_is_room : Cal K mg "is_room" ["thing"] f5 _ := ⟨PySem.W.mg_of X G a5, k5, F_is_room.binds fun _ _ _ _ _ _ us hl => match us, hl with | [_], _ => rfl⟩
  have F_is_house := fun_mk (st := sHouse) l6 c6 k6
  have c_is_house : Cal K mg "is_house" ["thing"] f6 _ := ⟨PySem.W.mg_of X G a6, k6, F_is_house.binds fun _ _ _ _ _ _ us hl => match us, hl with | [_], _ => rfl⟩
  have F_require_house := fun_mk (st := sReq) l7 c7 k7
  have c_require_house : Cal K mg "require_house" ["thing"] f7 _ := ⟨PySem.W.mg_of X G a7, k7, F_require_house.binds fun _ _ _ _ _ _ us hl => match us, hl with | [_], _ => rfl⟩
  have F_is_plain := fun_mk (st := st_is_plain) l8 c8 k8
  have c_is_plain : Cal K mg "is_plain" ["house"] f8 _ := ⟨PySem.W.mg_of X G a8, k8, F_is_plain.binds fun _ _ _ _ _ _ us hl => match us, hl with | [_], _ => rfl⟩
  have F_serves := fun_mk (st := st_serves) l9 c9 k9
  have c_serves : Cal K mg "serves" ["hand", "locks"] f9 _ := ⟨PySem.W.mg_of X G a9, k9, F_serves.binds fun _ _ _ _ _ _ us hl => match us, hl with | [_, _], _ => rfl⟩
  have F_hand_behind := fun_mk (st := st_hand_behind) l10 c10 k10
  have c_hand_behind : Cal K mg "hand_behind" ["hand", "room"] f10 _ := ⟨PySem.W.mg_of X G a10, k10, F_hand_behind.binds fun _ _ _ _ _ _ us hl => match us, hl with | [_, _], _ => rfl⟩
  have F_is_step := fun_mk (st := st_is_step) l11 c11 k11
  have c_is_step : Cal K mg "is_step" ["rooms", "hand", "gone", "number"] f11 _ := ⟨PySem.W.mg_of X G a11, k11, F_is_step.binds fun _ _ _ _ _ _ us hl => match us, hl with | [_, _, _, _], _ => rfl⟩
  have F_hand_after := fun_mk (st := st_hand_after) l12 c12 k12
  have c_hand_after : Cal K mg "hand_after" ["house", "order"] f12 _ := ⟨PySem.W.mg_of X G a12, k12, F_hand_after.binds fun _ _ _ _ _ _ us hl => match us, hl with | [_, _], _ => rfl⟩
  have F_keys_behind := fun_mk (st := st_keys_behind) l13 c13 k13
  have c_keys_behind : Cal K mg "keys_behind" ["house", "order"] f13 _ := ⟨PySem.W.mg_of X G a13, k13, F_keys_behind.binds fun _ _ _ _ _ _ us hl => match us, hl with | [_, _], _ => rfl⟩
  have F_next_rooms := fun_mk (st := st_next_rooms) l14 c14 k14
  have c_next_rooms : Cal K mg "next_rooms" ["house", "order"] f14 _ := ⟨PySem.W.mg_of X G a14, k14, F_next_rooms.binds fun _ _ _ _ _ _ us hl => match us, hl with | [_, _], _ => rfl⟩
  have F_is_stuck := fun_mk (st := st_is_stuck) l15 c15 k15
  have c_is_stuck : Cal K mg "is_stuck" ["house", "order"] f15 _ := ⟨PySem.W.mg_of X G a15, k15, F_is_stuck.binds fun _ _ _ _ _ _ us hl => match us, hl with | [_, _], _ => rfl⟩
  have F__law_pool := fun_mk (st := sPool) l16 c16 k16
  have c__law_pool : Cal K mg "_law_pool" ["script", "k"] f16 _ := ⟨PySem.W.mg_of X G a16, k16, F__law_pool.binds fun _ _ _ _ _ _ us hl => match us, hl with | [_, _], _ => rfl⟩
  have F__law_take := fun_mk (st := sTake) l17 c17 k17
  have c__law_take : Cal K mg "_law_take" ["pool", "many"] f17 _ := ⟨PySem.W.mg_of X G a17, k17, F__law_take.binds fun _ _ _ _ _ _ us hl => match us, hl with | [_, _], _ => rfl⟩
  have F__law_kinds := fun_mk (st := sMade) l18 c18 k18
  have c__law_kinds : Cal K mg "_law_kinds" ["pool", "many"] f18 _ := ⟨PySem.W.mg_of X G a18, k18, F__law_kinds.binds fun _ _ _ _ _ _ us hl => match us, hl with | [_, _], _ => rfl⟩
  have F__law_some := fun_mk (st := sSome) l19 c19 k19
  have c__law_some : Cal K mg "_law_some" ["pool", "kinds", "many"] f19 _ := ⟨PySem.W.mg_of X G a19, k19, F__law_some.binds fun _ _ _ _ _ _ us hl => match us, hl with | [_, _, _], _ => rfl⟩
  have F__law_house := fun_mk (st := sDrawn) l20 c20 k20
  have c__law_house : Cal K mg "_law_house" ["pool", "most"] f20 _ := ⟨PySem.W.mg_of X G a20, k20, F__law_house.binds fun _ _ _ _ _ _ us hl => match us, hl with | [_, _], _ => rfl⟩
  have F__law_mixed_up := fun_mk (st := st__law_mixed_up) l21 c21 k21
  have c__law_mixed_up : Cal K mg "_law_mixed_up" ["pool", "things"] f21 _ := ⟨PySem.W.mg_of X G a21, k21, F__law_mixed_up.binds fun _ _ _ _ _ _ us hl => match us, hl with | [_, _], _ => rfl⟩
  have F__law_named := fun_mk (st := st__law_named) l22 c22 k22
  have c__law_named : Cal K mg "_law_named" ["pool", "house"] f22 _ := ⟨PySem.W.mg_of X G a22, k22, F__law_named.binds fun _ _ _ _ _ _ us hl => match us, hl with | [_, _], _ => rfl⟩
  have F__law_walk := fun_mk (st := st__law_walk) l23 c23 k23
  have c__law_walk : Cal K mg "_law_walk" ["pool", "house"] f23 _ := ⟨PySem.W.mg_of X G a23, k23, F__law_walk.binds fun _ _ _ _ _ _ us hl => match us, hl with | [_, _], _ => rfl⟩
  have F_law := fun_mk (st := sLaw) l24 c24 k24
  have hg_LETTERS := PySem.W.mg_of X G g_LETTERS
  have hg_MOST_LETTERS := PySem.W.mg_of X G g_MOST_LETTERS
  have hg_MOST_LOCKS := PySem.W.mg_of X G g_MOST_LOCKS
  have m_isinstance := PySem.W.mg_none_of X G z_isinstance
  have m_str := PySem.W.mg_none_of X G z_str
  have m_len := PySem.W.mg_none_of X G z_len
  have m_all := PySem.W.mg_none_of X G z_all
  have m_list := PySem.W.mg_none_of X G z_list
  have m_tuple := PySem.W.mg_none_of X G z_tuple
  have m_sorted := PySem.W.mg_none_of X G z_sorted
  have m_range := PySem.W.mg_none_of X G z_range
  have m_min := PySem.W.mg_none_of X G z_min
  have m_max := PySem.W.mg_none_of X G z_max
  have m_sum := PySem.W.mg_none_of X G z_sum
  have m_int := PySem.W.mg_none_of X G z_int
  have m_bool := PySem.W.mg_none_of X G z_bool
  have m_enumerate := PySem.W.mg_none_of X G z_enumerate
  have m_dict := PySem.W.mg_none_of X G z_dict
  have m_set := PySem.W.mg_none_of X G z_set
  have m_zip := PySem.W.mg_none_of X G z_zip
  refine ⟨PySem.W.fnOf "law" "law" (defArgs sLaw) (defBody sLaw) (defScope sLaw) .none kV24 dc24 pm24 an24 cd24 ct24, fun s v => .of_eq rfl, fun base _ _ => ?_⟩
  have Gl : Glb mg := ⟨m_isinstance, m_str, m_len, m_all, ⟨_, hg_LETTERS⟩, ⟨_, hg_MOST_LETTERS⟩⟩
  have GT : FnOk l.prog w K mg base CX0 1 _ _ ["pool", "many"] spTake := ok_take F__law_take
  have GS : FnOk l.prog w K mg base CX0 2 _ _ ["pool", "kinds", "many"] spSome := ok_some F__law_some F__law_take c__law_take m_range m_len
  have GP : FnOk l.prog w K mg base CX0 1 _ _ ["script", "k"] (spPool K) := ok_pool F__law_pool m_len
  have GK : FnOk l.prog w K mg base CX0 2 _ _ ["thing"] spKinds := ok_kinds F_are_kinds F_is_kind c_is_kind Gl m_list
  have GL : FnOk l.prog w K mg base CX0 3 _ _ ["thing"] spLocks := ok_locks F_are_locks GK c_are_kinds m_len m_sorted ⟨_, hg_MOST_LOCKS⟩
  have GR : FnOk l.prog w K mg base CX0 4 _ _ ["thing"] spRoom := ok_room F_is_room GL c_are_locks GK c_are_kinds m_isinstance m_len m_tuple
  have GH : FnOk l.prog w K mg base CX0 5 _ _ ["thing"] spHouse := ok_house F_is_house GR c_is_room GK c_are_kinds m_isinstance m_len m_tuple m_list m_all
  have GQ : FnOk l.prog w K mg base CX0 6 _ _ ["thing"] spReq := ok_req F_require_house GH c_is_house
  have GM : FnOk l.prog w K mg base CX0 2 _ _ ["pool", "many"] spMade := ok_made F__law_kinds GT c__law_take m_range m_len
  have GD : FnOk l.prog w K mg base CX0 3 _ _ ["pool", "most"] spDrawn := ok_drawn F__law_house GT c__law_take GM c__law_kinds GS c__law_some m_range m_len m_min m_sorted m_sum
  have G1 : FnOk l.prog w K mg base CX0 1 _ _ ["thing"] spWhole := ok_whole F_is_whole m_bool m_int m_isinstance
  have G2 : FnOk l.prog w K mg base CX0 1 _ _ ["hand", "locks"] spServes := ok_serves F_serves m_all
  have G3 : FnOk l.prog w K mg base CX0 1 _ _ ["hand", "room"] spBehind := ok_behind F_hand_behind m_list
  have G4 : FnOk l.prog w K mg base CX0 2 _ _ ["rooms", "hand", "gone", "number"] spStep := ok_step F_is_step G1 c_is_whole G2 c_serves m_len
  have G5 : FnOk l.prog w K mg base CX0 3 _ _ ["house", "order"] spAfter := ok_after F_hand_after G4 c_is_step G3 c_hand_behind m_enumerate m_isinstance m_list
  have G6 : FnOk l.prog w K mg base CX0 7 _ _ ["house", "order"] spKeysB := ok_keysb F_keys_behind GQ c_require_house G5 c_hand_after m_sorted
  have G7 : FnOk l.prog w K mg base CX0 7 _ _ ["house", "order"] spNextR := ok_nextr F_next_rooms GQ c_require_house G5 c_hand_after G4 c_is_step m_len m_range
  have G8 : FnOk l.prog w K mg base CX0 8 _ _ ["house", "order"] spStuck := ok_stuck F_is_stuck G7 c_next_rooms
  have G9 : FnOk l.prog w K mg base CX0 7 _ _ ["house"] spPlain := ok_plain F_is_plain GQ c_require_house m_all m_len
  have GX : FnOk l.prog w K mg base CX0 2 _ _ ["pool", "things"] spMixed := ok_mixed F__law_mixed_up GT c__law_take m_len m_list
  have GN : FnOk l.prog w K mg base CX0 3 _ _ ["pool", "house"] spNamed := ok_named F__law_named GM c__law_kinds GX c__law_mixed_up m_dict m_enumerate m_len m_list m_range m_set m_sorted m_zip
  have GW : FnOk l.prog w K mg base CX0 8 _ _ ["pool", "house"] spWalk := ok_walk F__law_walk GT c__law_take G7 c_next_rooms m_len m_range
  exact ok_law F_law GP c__law_pool GD c__law_house GN c__law_named GW c__law_walk GT c__law_take GH c_is_house G9 c_is_plain G6 c_keys_behind G7 c_next_rooms G8 c_is_stuck m_range m_len m_min m_max m_sorted
theorem walk {l : PySem.W.OpenLaw} {q : Program} {loose : List Str} {XP : (Str → Option Value) → Heap → Prop} {YP : World → Heap → Prop} {d : DefRec} {K : Params → PySem.W.Frag} (hn : l.most = some 63) (hdf : d.params.defaults = [])
    (hY : ∀ (w : World) (h : Heap), YP w h → (K w.params).In h)
    (F : ∀ (w : World) (mg : Str → Option Value) (fa : Addr) (h : Heap), (K w.params).In h → h.Ns mainGlobals mg → mg d.name = some (.ref fa) →
      ∃ fd : FuncData, (∀ (s : Shared) (u : Value), BindsTo s fd ⟨[u], []⟩ [("script", u)]) ∧ ∀ base : Heap, (K w.params).In base → base.Ns mainGlobals mg → FnOk l.prog w (K w.params) mg base CX0 9 fa fd ["script"] (spLaw (K w.params))) :
    PySem.W.WalkO q loose XP YP l.row.toRowW d [] (fun f vs => PySem.call f vs) :=
  L2.walk_of (n := 63) (k := 9) (x := "script") (CX := fun _ => CX0) (sp := fun w => spLaw (K w.params)) hn (by decide) hdf ⟨rfl, by decide, by decide⟩ hY F (fun _ _ a ns hl _ hS => ⟨a, ns, rfl, hS, hl, fun _ => rfl⟩) fun _ _ _ _ _ z => z
end K7
open PySem PySem.W PyProof.Rows
set_option maxRecDepth 100000 in
set_option maxHeartbeats 0 in
theorem PySem.Challenge.cw_keyrooms_k06_whole_houses_named_anew_holds : PySem.Challenge.rw_keyrooms_k06_whole_houses_named_anew.Holds := by
  w_on; o_law; k_head; (case hw => w_witness2)
  k_fill
  refine K7.walk (l := PySem.Challenge.rw_keyrooms_k06_whole_houses_named_anew) rfl rfl (fun w h Y => PySem.W.kIn_of Y) ?F
  case F =>
    intro w mg fa h KX G hmg
    refine' K7.all_mk KX G hmg ?a1 ?l1 ?c1 ?k1 ?a2 ?l2 ?c2 ?k2 ?a3 ?l3 ?c3 ?k3 ?a4 ?l4 ?c4 ?k4 ?a5 ?l5 ?c5 ?k5 ?a6 ?l6 ?c6 ?k6 ?a7 ?l7 ?c7 ?k7 ?a8 ?l8 ?c8 ?k8 ?a9 ?l9 ?c9 ?k9 ?a10 ?l10 ?c10 ?k10 ?a11 ?l11 ?c11 ?k11 ?a12 ?l12 ?c12 ?k12 ?a13 ?l13 ?c13 ?k13 ?a14 ?l14 ?c14 ?k14 ?a15 ?l15 ?c15 ?k15 ?a16 ?l16 ?c16 ?k16 ?a17 ?l17 ?c17 ?k17 ?a18 ?l18 ?c18 ?k18 ?a19 ?l19 ?c19 ?k19 ?a20 ?l20 ?c20 ?k20 ?a21 ?l21 ?c21 ?k21 ?a22 ?l22 ?c22 ?k22 ?a23 ?l23 ?c23 ?k23 ?a24 ?l24 ?c24 ?k24 ?g_LETTERS ?g_MOST_LETTERS ?g_MOST_LOCKS ?z_isinstance ?z_str ?z_len ?z_all ?z_list ?z_tuple ?z_sorted ?z_range ?z_min ?z_max ?z_sum ?z_int ?z_bool ?z_enumerate ?z_dict ?z_set ?z_zip
    (case a1 => k_is)
    (case l1 => k_is)
    (case c1 => k_is)
    (case k1 => k_is)
    (case a2 => k_is)
    (case l2 => k_is)
    (case c2 => k_is)
    (case k2 => k_is)
    (case a3 => k_is)
    (case l3 => k_is)
    (case c3 => k_is)
    (case k3 => k_is)
    (case a4 => k_is)
    (case l4 => k_is)
    (case c4 => k_is)
    (case k4 => k_is)
    (case a5 => k_is)
    (case l5 => k_is)
    (case c5 => k_is)
    (case k5 => k_is)
    (case a6 => k_is)
    (case l6 => k_is)
    (case c6 => k_is)
    (case k6 => k_is)
    (case a7 => k_is)
    (case l7 => k_is)
    (case c7 => k_is)
    (case k7 => k_is)
    (case a8 => k_is)
    (case l8 => k_is)
    (case c8 => k_is)
    (case k8 => k_is)
    (case a9 => k_is)
    (case l9 => k_is)
    (case c9 => k_is)
    (case k9 => k_is)
    (case a10 => k_is)
    (case l10 => k_is)
    (case c10 => k_is)
    (case k10 => k_is)
    (case a11 => k_is)
    (case l11 => k_is)
    (case c11 => k_is)
    (case k11 => k_is)
    (case a12 => k_is)
    (case l12 => k_is)
    (case c12 => k_is)
    (case k12 => k_is)
    (case a13 => k_is)
    (case l13 => k_is)
    (case c13 => k_is)
    (case k13 => k_is)
    (case a14 => k_is)
    (case l14 => k_is)
    (case c14 => k_is)
    (case k14 => k_is)
    (case a15 => k_is)
    (case l15 => k_is)
    (case c15 => k_is)
    (case k15 => k_is)
    (case a16 => k_is)
    (case l16 => k_is)
    (case c16 => k_is)
    (case k16 => k_is)
    (case a17 => k_is)
    (case l17 => k_is)
    (case c17 => k_is)
    (case k17 => k_is)
    (case a18 => k_is)
    (case l18 => k_is)
    (case c18 => k_is)
    (case k18 => k_is)
    (case a19 => k_is)
    (case l19 => k_is)
    (case c19 => k_is)
    (case k19 => k_is)
    (case a20 => k_is)
    (case l20 => k_is)
    (case c20 => k_is)
    (case k20 => k_is)
    (case a21 => k_is)
    (case l21 => k_is)
    (case c21 => k_is)
    (case k21 => k_is)
    (case a22 => k_is)
    (case l22 => k_is)
    (case c22 => k_is)
    (case k22 => k_is)
    (case a23 => k_is)
    (case l23 => k_is)
    (case c23 => k_is)
    (case k23 => k_is)
    (case a24 => k_is)
    (case l24 => k_is)
    (case c24 => k_is)
    (case k24 => k_is)
    (case g_LETTERS => k_is)
    (case g_MOST_LETTERS => k_is)
    (case g_MOST_LOCKS => k_is)
    (case z_isinstance => k_is)
    (case z_str => k_is)
    (case z_len => k_is)
    (case z_all => k_is)
    (case z_list => k_is)
    (case z_tuple => k_is)
    (case z_sorted => k_is)
    (case z_range => k_is)
    (case z_min => k_is)
    (case z_max => k_is)
    (case z_sum => k_is)
    (case z_int => k_is)
    (case z_bool => k_is)
    (case z_enumerate => k_is)
    (case z_dict => k_is)
    (case z_set => k_is)
    (case z_zip => k_is)
