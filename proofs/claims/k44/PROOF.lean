import PyProof.Rows.All
import Wide.All
import OpenK.AllK
import Wide.FinOn
import Lean
import PyProof.EqAt
import PyProof.EqKinds
import PyProof.TupleCall
import PyProof.Rows.SetFrom
import PyProof.SetRoads
import KE.KDictSum
import PyProof.DictCompW
import KE.KEqDict
import KE.KxText
import PyProof.WalksEnum
import PyProof.EnumMake
import KE.KDictLaws
import PySem.Challenge.RW_keyrooms_k44_without_needless_keys
set_option Elab.async false
set_option linter.all false
set_option maxRecDepth 100000
namespace L2
open PySem PySem.Spec PyProof.Rows
abbrev Key := Sum Int Str
def keyIs : Key → Value → Bool
  | .inl k, v => Value.isInt k v
  | .inr x, v => Value.isStrOf x v
def keyH (w : World) : Key → Int
  | .inl k => hashInt k
  | .inr x => hashStr w x
theorem keyIs_shape : ∀ {k : Key} {v : Value}, keyIs k v = true → (∃ i t, k = Sum.inl i ∧ v = Value.int i t) ∨ (∃ x t, k = Sum.inr x ∧ v = Value.str x t)
  | .inl i, v, h => by
    obtain ⟨t, e⟩ := Value.isInt_shape (k := i) (v := v) h
    exact .inl ⟨i, t, rfl, e⟩
  | .inr x, v, h => by
    obtain ⟨t, e⟩ := Value.isStrOf_shape (x := x) (v := v) h
    exact .inr ⟨x, t, rfl, e⟩
theorem keyIs_int (i : Int) (t : Tok) : keyIs (.inl i) (.int i t) = true := by simp [keyIs, Value.isInt]
theorem keyIs_str (x : Str) (t : Tok) : keyIs (.inr x) (.str x t) = true := by simp [keyIs, Value.isStrOf]
theorem key_ll (a b : Int) : decide ((Sum.inl a : Key) = Sum.inl b) = (a == b) := by
  by_cases e : a = b
  · subst e; simp
  · have h : ¬ (Sum.inl a : Key) = Sum.inl b := fun q => e (Sum.inl.inj q)
    rw [decide_eq_false h]
    exact (beq_eq_false_iff_ne.mpr e).symm
theorem key_rr (a b : Str) : decide ((Sum.inr a : Key) = Sum.inr b) = decide (a = b) := by
  by_cases e : a = b
  · subst e; simp
  · have h : ¬ (Sum.inr a : Key) = Sum.inr b := fun q => e (Sum.inr.inj q)
    rw [decide_eq_false h, decide_eq_false e]
theorem key_lr (a : Int) (b : Str) : decide ((Sum.inl a : Key) = Sum.inr b) = false := decide_eq_false (fun q => nomatch q)
theorem key_rl (a : Str) (b : Int) : decide ((Sum.inr a : Key) = Sum.inl b) = false := decide_eq_false (fun q => nomatch q)
def mixKind (prog : Program) (w : World) : PySem.KeyKind prog w Key where
  is := keyIs
  hash := keyH w
  inj := fun v a b ha hb => by
    rcases keyIs_shape ha with ⟨i, t, rfl, rfl⟩ | ⟨x, t, rfl, rfl⟩
    · rcases keyIs_shape hb with ⟨j, u, rfl, e⟩ | ⟨y, u, rfl, e⟩
      · injection e with e1 _; rw [e1]
      · exact nomatch e
    · rcases keyIs_shape hb with ⟨j, u, rfl, e⟩ | ⟨y, u, rfl, e⟩
      · exact nomatch e
      · injection e with e1 _; rw [e1]
  byValue := fun k v h => by
    rcases keyIs_shape h with ⟨i, t, rfl, rfl⟩ | ⟨x, t, rfl, rfl⟩ <;> rfl
  pyHash := fun hv h => by
    rcases keyIs_shape hv with ⟨i, t, rfl, rfl⟩ | ⟨x, t, rfl, rfl⟩
    · exact wpAny_pyHash_int h
    · exact wpAny_pyHash_str h
  eqBool := fun hu hv h => by
    rcases keyIs_shape hu with ⟨i, t, rfl, rfl⟩ | ⟨x, t, rfl, rfl⟩
    · rcases keyIs_shape hv with ⟨j, u, rfl, rfl⟩ | ⟨y, u, rfl, rfl⟩
      · rw [key_ll] at h; exact wpAny_eqBool_int h
      · rw [key_lr] at h; exact SeqAt.EqAt.int_str i t y u _ _ _ _ h
    · rcases keyIs_shape hv with ⟨j, u, rfl, rfl⟩ | ⟨y, u, rfl, rfl⟩
      · rw [key_rl] at h; exact SeqAt.EqAt.str_int x t j u _ _ _ _ h
      · rw [key_rr] at h; exact wpAny_eqBool_str h
  «strs» := fun k x t v h => by
    rcases keyIs_shape h with ⟨i, u, rfl, e⟩ | ⟨y, u, rfl, e⟩
    · exact nomatch e
    · injection e with e1 _
      subst e1
      cases v <;> rfl
theorem mixKind_int (prog : Program) (w : World) (i : Int) (t : Tok) : (mixKind prog w).is (.inl i) (.int i t) = true := keyIs_int i t
theorem mixKind_str (prog : Program) (w : World) (x : Str) (t : Tok) : (mixKind prog w).is (.inr x) (.str x t) = true := keyIs_str x t
end L2
namespace L2
open PySem PySem.Spec PyProof.Rows
inductive V where
  | non | bl (b : Bool) | int (i : Int) | str (x : Str) | byt (b : Array UInt8) | flt (b : UInt64) | ref (a : Addr) | ty (n : String)
  deriving DecidableEq
def RelV : V → Value → Prop
  | .non, u => u = Value.none
  | .bl b, u => u = Value.bool b
  | .int i, u => ∃ t, u = Value.int i t
  | .str x, u => ∃ t, u = Value.str x t
  | .byt b, u => ∃ t, u = Value.bytes b t
  | .flt b, u => ∃ t, u = Value.float b t
  | .ref a, u => u = Value.ref a
  | .ty n, u => u = Value.type n
abbrev Vals : List V → List Value → Prop := Paired RelV
theorem Vals.length {xs : List V} {us : List Value} (r : Vals xs us) : xs.length = us.length := Paired.length r
theorem Vals.get : ∀ {xs : List V} {us : List Value} {i : Nat} {x : V}, Vals xs us → xs[i]? = some x → ∃ u, us[i]? = some u ∧ RelV x u
  | _, _, _, _, .nil, e => by simp at e
  | _, _, 0, _, .cons r _, e => by simp at e; subst e; exact ⟨_, rfl, r⟩
  | _, _, i + 1, x, .cons _ t, e => by
    obtain ⟨u, h1, h2⟩ := Vals.get (i := i) (x := x) t (by simpa using e)
    exact ⟨u, by simpa using h1, h2⟩
theorem Vals.set {x : V} {u : Value} (r : RelV x u) : ∀ {xs : List V} {us : List Value} (i : Nat), Vals xs us → Vals (xs.set i x) (us.set i u)
  | _, _, _, .nil => .nil
  | _, _, 0, .cons _ t => .cons r t
  | _, _, i + 1, .cons q t => .cons q (Vals.set r i t)
theorem Vals.append : ∀ {xs ys : List V} {us ws : List Value}, Vals xs us → Vals ys ws → Vals (xs ++ ys) (us ++ ws)
  | _, _, _, _, .nil, s => s
  | _, _, _, _, .cons r t, s => .cons r (Vals.append t s)
theorem Vals.take : ∀ {xs : List V} {us : List Value} (n : Nat), Vals xs us → Vals (xs.take n) (us.take n)
  | _, _, 0, _ => .nil
  | _, _, _ + 1, .nil => .nil
  | _, _, n + 1, .cons r t => .cons r (Vals.take n t)
theorem Vals.drop : ∀ {xs : List V} {us : List Value} (n : Nat), Vals xs us → Vals (xs.drop n) (us.drop n)
  | _, _, 0, r => r
  | _, _, _ + 1, .nil => .nil
  | _, _, n + 1, .cons _ t => Vals.drop n t
def RelO : Option V → Option Value → Prop
  | some v, some u => RelV v u
  | none, none => True
  | _, _ => False
def KV {κ : Type} : List (κ × V) → List (κ × Value) → Prop := Paired fun (p : κ × V) (q : κ × Value) => p.1 = q.1 ∧ RelV p.2 q.2
def kV : Key → V
  | .inl i => .int i
  | .inr x => .str x
inductive HO where
  | lst (xs : List V)
  | tup (xs : List V)
  | dK (kvs : List (Key × V)) | dT (kvs : List (List Key × V))
  | set (S : Int → Bool) (n : Nat)
  | ins (C dx : Addr) (fs : List (Str × V))
  | own (x : Addr)
  | xd (fs : List (Str × V))
  | met (f x : Addr)
  | rng (lo hi : Int)
  | frz (o : Obj) (u : HO)
  | tbl (ps : Array Value)
  | ext (φ : Heap → Prop)
abbrev Hp := Addr → Option HO
def upd (H : Hp) (a : Addr) (o : HO) : Hp := fun b => if b = a then some o else H b
theorem upd_same {H : Hp} {a : Addr} {o : HO} : upd H a o a = some o := by unfold upd; rw [if_pos rfl]
theorem upd_ne {H : Hp} {a b : Addr} {o : HO} (h : b ≠ a) : upd H a o b = H b := by unfold upd; rw [if_neg h]
theorem ne_of {H : Hp} {a b : Addr} {o u : HO} (h : H a = some o) (h' : H b = some u) (d : o ≠ u) : a ≠ b := by
  intro e; subst e; rw [h] at h'; exact d (Option.some.inj h')
theorem ne_of_none {H : Hp} {a b : Addr} {o : HO} (h : H a = some o) (h' : H b = none) : a ≠ b := by
  intro e; subst e; rw [h] at h'; cases h'
section
variable (P : Program) (w : World)
def ObjOk (H : Hp) (h : Heap) (a : Addr) : HO → Prop
  | .lst xs => xs.length ≤ sizeLine ∧ ∃ (its : List Value) (n : Nat), Vals xs its ∧ h.get? a = some { cls := .type "list", data := .seq its.toArray n }
  | .tup xs => xs.length ≤ sizeLine ∧ ∃ its : List Value, Vals xs its ∧ IsTup h a its.toArray
  | .dK kvs => kvs.length ≤ sizeLine ∧ (a == sysModules) = false ∧ ∃ vs, KV kvs vs ∧ h.DictOf (mixKind P w) a vs
  | .dT kvs => kvs.length ≤ sizeLine ∧ (a == sysModules) = false ∧ ∃ xs : List (List Key × Addr × Value),
      Paired (fun (p : List Key × V) (q : List Key × Addr × Value) => p.1 = q.1 ∧ H q.2.1 = some (.tup (p.1.map kV)) ∧ RelV p.2 q.2.2) kvs xs ∧
      ∃ o es ep, h.get? a = some o ∧ o.ExactDict ∧ o.data = .dict es ep ∧ es.toList = xs.map (entryOfKey (tupleKind (mixKind P w))) ∧ (xs.map (·.1)).Nodup
  | .set S n => h.SetOf (intKind P w) a S n
  | .ins C dx fs => H dx = some (.own a) ∧ fs.length ≤ 1000 ∧ dx ≠ a ∧ h.get? a = some (PySem.W.instObj C dx) ∧
      ∃ mA, h.Ns1 dx mA ∧ (∀ f, RelO (fs.lookup f) (mA f)) ∧ PySem.Within mA (fs.map (·.1))
  | .own _ => ∃ o, h.get? a = some o
  | .xd fs => ∃ mA, h.Ns1 a mA ∧ ∀ f, RelO (fs.lookup f) (mA f)
  | .rng lo hi => ∃ t u v, h.get? a = some { cls := .type "range", data := .fields #[.int lo t, .int hi u, .int 1 v] }
  | .frz o u => h.get? a = some o ∧ ObjOk H h a u
  | .tbl ps => h.get? a = some { cls := .none, data := .fields ps }
  | .met f x => h.get? a = some (PySem.W.methodObj (.ref f) (.ref x))
  | .ext φ => φ h ∧ (∃ o, h.get? a = some o) ∧ ∀ h1 h2 : Heap, φ h1 → (∀ o, h1.get? a = some o → h2.get? a = some o) → φ h2
def HOk (H : Hp) (h : Heap) : Prop := ∀ a o, H a = some o → ObjOk P w H h a o
end
section
variable {P : Program} {w : World} {H H' : Hp} {h h' : Heap} {a : Addr} {o : HO}
theorem ObjOk.lt (x : ObjOk P w H h a o) : a < h.objs.size := by
  cases o with
  | lst xs => obtain ⟨_, _, _, _, e⟩ := x; exact Heap.lt_size e
  | tup xs => obtain ⟨_, _, _, p⟩ := x; exact p.lt
  | dK kvs => obtain ⟨_, _, _, _, o, _, _, e, _⟩ := x; exact Heap.lt_size e
  | dT kvs => obtain ⟨_, _, _, _, o, _, _, e, _⟩ := x; exact Heap.lt_size e
  | set S n => obtain ⟨o, _, _, _, e, _⟩ := x; exact Heap.lt_size e
  | ins C dx fs => obtain ⟨_, _, _, e, _⟩ := x; exact Heap.lt_size e
  | own y => obtain ⟨_, e⟩ := x; exact Heap.lt_size e
  | xd fs => obtain ⟨_, ⟨_, _, _, e, _⟩, _⟩ := x; exact Heap.lt_size e
  | rng lo hi => obtain ⟨_, _, _, e⟩ := x; exact Heap.lt_size e
  | frz ob u => obtain ⟨e, _⟩ := x; exact Heap.lt_size e
  | tbl ps => exact Heap.lt_size (show h.get? a = some _ from x)
  | met f y => exact Heap.lt_size (show h.get? a = some _ from x)
  | ext φ => obtain ⟨_, ⟨_, e⟩, _⟩ := x; exact Heap.lt_size e
theorem Paired.mapP {α β : Type} {F G : α → β → Prop} : ∀ {l₁ : List α} {l₂ : List β}, Paired F l₁ l₂ → (∀ a b, F a b → G a b) → Paired G l₁ l₂
  | _, _, .nil, _ => .nil
  | _, _, .cons r t, f => .cons (f _ _ r) (Paired.mapP t f)
theorem ObjOk.stay (x : ObjOk P w H h a o) (k : ∀ b u, (b = a ∨ H b = some (.own a)) → h.get? b = some u → h'.get? b = some u)
    (ho : ∀ b, H b = some (.own a) → H' b = some (.own a)) (ht : ∀ b xs, H b = some (.tup xs) → H' b = some (.tup xs)) : ObjOk P w H' h' a o := by
  induction o with
  | lst xs => obtain ⟨z, its, n, r, e⟩ := x; exact ⟨z, its, n, r, k _ _ (.inl rfl) e⟩
  | tup xs => obtain ⟨z, its, r, ob, e, c⟩ := x; exact ⟨z, its, r, ob, k _ _ (.inl rfl) e, c⟩
  | dK kvs => obtain ⟨z, y, vs, r, ob, es, ep, e, c⟩ := x; exact ⟨z, y, vs, r, ob, es, ep, k _ _ (.inl rfl) e, c⟩
  | dT kvs =>
    obtain ⟨z, y, xs, r, ob, es, ep, e, c⟩ := x
    exact ⟨z, y, xs, Paired.mapP r fun p q z => ⟨z.1, ht _ _ z.2.1, z.2.2⟩, ob, es, ep, k _ _ (.inl rfl) e, c⟩
  | set S n => obtain ⟨ob, es, ep, t, e, c⟩ := x; exact ⟨ob, es, ep, t, k _ _ (.inl rfl) e, c⟩
  | ins C dx fs =>
    obtain ⟨d, z, ne, e, mA, ⟨od, es, ep, e2, c⟩, r⟩ := x
    exact ⟨ho _ d, z, ne, k _ _ (.inl rfl) e, mA, ⟨od, es, ep, k _ _ (.inr d) e2, c⟩, r⟩
  | own y => obtain ⟨ob, e⟩ := x; exact ⟨ob, k _ _ (.inl rfl) e⟩
  | xd fs => obtain ⟨mA, ⟨od, es, ep, e, c⟩, r⟩ := x; exact ⟨mA, ⟨od, es, ep, k _ _ (.inl rfl) e, c⟩, r⟩
  | rng lo hi => obtain ⟨t, u, v, e⟩ := x; exact ⟨t, u, v, k _ _ (.inl rfl) e⟩
  | frz ob u ih => obtain ⟨e, q⟩ := x; exact ⟨k _ _ (.inl rfl) e, ih q⟩
  | tbl ps =>
    have e : h.get? a = some { cls := .none, data := .fields ps } := x
    show h'.get? a = some { cls := .none, data := .fields ps }
    exact k a _ (.inl rfl) e
  | met f y =>
    have e : h.get? a = some (PySem.W.methodObj (.ref f) (.ref y)) := x
    show h'.get? a = some (PySem.W.methodObj (.ref f) (.ref y))
    exact k a _ (.inl rfl) e
  | ext φ => obtain ⟨p, ⟨o, e⟩, st⟩ := x; exact ⟨st _ _ p fun o q => k _ _ (.inl rfl) q, ⟨o, k _ _ (.inl rfl) e⟩, st⟩
theorem HOk.lt (x : HOk P w H h) (e : H a = some o) : a < h.objs.size := (x a o e).lt
theorem HOk.fresh (x : HOk P w H h) (e : h.objs.size ≤ a) : H a = none := by
  cases q : H a with
  | none => rfl
  | some u => exact absurd (Nat.lt_of_lt_of_le (x.lt q) e) (Nat.lt_irrefl _)
theorem HOk.kept (x : HOk P w H h) (k : ∀ b u, h.get? b = some u → h'.get? b = some u) : HOk P w H h' := fun a o e =>
  (x a o e).stay (fun b u _ q => k b u q) (fun _ q => q) fun _ _ q => q
theorem HOk.laid (x : HOk P w H h) (k : ∀ b u, h.get? b = some u → h'.get? b = some u) (hp : h.objs.size ≤ a) (new : ObjOk P w (upd H a o) h' a o) : HOk P w (upd H a o) h' := fun b u e => by
  have hn := x.fresh hp
  by_cases hb : b = a
  · subst hb; rw [upd_same] at e; cases e; exact new
  · rw [upd_ne hb] at e
    exact (x b u e).stay (fun c v _ q => k c v q) (fun c q => by rw [upd_ne (ne_of_none q hn)]; exact q) fun c xs q => by rw [upd_ne (ne_of_none q hn)]; exact q
end
def Rd (H : Hp) (a : Addr) (u : HO) : Prop := H a = some u ∨ ∃ o, H a = some (.frz o u)
theorem Rd.of {H : Hp} {a : Addr} {u : HO} (h : H a = some u) : Rd H a u := .inl h
theorem Rd.ok {P : Program} {w : World} {H : Hp} {h : Heap} {a : Addr} {u : HO} (r : Rd H a u) (x : HOk P w H h) : ObjOk P w H h a u := by
  rcases r with r | ⟨o, r⟩
  · exact x a u r
  · obtain ⟨_, q⟩ := x a _ r
    exact q
def Mut : Option HO → Prop
  | some (.lst _) => True
  | some (.dK _) => True
  | some (.dT _) => True
  | some (.set _ _) => True
  | some (.ins _ _ _) => True
  | some (.ext _) => True
  | _ => False
section
variable {P : Program} {w : World} {H : Hp} {h h' : Heap} {x e : Addr} {o' : HO}
theorem HOk.write (ok : HOk P w H h) (mu : Mut (H x)) (he : e = x ∨ H e = some (.own x)) (k : ∀ b u, b ≠ e → h.get? b = some u → h'.get? b = some u) (heo : ∃ u, h'.get? e = some u)
    (new : ObjOk P w (upd H x o') h' x o') : HOk P w (upd H x o') h' := fun b u q => by
  have nown : ∀ c y, H c = some (.own y) → c ≠ x := fun c y r z => by subst z; rw [r] at mu; exact mu
  have ntup : ∀ c xs, H c = some (.tup xs) → c ≠ x := fun c xs r z => by subst z; rw [r] at mu; exact mu
  by_cases hb : b = x
  · subst hb; rw [upd_same] at q; cases q; exact new
  · rw [upd_ne hb] at q
    by_cases hbe : b = e
    · have q' : H b = some (.own x) := by
        rcases he with z | z
        · exact absurd (hbe.trans z) hb
        · rw [hbe]; exact z
      rw [q] at q'; cases q'
      obtain ⟨v, hv⟩ := heo
      exact ⟨v, by rw [hbe]; exact hv⟩
    · refine (ok b u q).stay (fun c v hc r => k c v ?_ r) (fun c r => by rw [upd_ne (nown c b r)]; exact r) fun c xs r => by rw [upd_ne (ntup c xs r)]; exact r
      rcases hc with rfl | hc
      · exact hbe
      · rintro rfl
        rcases he with z | z
        · exact nown c b hc z
        · rw [hc] at z; cases z; exact hb rfl
end
structure Un (fs ex : List Addr) (H H' : Hp) (h h' : Heap) : Prop where
  keep : ∀ b o, h.get? b = some o → H b = none → b ∉ fs → b ∉ ex → h'.get? b = some o
  slot : ∀ b o, h.get? b = some o → H b = none → b ∈ fs → b ∉ ex → ∃ sl, h'.get? b = some { o with slots := sl }
  free : ∀ b o, h.get? b = some o → H b = none → b ∉ ex → H' b = none
  there : ∀ b o, h.get? b = some o → b ∉ ex → ∃ o', h'.get? b = some o'
  tups : ∀ b xs, H b = some (.tup xs) → H' b = some (.tup xs)
  frzs : ∀ b o u, H b = some (.frz o u) → H' b = some (.frz o u)
  tbls : ∀ b ps, H b = some (.tbl ps) → ∃ more, H' b = some (.tbl (ps ++ more))
section
variable {fs fs' ex ex' : List Addr} {H H1 H2 : Hp} {h h1 h2 h' : Heap} {a x e : Addr} {o : HO}
theorem Un.any (u : Un fs ex H H1 h h1) {b : Addr} {ob : Obj} (q : h.get? b = some ob) (n : H b = none) (hx : b ∉ ex) : ∃ sl, h1.get? b = some { ob with slots := sl } := by
  by_cases hb : b ∈ fs
  · exact u.slot b ob q n hb hx
  · exact ⟨ob.slots, u.keep b ob q n hb hx⟩
theorem Un.trans (a : Un fs ex H H1 h h1) (b : Un fs ex H1 H2 h1 h2) : Un fs ex H H2 h h2 where
  keep := fun c ob q n hc hx => b.keep c ob (a.keep c ob q n hc hx) (a.free c ob q n hx) hc hx
  slot := fun c ob q n hc hx => by
    obtain ⟨sl, e1⟩ := a.slot c ob q n hc hx
    obtain ⟨sl', e2⟩ := b.slot c _ e1 (a.free c ob q n hx) hc hx
    exact ⟨sl', e2⟩
  free := fun c ob q n hx => by
    obtain ⟨o', e1⟩ := a.there c ob q hx
    exact b.free c o' e1 (a.free c ob q n hx) hx
  there := fun c ob q hx => by
    obtain ⟨o', e1⟩ := a.there c ob q hx
    exact b.there c o' e1 hx
  tups := fun c xs q => b.tups c xs (a.tups c xs q)
  frzs := fun c ob xs q => b.frzs c ob xs (a.frzs c ob xs q)
  tbls := fun c ps q => by
    obtain ⟨m1, e1⟩ := a.tbls c ps q
    obtain ⟨m2, e2⟩ := b.tbls c _ e1
    exact ⟨m1 ++ m2, by rw [e2, Array.append_assoc]⟩
theorem Un.kept (k : ∀ b u, h.get? b = some u → h'.get? b = some u) : Un fs ex H H h h' :=
  ⟨fun b ob q _ _ _ => k b ob q, fun b ob q _ _ _ => ⟨ob.slots, k b ob q⟩, fun _ _ _ n _ => n, fun b ob q _ => ⟨ob, k b ob q⟩, fun _ _ q => q, fun _ _ _ q => q, fun _ ps q => ⟨#[], by rw [q]; simp⟩⟩
theorem Un.refl : Un fs ex H H h h := Un.kept fun _ _ q => q
theorem Un.laid (k : ∀ b u, h.get? b = some u → h'.get? b = some u) (hp : h.objs.size ≤ a) (hn : H a = none) : Un fs ex H (upd H a o) h h' where
  keep := fun b u q _ _ _ => k b u q
  slot := fun b u q _ _ _ => ⟨u.slots, k b u q⟩
  free := fun b u q n _ => by rw [upd_ne (Nat.ne_of_lt (Nat.lt_of_lt_of_le (Heap.lt_size q) hp))]; exact n
  there := fun b u q _ => ⟨u, k b u q⟩
  tups := fun b xs q => by rw [upd_ne (ne_of_none q hn)]; exact q
  frzs := fun b u xs q => by rw [upd_ne (ne_of_none q hn)]; exact q
  tbls := fun b ps q => ⟨#[], by rw [upd_ne (ne_of_none q hn), q]; simp⟩
theorem Un.write (mu : Mut (H x)) (he : e = x ∨ H e = some (.own x)) (k : ∀ b u, b ≠ e → h.get? b = some u → h'.get? b = some u) (heo : ∃ u, h'.get? e = some u) : Un fs ex H (upd H x o) h h' := by
  have hx : ∀ b, H b = none → b ≠ x := fun b n z => by subst z; rw [n] at mu; exact mu
  have hb : ∀ b, H b = none → b ≠ e := fun b n z => by
    subst z
    rcases he with r | r
    · exact hx b n r
    · rw [n] at r; cases r
  have hm : ∀ b u, H b = some u → ¬ Mut (some u) → b ≠ x := fun b u q nm z => by subst z; rw [q] at mu; exact nm mu
  refine ⟨fun b u q n _ _ => k b u (hb b n) q, fun b u q n _ _ => ⟨u.slots, k b u (hb b n) q⟩, fun b u q n _ => by rw [upd_ne (hx b n)]; exact n, fun b u q _ => ?_,
    fun b xs q => by rw [upd_ne (hm b _ q fun z => z)]; exact q, fun b u xs q => by rw [upd_ne (hm b _ q fun z => z)]; exact q, fun b ps q => ⟨#[], by rw [upd_ne (hm b _ q fun z => z), q]; simp⟩⟩
  by_cases hbe : b = e
  · subst hbe; exact heo
  · exact ⟨u, k b u hbe q⟩
theorem Un.mono (u : Un fs ex H H1 h h1) (hs : ∀ b ∈ fs, b ∈ fs') (hx : ∀ b ∈ ex, b ∈ ex') : Un fs' ex' H H1 h h1 :=
  ⟨fun b ob q n hb he => u.keep b ob q n (fun z => hb (hs b z)) fun z => he (hx b z), fun _ _ q n _ he => u.any q n fun z => he (hx _ z), fun b ob q n he => u.free b ob q n fun z => he (hx b z), fun b ob q he => u.there b ob q fun z => he (hx b z), u.tups, u.frzs, u.tbls⟩
end
def trk (h : Heap) (H : Hp) : List Addr := (List.range h.objs.size).filter fun a => (H a).isSome
def hidT (h : Heap) (H : Hp) : Heap := PySem.W.hideAll h (trk h H)
theorem hidT_size (h : Heap) (H : Hp) : (hidT h H).objs.size = h.objs.size := PySem.W.hideAll_size _ _
theorem hidT_get {h : Heap} {H : Hp} {b : Addr} {o : Obj} (e : h.get? b = some o) (n : H b = none) : (hidT h H).get? b = some o :=
  PySem.W.hideAll_get _ e fun hm => by
    have q : (H b).isSome = true := (List.mem_filter.mp hm).2
    rw [n] at q; simp at q
theorem of_hidT {h : Heap} {H : Hp} {b : Addr} {o : Obj} (e : (hidT h H).get? b = some o) : h.get? b = some o ∧ H b = none := by
  have e' : h.get? b = some o := PySem.W.of_hideAll (trk h H) e
  refine ⟨e', ?_⟩
  cases q : H b with
  | none => rfl
  | some x =>
    have hm : b ∈ trk h H := List.mem_filter.mpr ⟨List.mem_range.mpr (Heap.lt_size e'), by simp [q]⟩
    have z : (hidT h H).get? b = none := PySem.W.hideAll_none (trk h H) hm
    rw [z] at e; cases e
def allNews (g h : Heap) (L : Addr) : List (Addr × Obj) := (List.range h.objs.size).filterMap fun a => if a = L ∨ (g.get? a).isSome = true then none else (h.get? a).map fun o => (a, o)
def rest (g h : Heap) (L d : Addr) : List (Addr × Obj) := (allNews g h L).filter fun p => decide (p.1 ≠ d)
end L2
namespace L2
open PySem PySem.Spec PyProof.Rows
structure Mod (K : PySem.W.Frag) (mg : Str → Option Value) (base : Heap) : Prop where
  kin : K.In base
  glob : base.Ns mainGlobals mg
  blt : ∃ mb, base.Ns builtinsNs mb ∧ ∀ x : Str, x ≠ "__name__" → mb x = bootBuiltins x
  nolimit : base.NoLimit
structure Cx where
  prog : Program
  w : World
  K : PySem.W.Frag
  mg : Str → Option Value
  base : Heap
  A : Around
  N : List Str
  s₀ : Shared
  H₀ : Hp
  env : Env
  outer : List Env
  stack : List Env
  ex : List Addr
  fn : Str → Bool
  calm : Bool
  pn : List (Addr × Obj)
  xe : Value → Shared → Prop
def frs (l : List Env) : List Addr := l.filterMap (·.frame)
abbrev Cx.fs (X : Cx) : List Addr := frs X.outer
def Vis (sc : Scope) (x : Str) : Prop := sc.names.lookup x = some .local ∨ sc.names.lookup x = some .cell ∨ sc.names.lookup x = some .free
def Loc (sc : Scope) (x : Str) : Prop := sc.names.lookup x = some .local ∨ sc.names.lookup x = some .cell
def Look (env : Env) (h : Heap) (m : Str → Option Value) (x : Str) (u : Value) : Prop :=
  (env.kindOf x = some .local ∧ m x = some u) ∨ ((env.kindOf x = some .cell ∨ env.kindOf x = some .free) ∧ ∃ c, env.cells.lookup x = some c ∧ h.IsCell c (some u))
structure Cx.Ok (X : Cx) : Prop where
  mod : Mod X.K X.mg X.base
  kind : X.env.scope.kind = .function
  glob : X.env.globals = mainGlobals
  blt : X.env.builtins = builtinsNs
  above : X.s₀.heap.objs.size ≤ X.env.locals
  inj : ∀ x y c, X.env.cells.lookup x = some c → X.env.cells.lookup y = some c → x = y
  has : ∀ x, (X.env.kindOf x = some .cell ∨ X.env.kindOf x = some .free) → ∃ c, X.env.cells.lookup x = some c
  cab : ∀ x c, X.fn x = true → X.env.cells.lookup x = some c → X.s₀.heap.objs.size ≤ c
  hd : X.calm = true → X.A.handled = none
  frames : X.A.frames = some X.stack
  stk : X.stack = X.outer ∨ (X.stack = X.env :: X.outer ∧ X.env.frame = some X.env.locals)
  exf : ∀ b ∈ X.ex, b ≠ X.env.locals ∧ ∀ x c, X.env.cells.lookup x = some c → c ≠ b
  bs : ∀ b o, X.base.get? b = some o → X.s₀.heap.get? b = some o ∧ X.H₀ b = none
  bsz : X.base.objs.size ≤ X.s₀.heap.objs.size
  noex : ∀ b o, X.base.get? b = some o → b ∉ X.ex
  exfs : ∀ b ∈ X.ex, b ∉ X.fs
  funs : X.s₀.heap.FunFrames X.base X.outer
  frf : ∀ b ∈ X.fs, X.H₀ b = none
structure Inv (X : Cx) (pins : List (Addr × Obj)) (σ : List (Option V)) (H : Hp) (s : Shared) : Prop where
  ok : X.Ok
  os : s.os = X.s₀.os
  bare : AllBare s.gens
  base : Un X.fs X.ex X.H₀ H X.s₀.heap s.heap
  loc : ∃ m, s.heap.Ns X.env.locals m ∧ ∀ (i : Nat) (x : Str) (v : V), X.N[i]? = some x → σ[i]? = some (some v) → Vis X.env.scope x → ∃ u, RelV v u ∧ Look X.env s.heap m x u
  cell : ∀ x c, X.env.cells.lookup x = some c → ∃ v, s.heap.IsCell c v
  free : H X.env.locals = none
  freeC : ∀ x c, X.env.cells.lookup x = some c → H c = none
  pin : ∀ p ∈ X.pn ++ pins, s.heap.get? p.1 = some p.2 ∧ H p.1 = none ∧ p.1 ≠ X.env.locals ∧ p.1 ∉ X.fs ∧ ∀ v, p.2.data ≠ .cell v
  hok : HOk X.prog X.w H s.heap
  len : σ.length = X.N.length
section
variable {X : Cx} {pins : List (Addr × Obj)} {σ : List (Option V)} {H H' : Hp} {s : Shared} {h' : Heap}
theorem Cx.Ok.nofr (ok : X.Ok) {b : Addr} {o : Obj} (e : X.base.get? b = some o) : b ∉ X.fs := fun hb => by
  have := (ok.funs.mem hb).1
  rw [e] at this; cases this
theorem Inv.bs (I : Inv X pins σ H s) : ∀ b o, X.base.get? b = some o → s.heap.get? b = some o ∧ H b = none := fun b o e =>
  ⟨I.base.keep b o (I.ok.bs b o e).1 (I.ok.bs b o e).2 (I.ok.nofr e) (I.ok.noex b o e), I.base.free b o (I.ok.bs b o e).1 (I.ok.bs b o e).2 (I.ok.noex b o e)⟩
theorem Inv.bk (I : Inv X pins σ H s) : ∀ b o, X.base.get? b = some o → s.heap.get? b = some o := fun b o e => (I.bs b o e).1
theorem Inv.mod (I : Inv X pins σ H s) : Mod X.K X.mg X.base := I.ok.mod
theorem Inv.kIn (I : Inv X pins σ H s) : X.K.In s.heap := I.ok.mod.kin.keeps I.bk
theorem Inv.nolimit (I : Inv X pins σ H s) : s.heap.NoLimit := I.ok.mod.nolimit.keeps I.bk
theorem Inv.fr (I : Inv X pins σ H s) : ∃ m, Fr X.base X.env.locals s.heap m :=
  let ⟨m, hn, _⟩ := I.loc
  ⟨m, hn, I.bk, Nat.le_trans I.ok.bsz I.ok.above⟩
theorem Inv.lt (I : Inv X pins σ H s) : X.env.locals < s.heap.objs.size := let ⟨_, hn, _⟩ := I.loc; hn.lt
theorem Inv.sz (I : Inv X pins σ H s) : X.s₀.heap.objs.size ≤ s.heap.objs.size := Nat.le_trans I.ok.above (Nat.le_of_lt I.lt)
theorem Inv.nofs (I : Inv X pins σ H s) {a : Addr} (h : s.heap.objs.size ≤ a) : a ∉ X.fs := fun hb => by
  obtain ⟨_, o, ho, _⟩ := I.ok.funs.mem hb
  exact absurd (Nat.lt_of_lt_of_le (Heap.lt_size ho) (Nat.le_trans I.sz h)) (Nat.lt_irrefl _)
theorem Inv.cne (I : Inv X pins σ H s) : ∀ x c, X.env.cells.lookup x = some c → c ≠ X.env.locals := fun x c e z => by
  obtain ⟨v, o, ho, hd⟩ := I.cell x c e
  obtain ⟨m, ⟨o', es, ep, ho', hd', _⟩, _⟩ := I.loc
  rw [z, ho'] at ho; cases ho; rw [hd'] at hd; cases hd
theorem Inv.funs (I : Inv X pins σ H s) : s.heap.FunFrames X.base X.outer := by
  have all : ∀ (l : List Env), (∀ b ∈ frs l, b ∈ X.fs) → X.s₀.heap.FunFrames X.base l → s.heap.FunFrames X.base l := by
    intro l
    induction l with
    | nil => intro _ _; trivial
    | cons env r ih =>
      intro hs hl
      obtain ⟨hk, ⟨L, o, hf, hn, ho, hd⟩, hr⟩ := hl
      have hL : L ∈ X.fs := hs L (by unfold frs; rw [List.filterMap_cons, hf]; exact List.mem_cons_self)
      obtain ⟨sl, e⟩ := I.base.slot L o ho (I.ok.frf L hL) hL fun z => I.ok.exfs L z hL
      exact ⟨hk, ⟨L, _, hf, hn, e, hd⟩, ih (fun b hb => hs b (by unfold frs; rw [List.filterMap_cons, hf]; exact List.mem_cons_of_mem _ hb)) hr⟩
  exact all X.outer (fun _ hb => hb) I.ok.funs
theorem Inv.stack (I : Inv X pins σ H s) : s.heap.FunFrames X.base X.stack := by
  rcases I.ok.stk with e | ⟨e, hf⟩
  · rw [e]; exact I.funs
  · rw [e]
    obtain ⟨m, hn, _⟩ := I.loc
    refine .cons (by rw [I.ok.kind]; decide) hf hn ?_ I.funs
    exact Heap.get?_none_of_le (Nat.le_trans I.ok.bsz I.ok.above)
theorem Inv.stkSub (I : Inv X pins σ H s) : ∀ b ∈ frs X.stack, b ∈ X.env.locals :: X.fs := fun b hb => by
  rcases I.ok.stk with e | ⟨e, hf⟩
  · rw [e] at hb; exact List.mem_cons_of_mem _ hb
  · rw [e] at hb
    unfold frs at hb
    rw [List.filterMap_cons, hf] at hb
    exact hb
theorem Inv.stkFree (I : Inv X pins σ H s) : ∀ b ∈ frs X.stack, H b = none := fun b hb => by
  rcases List.mem_cons.mp (I.stkSub b hb) with e | hb
  · rw [e]; exact I.free
  · obtain ⟨_, o, ho, _⟩ := I.ok.funs.mem hb
    exact I.base.free b o ho (I.ok.frf b hb) fun z => I.ok.exfs b z hb
theorem Inv.step {g' : Array GenState} {t' : Nat} {d' : Drawn} {ch : List Addr} (I : Inv X pins σ H s)
    (hch : ∀ b ∈ ch, (b ∈ X.ex ∨ X.s₀.heap.objs.size ≤ b) ∧ b ≠ X.env.locals ∧ (∀ x c, X.env.cells.lookup x = some c → c ≠ b) ∧ ∀ p ∈ X.pn ++ pins, p.1 ≠ b)
    (keep : ∀ b o, b ≠ X.env.locals → b ∉ X.fs → b ∉ ch → s.heap.get? b = some o → H b = none → h'.get? b = some o)
    (slot : ∀ b o, b ≠ X.env.locals → b ∈ X.fs → b ∉ ch → s.heap.get? b = some o → H b = none → ∃ sl, h'.get? b = some { o with slots := sl }) (free : ∀ b o, b ∉ ch → s.heap.get? b = some o → H b = none → H' b = none)
    (there : ∀ b o, b ∉ ch → s.heap.get? b = some o → ∃ o', h'.get? b = some o')
    (tups : ∀ b xs, H b = some (.tup xs) → H' b = some (.tup xs)) (frzs : ∀ b o u, H b = some (.frz o u) → H' b = some (.frz o u)) (tbls : ∀ b ps, H b = some (.tbl ps) → ∃ more, H' b = some (.tbl (ps ++ more)))
    (ns : ∀ m, s.heap.Ns X.env.locals m → h'.Ns X.env.locals m) (hok : HOk X.prog X.w H' h') (hg : AllBare g') :
    Inv X pins σ H' { s with heap := h', gens := g', drawn := d', toks := t' } := by
  have neL : ∀ b o, X.s₀.heap.get? b = some o → b ≠ X.env.locals := fun b o e => Nat.ne_of_lt (Nat.lt_of_lt_of_le (Heap.lt_size e) I.ok.above)
  have neC : ∀ b o, X.s₀.heap.get? b = some o → b ∉ X.ex → b ∉ ch := fun b o e hx hb => by
    rcases (hch b hb).1 with z | z
    · exact hx z
    · exact absurd (Nat.lt_of_lt_of_le (Heap.lt_size e) z) (Nat.lt_irrefl _)
  have cellK : ∀ x c, X.env.cells.lookup x = some c → ∀ v, s.heap.IsCell c v → h'.IsCell c v := fun x c e v ⟨o, ho, hd⟩ => by
    have nch : c ∉ ch := fun z => (hch c z).2.2.1 x c e rfl
    by_cases hc : c ∈ X.fs
    · obtain ⟨sl, q⟩ := slot c o (I.cne x c e) hc nch ho (I.freeC x c e)
      exact ⟨_, q, hd⟩
    · exact ⟨o, keep c o (I.cne x c e) hc nch ho (I.freeC x c e), hd⟩
  refine ⟨I.ok, I.os, hg, ⟨fun b o e n hb hx => ?_, fun b o e n hb hx => ?_, fun b o e n hx => ?_, fun b o e hx => ?_, fun b xs e => tups b xs (I.base.tups b xs e), fun b o xs e => frzs b o xs (I.base.frzs b o xs e), fun b ps e => ?_⟩, ?_, fun x c e => ?_, ?_, fun x c e => ?_, fun p hp => ?_, hok, I.len⟩
  · exact keep b o (neL b o e) hb (neC b o e hx) (I.base.keep b o e n hb hx) (I.base.free b o e n hx)
  · obtain ⟨sl, e1⟩ := I.base.slot b o e n hb hx
    obtain ⟨sl', e2⟩ := slot b _ (neL b o e) hb (neC b o e hx) e1 (I.base.free b o e n hx)
    exact ⟨sl', e2⟩
  · obtain ⟨o', e1⟩ := I.base.there b o e hx
    exact free b o' (neC b o e hx) e1 (I.base.free b o e n hx)
  · obtain ⟨o', e1⟩ := I.base.there b o e hx
    exact there b o' (neC b o e hx) e1
  · obtain ⟨m1, e1⟩ := I.base.tbls b ps e
    obtain ⟨m2, e2⟩ := tbls b _ e1
    exact ⟨m1 ++ m2, by rw [e2, Array.append_assoc]⟩
  · obtain ⟨m, hn, hl⟩ := I.loc
    refine ⟨m, ns m hn, fun i x v e1 e2 e3 => ?_⟩
    obtain ⟨u, r, l⟩ := hl i x v e1 e2 e3
    refine ⟨u, r, ?_⟩
    rcases l with l | ⟨k, c, e, z⟩
    · exact .inl l
    · exact .inr ⟨k, c, e, cellK x c e _ z⟩
  · obtain ⟨v, z⟩ := I.cell x c e
    exact ⟨v, cellK x c e v z⟩
  · obtain ⟨m, ⟨o, _, _, ho, _⟩, _⟩ := I.loc
    exact free _ o (fun z => (hch _ z).2.1 rfl) ho I.free
  · obtain ⟨v, o, ho, hd⟩ := I.cell x c e
    exact free c o (fun z => (hch c z).2.2.1 x c e rfl) ho (I.freeC x c e)
  · obtain ⟨e, n, ne, nf, d⟩ := I.pin p hp
    have nch : p.1 ∉ ch := fun z => (hch p.1 z).2.2.2 p hp rfl
    exact ⟨keep p.1 p.2 ne nf nch e n, free p.1 p.2 nch e n, ne, nf, d⟩
theorem Inv.un {t' : Nat} (I : Inv X pins σ H s) (u : Un X.fs [] H H' s.heap h') (hok : HOk X.prog X.w H' h') : Inv X pins σ H' { s with heap := h', toks := t' } := by
  obtain ⟨m, ⟨o, es, ep, ho, r⟩, _⟩ := id I.loc
  obtain ⟨sl, hL⟩ := u.any ho I.free (by simp)
  exact I.step (g' := s.gens) (d' := s.drawn) (ch := []) (fun _ z => nomatch z) (fun b o _ hb _ e n => u.keep b o e n hb (by simp)) (fun b o _ hb _ e n => u.slot b o e n hb (by simp)) (fun b o _ e n => u.free b o e n (by simp)) (fun b o _ e => u.there b o e (by simp)) u.tups u.frzs u.tbls (fun m' hm => by
    obtain ⟨o', es', ep', ho', r'⟩ := hm
    rw [ho] at ho'; cases ho'
    exact ⟨_, es', ep', hL, r'⟩) hok I.bare
theorem Inv.call {g' : Array GenState} {t' : Nat} {d' : Drawn} {ch : List Addr} (I : Inv X pins σ H s) (u : Un (frs X.stack) ch H H' s.heap h') (hok : HOk X.prog X.w H' h') (hg : AllBare g')
    (hch : ∀ b ∈ ch, (b ∈ X.ex ∨ X.s₀.heap.objs.size ≤ b) ∧ b ≠ X.env.locals ∧ (∀ x c, X.env.cells.lookup x = some c → c ≠ b) ∧ ∀ p ∈ X.pn ++ pins, p.1 ≠ b) :
    Inv X pins σ H' { s with heap := h', gens := g', drawn := d', toks := t' } := by
  obtain ⟨m, ⟨o, es, ep, ho, r⟩, _⟩ := id I.loc
  obtain ⟨sl, hL⟩ := u.any ho I.free fun z => (hch _ z).2.1 rfl
  exact I.step (ch := ch) hch (fun b o hL hb hc e n => u.keep b o e n (fun z => (List.mem_cons.mp (I.stkSub b z)).elim hL hb) hc) (fun b o _ _ hc e n => u.any e n hc) (fun b o hc e n => u.free b o e n hc) (fun b o hc e => u.there b o e hc) u.tups u.frzs u.tbls (fun m' hm => by
    obtain ⟨o', es', ep', ho', r'⟩ := hm
    rw [ho] at ho'; cases ho'
    exact ⟨_, es', ep', hL, r'⟩) hok hg
theorem Inv.turned {t' : Nat} {it : Addr} (I : Inv X pins σ H s) (k : ∀ b o, b ≠ it → s.heap.get? b = some o → h'.get? b = some o) (hn : H it = none) (hL : it ≠ X.env.locals)
    (h1 : it ∈ X.ex ∨ X.s₀.heap.objs.size ≤ it) (h2 : ∀ x c, X.env.cells.lookup x = some c → c ≠ it) (h3 : ∀ p ∈ X.pn ++ pins, p.1 ≠ it) : Inv X pins σ H { s with heap := h', toks := t' } := by
  have nit : ∀ b u, H b = some u → b ≠ it := fun b u e z => by rw [z, hn] at e; cases e
  refine I.step (g' := s.gens) (d' := s.drawn) (ch := [it]) (fun b hb => ?_) (fun b o _ _ hc e _ => k b o (fun z => hc (by simp [z])) e) (fun b o _ _ hc e _ => ⟨o.slots, k b o (fun z => hc (by simp [z])) e⟩) (fun _ _ _ _ n => n)
    (fun b o hc e => ⟨o, k b o (fun z => hc (by simp [z])) e⟩) (fun _ _ e => e) (fun _ _ _ e => e) (fun b ps e => ⟨#[], by rw [e]; simp⟩) (fun m hm => ?_) (fun b u e => ?_) I.bare
  · have e : b = it := by simpa using hb
    subst e
    exact ⟨h1, hL, h2, h3⟩
  · obtain ⟨o, es, ep, ho, r⟩ := hm
    exact ⟨o, es, ep, k _ o (Ne.symm hL) ho, r⟩
  · refine (I.hok b u e).stay (fun c v hc q => k c v ?_ q) (fun _ q => q) fun _ _ q => q
    rcases hc with z | z
    · rw [z]; exact nit b u e
    · exact nit c _ z
theorem Inv.tok (I : Inv X pins σ H s) (t : Nat) : Inv X pins σ H { s with toks := t } := I.un (h' := s.heap) (t' := t) Un.refl I.hok
theorem Inv.kept {t' : Nat} (I : Inv X pins σ H s) (k : ∀ b u, s.heap.get? b = some u → h'.get? b = some u) : Inv X pins σ H { s with heap := h', toks := t' } := I.un (Un.kept k) (I.hok.kept k)
theorem Inv.laid {a : Addr} {o : HO} {t' : Nat} (I : Inv X pins σ H s) (k : ∀ b u, s.heap.get? b = some u → h'.get? b = some u) (hp : s.heap.objs.size ≤ a) (new : ObjOk X.prog X.w (upd H a o) h' a o) :
    Inv X pins σ (upd H a o) { s with heap := h', toks := t' } := I.un (Un.laid k hp (I.hok.fresh hp)) (I.hok.laid k hp new)
theorem Inv.write {x e : Addr} {o : HO} {t' : Nat} (I : Inv X pins σ H s) (mu : Mut (H x)) (he : e = x ∨ H e = some (.own x)) (k : ∀ b u, b ≠ e → s.heap.get? b = some u → h'.get? b = some u) (heo : ∃ u, h'.get? e = some u)
    (new : ObjOk X.prog X.w (upd H x o) h' x o) : Inv X pins σ (upd H x o) { s with heap := h', toks := t' } := I.un (Un.write mu he k heo) (I.hok.write mu he k heo new)
theorem Inv.weak {σ' : List (Option V)} (I : Inv X pins σ H s) (hl : σ'.length = σ.length) (w : ∀ (i : Nat) v, σ'[i]? = some (some v) → σ[i]? = some (some v)) : Inv X pins σ' H s :=
  ⟨I.ok, I.os, I.bare, I.base, let ⟨m, hn, hl'⟩ := I.loc; ⟨m, hn, fun i x v e1 e2 e3 => hl' i x v e1 (w i v e2) e3⟩, I.cell, I.free, I.freeC, I.pin, I.hok, hl.trans I.len⟩
theorem Inv.pins_of {pins' : List (Addr × Obj)} (I : Inv X pins σ H s) (h : ∀ p ∈ pins', s.heap.get? p.1 = some p.2 ∧ H p.1 = none ∧ p.1 ≠ X.env.locals ∧ p.1 ∉ X.fs ∧ ∀ v, p.2.data ≠ .cell v) : Inv X pins' σ H s :=
  ⟨I.ok, I.os, I.bare, I.base, I.loc, I.cell, I.free, I.freeC, fun p hp => (List.mem_append.mp hp).elim (fun z => I.pin p (List.mem_append_left _ z)) (h p), I.hok, I.len⟩
theorem nodup_ix {N : List Str} (hN : N.Nodup) {i j : Nat} {x : Str} (a : N[i]? = some x) (b : N[j]? = some x) : i = j := by
  obtain ⟨h1, e1⟩ := List.getElem?_eq_some_iff.mp a
  obtain ⟨h2, e2⟩ := List.getElem?_eq_some_iff.mp b
  exact (List.getElem_inj hN).mp (e1.trans e2.symm)
theorem store_ok2 {M : Model} {A : Around} {E : Value → Shared → Prop} {i : Nat} {x : Str} {v : V} {u : Value} {Q : Unit → Shared → Prop} (I : Inv X pins σ H s) (hN : X.N.Nodup) (hi : X.N[i]? = some x) (hx : Loc X.env.scope x) (r : RelV v u)
    (h : ∀ s', Inv X pins (σ.set i (some v)) H s' → (∃ a, Heap.SameBut a s.heap s'.heap ∧ (a = X.env.locals ∨ X.env.cells.lookup x = some a)) → Q () s') (hf : X.fn x = true ∨ X.env.scope.names.lookup x = some .local := by first | exact .inl rfl | exact .inr rfl | assumption) : wpAny M A (storeName X.env x u) Q E s := by
  obtain ⟨m, hn, hl⟩ := id I.loc
  have hcls : (X.env.scope.kind == .class || (X.env.scope.kind == .module && X.env.locals != X.env.globals)) = false := by rw [I.ok.kind]; rfl
  have hiσ : i < σ.length := by rw [I.len]; exact (List.getElem?_eq_some_iff.mp hi).1
  have cne := I.cne
  have tracked : ∀ {a : Addr} {h' : Heap}, (∃ o, s.heap.get? a = some o ∧ H a = none) → Heap.SameBut a s.heap h' → HOk X.prog X.w H h' := fun {a h'} ha hs b ob e => by
    obtain ⟨_, _, hfree⟩ := ha
    refine (I.hok b ob e).stay (fun c w' hc q => (hs.2 c ?_).trans q) (fun _ q => q) fun _ _ q => q
    rintro rfl
    rcases hc with rfl | hc
    · rw [hfree] at e; cases e
    · rw [hfree] at hc; cases hc
  rcases hx with hk | hk
  · refine wpAny_storeName_local hk hn (fun h' hn' hs => ?_) hcls
    obtain ⟨oL, _, _, hoL, _⟩ := id hn
    refine h _ ⟨I.ok, I.os, I.bare, ⟨fun b o e n hb hx => ?_, fun b o e n hb hx => ?_, I.base.free, fun b o e hx => ?_, I.base.tups, I.base.frzs, I.base.tbls⟩, ⟨_, hn', fun j y v' e1 e2 e3 => ?_⟩, fun y c e => ?_, I.free, I.freeC, fun p hp => ?_, tracked ⟨oL, hoL, I.free⟩ hs, by simpa using I.len⟩ ⟨_, hs, .inl rfl⟩
    · exact (hs.2 b (Nat.ne_of_lt (Nat.lt_of_lt_of_le (Heap.lt_size e) I.ok.above))).trans (I.base.keep b o e n hb hx)
    · obtain ⟨sl, e1⟩ := I.base.slot b o e n hb hx
      exact ⟨sl, (hs.2 b (Nat.ne_of_lt (Nat.lt_of_lt_of_le (Heap.lt_size e) I.ok.above))).trans e1⟩
    · obtain ⟨o', e1⟩ := I.base.there b o e hx
      exact ⟨o', (hs.2 b (Nat.ne_of_lt (Nat.lt_of_lt_of_le (Heap.lt_size e) I.ok.above))).trans e1⟩
    · by_cases hj : j = i
      · subst hj
        rw [hi] at e1; cases e1
        rw [List.getElem?_set_self hiσ] at e2
        cases e2
        exact ⟨u, r, .inl ⟨hk, by simp⟩⟩
      · rw [List.getElem?_set_ne (Ne.symm hj)] at e2
        obtain ⟨u', r', q⟩ := hl j y v' e1 e2 e3
        refine ⟨u', r', ?_⟩
        rcases q with ⟨k, e⟩ | ⟨k, c, e, z⟩
        · refine .inl ⟨k, ?_⟩
          have : y ≠ x := fun e => hj (nodup_ix hN e1 (e ▸ hi))
          simp [this, e]
        · exact .inr ⟨k, c, e, z.sameBut hs (cne y c e)⟩
    · obtain ⟨w', z⟩ := I.cell y c e
      exact ⟨w', z.sameBut hs (cne y c e)⟩
    · obtain ⟨e, n, ne, nf, d⟩ := I.pin p hp
      exact ⟨(hs.2 p.1 ne).trans e, n, ne, nf, d⟩
  · have hfn : X.fn x = true := by
      rcases hf with z | z
      · exact z
      · rw [z] at hk; cases hk
    obtain ⟨c, hc⟩ := I.ok.has x (.inl hk)
    obtain ⟨w', z⟩ := I.cell x c hc
    refine wpAny_storeName_cell I.ok.kind hk hc z (fun h' hc' hs => ?_)
    obtain ⟨oc, hoc, hocd⟩ := id z
    refine h { s with heap := h' } ⟨I.ok, I.os, I.bare, ⟨fun b o e n hb hx => ?_, fun b o e n hb hx => ?_, I.base.free, fun b o e hx => ?_, I.base.tups, I.base.frzs, I.base.tbls⟩, ⟨m, hn.sameBut hs (Ne.symm (cne x c hc)), fun j y v' e1 e2 e3 => ?_⟩, fun y c' e => ?_, I.free, I.freeC, fun p hp => ?_, tracked ⟨oc, hoc, I.freeC x c hc⟩ hs, by simpa using I.len⟩ ⟨c, hs, .inr hc⟩
    · exact (hs.2 b (Nat.ne_of_lt (Nat.lt_of_lt_of_le (Heap.lt_size e) (I.ok.cab x c hfn hc)))).trans (I.base.keep b o e n hb hx)
    · obtain ⟨sl, e1⟩ := I.base.slot b o e n hb hx
      exact ⟨sl, (hs.2 b (Nat.ne_of_lt (Nat.lt_of_lt_of_le (Heap.lt_size e) (I.ok.cab x c hfn hc)))).trans e1⟩
    · obtain ⟨o', e1⟩ := I.base.there b o e hx
      exact ⟨o', (hs.2 b (Nat.ne_of_lt (Nat.lt_of_lt_of_le (Heap.lt_size e) (I.ok.cab x c hfn hc)))).trans e1⟩
    · by_cases hj : j = i
      · subst hj
        rw [hi] at e1; cases e1
        rw [List.getElem?_set_self hiσ] at e2
        cases e2
        exact ⟨u, r, .inr ⟨.inl hk, c, hc, hc'⟩⟩
      · rw [List.getElem?_set_ne (Ne.symm hj)] at e2
        obtain ⟨u', r', q⟩ := hl j y v' e1 e2 e3
        refine ⟨u', r', ?_⟩
        rcases q with q | ⟨k, c', e, z'⟩
        · exact .inl q
        · refine .inr ⟨k, c', e, z'.sameBut hs ?_⟩
          rintro rfl
          exact hj (nodup_ix hN e1 (I.ok.inj _ _ _ e hc ▸ hi))
    · by_cases hcc : c' = c
      · subst hcc; exact ⟨_, hc'⟩
      · obtain ⟨w2, z2⟩ := I.cell y c' e
        exact ⟨w2, z2.sameBut hs hcc⟩
    · obtain ⟨e, n, ne, nf, d⟩ := I.pin p hp
      refine ⟨(hs.2 p.1 ?_).trans e, n, ne, nf, d⟩
      intro q
      rw [q, hoc] at e
      have q' : oc = p.2 := Option.some.inj e
      exact d w' (by rw [← q']; exact hocd)
theorem store_ok {M : Model} {A : Around} {E : Value → Shared → Prop} {i : Nat} {x : Str} {v : V} {u : Value} {Q : Unit → Shared → Prop} (I : Inv X pins σ H s) (hN : X.N.Nodup) (hi : X.N[i]? = some x) (hx : Loc X.env.scope x) (r : RelV v u)
    (h : ∀ s', Inv X pins (σ.set i (some v)) H s' → Q () s') (hf : X.fn x = true ∨ X.env.scope.names.lookup x = some .local := by first | exact .inl rfl | exact .inr rfl | assumption) : wpAny M A (storeName X.env x u) Q E s :=
  store_ok2 I hN hi hx r (fun s' I' _ => h s' I') hf
theorem Inv.call' {s' : Shared} {ch : List Addr} (I : Inv X pins σ H s) (ho : s'.os = s.os) (u : Un (frs X.stack) ch H H' s.heap s'.heap) (hok : HOk X.prog X.w H' s'.heap) (hg : AllBare s'.gens)
    (hch : ∀ b ∈ ch, (b ∈ X.ex ∨ X.s₀.heap.objs.size ≤ b) ∧ b ≠ X.env.locals ∧ (∀ x c, X.env.cells.lookup x = some c → c ≠ b) ∧ ∀ p ∈ X.pn ++ pins, p.1 ≠ b) : Inv X pins σ H' s' := by
  obtain ⟨h', g', d', t', o'⟩ := s'
  have e : o' = s.os := ho
  subst e
  exact I.call (g' := g') (t' := t') (d' := d') u hok hg hch
end
abbrev XK := Value → Option Addr → Hp → Prop
abbrev St := List (Option V)
abbrev VK := V → Hp → Prop
abbrev TE := St → Hp → VK → Prop
abbrev TT := St → Hp → (Bool → Hp → Prop) → Prop
abbrev TA := St → Hp → (List V → Hp → Prop) → Prop
structure Ends where
  nx : St → Hp → Prop
  rt : VK
  bk : St → Hp → Prop := fun _ _ => False
  ct : St → Hp → Prop := fun _ _ => False
abbrev TS := Ends → St → Hp → Prop
def EP (X : Cx) (pins : List (Addr × Obj)) (σ : St) (Q : VK) (u : Value) (s' : Shared) : Prop := ∃ v H', Inv X pins σ H' s' ∧ RelV v u ∧ Q v H'
def TP (X : Cx) (pins : List (Addr × Obj)) (σ : St) (Q : Bool → Hp → Prop) (b : Bool) (s' : Shared) : Prop := ∃ H', Inv X pins σ H' s' ∧ Q b H'
def AP (X : Cx) (pins : List (Addr × Obj)) (σ : St) (Q : List V → Hp → Prop) (us : List Value) (s' : Shared) : Prop := ∃ vs H', Inv X pins σ H' s' ∧ Vals vs us ∧ Q vs H'
def SP (X : Cx) (pins : List (Addr × Obj)) (D : Ends) (f : Flow) (s' : Shared) : Prop :=
  match f with
  | .next => ∃ σ' H', Inv X pins σ' H' s' ∧ D.nx σ' H'
  | .brk => ∃ σ' H', Inv X pins σ' H' s' ∧ D.bk σ' H'
  | .cont => ∃ σ' H', Inv X pins σ' H' s' ∧ D.ct σ' H'
  | .ret u => ∃ v σ' H', Inv X pins σ' H' s' ∧ RelV v u ∧ D.rt v H'
def PE (X : Cx) (e : Expr) (t : TE) : Prop :=
  ∀ (pins : List (Addr × Obj)) (s : Shared) (σ : St) (H : Hp) (Q : VK), Inv X pins σ H s → t σ H Q → wpAny (model X.prog X.w) X.A (eval e X.env) (EP X pins σ Q) X.xe s
def PT (X : Cx) (e : Expr) (t : TT) : Prop :=
  ∀ (pins : List (Addr × Obj)) (s : Shared) (σ : St) (H : Hp) (Q : Bool → Hp → Prop), Inv X pins σ H s → t σ H Q → wpAny (model X.prog X.w) X.A (isTrue e X.env (eval e X.env)) (TP X pins σ Q) X.xe s
def PW (X : Cx) (e : Expr) (t : TT) : Prop :=
  ∀ (whole : Sem Value) (pins : List (Addr × Obj)) (s : Shared) (σ : St) (H : Hp) (Q : Bool → Hp → Prop), Inv X pins σ H s → t σ H Q → wpAny (model X.prog X.w) X.A (isTrue e X.env whole) (TP X pins σ Q) X.xe s
theorem PW.pt {X : Cx} {e : Expr} {t : TT} (h : PW X e t) : PT X e t := h _
def PA (X : Cx) (es : List Expr) (t : TA) : Prop :=
  ∀ (pos : Pos) (pins : List (Addr × Obj)) (s : Shared) (σ : St) (H : Hp) (Q : List V → Hp → Prop), Inv X pins σ H s → t σ H Q → wpAny (model X.prog X.w) X.A (spliced (backTo pos (starEach es X.env))) (AP X pins σ Q) X.xe s
def PS (X : Cx) (st : Stmt) (t : TS) : Prop :=
  ∀ (pins : List (Addr × Obj)) (s : Shared) (σ : St) (H : Hp) (D : Ends), Inv X pins σ H s → t D σ H → wpAny (model X.prog X.w) X.A (exec st X.env) (SP X pins D) X.xe s
def PSs (X : Cx) (st : List Stmt) (t : TS) : Prop :=
  ∀ (pins : List (Addr × Obj)) (s : Shared) (σ : St) (H : Hp) (D : Ends), Inv X pins σ H s → t D σ H → wpAny (model X.prog X.w) X.A (execs st X.env) (SP X pins D) X.xe s
theorem thn {α : Type} {t : Sem α} {Q Q' : α → Shared → Prop} {M : Model} {A : Around} {E : Value → Shared → Prop} {s : Shared} (h : wpAny M A t Q E s) (hQ : ∀ a s, Q a s → Q' a s) : wpAny M A t Q' E s := wpAny_mono h hQ fun _ _ x => x
end L2
namespace L2
open PySem PySem.Spec PyProof.Rows
section
variable {X : Cx}
def tVar (i : Nat) : TE := fun σ H Q => ∃ v, σ[i]? = some (some v) ∧ Q v H
def tC (v : V) : TE := fun _ H Q => Q v H
theorem pe_var {i : Nat} {x : Str} {pos : Pos} (hN : X.N[i]? = some x) (hv : Vis X.env.scope x) (hd : (x == ("__debug__" : Str)) = false := by decide) (hcd : (x == ("__classdict__" : Str)) = false := by decide) : PE X (.Name x pos) (tVar i) := by
  intro pins s σ H Q I h
  obtain ⟨v, e, h⟩ := h
  obtain ⟨m, hn, hl⟩ := I.loc
  obtain ⟨u, r, l⟩ := hl i x v hN e hv
  have fin : EP X pins σ Q u s := ⟨v, H, I, r, h⟩
  rcases l with ⟨hk, hm⟩ | ⟨hk, c, hc, hcell⟩
  · exact wpAny_Name (wpAny_loadName_local I.ok.kind hk hn hm fin) hd
  · rcases hk with hk | hk
    · exact wpAny_Name (wpAny_loadName_cell I.ok.kind hk hc hcell fin) hd
    · exact wpAny_Name (wpAny_loadName_free I.ok.kind hk hc hcell fin hcd) hd
theorem pe_int {i j pos} : PE X (.Constant (.int i) j pos) (tC (.int i)) := fun _ _ _ H _ I h => wpAny_Constant_int ⟨.int i, H, I.tok _, ⟨_, rfl⟩, h⟩
theorem pe_bl {b j pos} : PE X (.Constant (.bool b) j pos) (tC (.bl b)) := fun _ _ _ H _ I h => Constant_bool ⟨.bl b, H, I, rfl, h⟩
theorem pe_non {j pos} : PE X (.Constant .none j pos) (tC .non) := fun _ _ _ H _ I h => Constant_none ⟨.non, H, I, rfl, h⟩
theorem pe_str {x j pos} : PE X (.Constant (.str x) j pos) (tC (.str x)) := fun _ _ _ H _ I h => Calls.Constant_str ⟨.str x, H, I.tok _, ⟨_, rfl⟩, h⟩
def Gl (X : Cx) (x : Str) : Prop := X.env.kindOf x = some .globalImplicit
theorem ld_glob {E : Value → Shared → Prop} {pins : List (Addr × Obj)} {s : Shared} {σ : St} {H : Hp} {x : Str} {u : Value} {pos : Pos} {Q : Value → Shared → Prop} (I : Inv X pins σ H s) (hg : Gl X x) (hm : X.mg x = some u) (h : Q u s)
    (hd : (x == ("__debug__" : Str)) = false := by decide) : wpAny (model X.prog X.w) X.A (eval (.Name x pos) X.env) Q E s :=
  Calls.Name_function_global I.ok.kind hg (Calls.loadGlobal_global (by rw [I.ok.glob]; exact I.mod.glob.keeps I.bk) hm h) hd
theorem ld_blt {E : Value → Shared → Prop} {pins : List (Addr × Obj)} {s : Shared} {σ : St} {H : Hp} {x : Str} {u : Value} {pos : Pos} {Q : Value → Shared → Prop} (I : Inv X pins σ H s) (hg : Gl X x) (hm : X.mg x = none) (hv : bootBuiltins x = some u) (h : Q u s)
    (hn : x ≠ "__name__" := by decide) (hd : (x == ("__debug__" : Str)) = false := by decide) : wpAny (model X.prog X.w) X.A (eval (.Name x pos) X.env) Q E s := by
  obtain ⟨mb, h1, h2⟩ := I.mod.blt
  exact Calls.Name_function_global I.ok.kind hg (Calls.loadGlobal_builtin (by rw [I.ok.glob]; exact I.mod.glob.keeps I.bk) hm (by rw [I.ok.blt]; exact h1.keeps I.bk) ((h2 x hn).trans hv) h) hd
theorem pe_glob {x : Str} {v : V} {u : Value} {pos : Pos} (hg : Gl X x) (hm : X.mg x = some u) (r : RelV v u) (hd : (x == ("__debug__" : Str)) = false := by decide) : PE X (.Name x pos) (tC v) :=
  fun _ _ _ H _ I h => ld_glob I hg hm ⟨v, H, I, r, h⟩ hd
theorem pe_bltn {x : Str} {v : V} {u : Value} {pos : Pos} (hg : Gl X x) (hm : X.mg x = none) (hv : bootBuiltins x = some u) (r : RelV v u) (hn : x ≠ "__name__" := by decide) (hd : (x == ("__debug__" : Str)) = false := by decide) : PE X (.Name x pos) (tC v) :=
  fun _ _ _ H _ I h => ld_blt I hg hm hv ⟨v, H, I, r, h⟩ hn hd
variable {a b : Expr} {ta tb : TE} {pos : Pos}
def PC (X : Cx) (op : CmpOp) (a b : Expr) (t : TE) : Prop :=
  ∀ (pins : List (Addr × Obj)) (s : Shared) (σ : St) (H : Hp) (Q : VK), Inv X pins σ H s → t σ H Q →
    wpAny (model X.prog X.w) X.A (eval a X.env) (fun v s₁ => wpAny (model X.prog X.w) X.A (eval b X.env) (fun u s₂ => wpAny (model X.prog X.w) X.A (compareOp op v u) (EP X pins σ Q) X.xe s₂) X.xe s₁) X.xe s
theorem nobehind (b : Expr) {op : CmpOp} (h : op ≠ .In) (h2 : op ≠ .NotIn) : behindInMarks op b = false := by
  have e1 : (op == CmpOp.In) = false := by cases op <;> first | rfl | exact absurd rfl h
  have e2 : (op == CmpOp.NotIn) = false := by cases op <;> first | rfl | exact absurd rfl h2
  cases b <;> simp [behindInMarks, e1, e2]
def tB (t : TE) : TT := fun σ H Q => t σ H fun x H1 => ∃ c, x = .bl c ∧ Q c H1
theorem pt_cmp {op : CmpOp} {t : TE} (h : PC X op a b t) (h1 : behindInMarks op b = false := by first | exact nobehind _ (by decide) (by decide) | rfl) : PT X (.Compare a [op] [b] pos) (tB t) := by
  intro pins s σ H Q I hw
  refine wpAny_isTrue_Compare1 (thn (h pins s σ H _ I hw) fun v s1 h1 => thn h1 fun u s2 h2 => thn h2 fun c s3 ⟨x, H1, I1, r1, q1⟩ => ?_) h1
  obtain ⟨d, rfl, q⟩ := q1
  cases r1
  exact wpAny_truthy_bool ⟨H1, I1, q⟩
theorem pt_val {e : Expr} {t : TE} (h : PE X e t) (he : ∀ whole, isTrue e X.env whole = (do let v ← whole; standAt e.pos; holding [v] (truthy v)) := by intro _; rfl) : PT X e (tB t) := by
  intro pins s σ H Q I hw
  refine isTrue_plain (thn (h pins s σ H _ I hw) fun v s1 ⟨x, H1, I1, r1, q1⟩ => ?_) (he _)
  obtain ⟨d, rfl, q⟩ := q1
  cases r1
  exact wpAny_truthy_bool ⟨H1, I1, q⟩
variable {tA tB' : TT} {rest : List Expr}
def tAnd (t u : TT) : TT := fun σ H Q => t σ H fun c H1 => if c = true then u σ H1 Q else Q false H1
def tOr (t u : TT) : TT := fun σ H Q => t σ H fun c H1 => if c = true then Q true H1 else u σ H1 Q
def tNot (t : TT) : TT := fun σ H Q => t σ H fun c H1 => Q (!c) H1
theorem pw_and1 (ha : PT X a tA) : PW X (.BoolOp .And [a] pos) tA := by
  intro wh pins s σ H Q I h
  refine isTrue_and (thn (ha pins s σ H Q I h) fun c s1 e => ?_)
  cases c with
  | true => exact isTrue_and_nil e
  | false => exact e
theorem pw_or1 (ha : PT X a tA) : PW X (.BoolOp .Or [a] pos) tA := by
  intro wh pins s σ H Q I h
  refine isTrue_or (thn (ha pins s σ H Q I h) fun c s1 e => ?_)
  cases c with
  | false => exact isTrue_or_nil e
  | true => exact e
theorem pw_and (ha : PT X a tA) (hb : PW X (.BoolOp .And (b :: rest) pos) tB') : PW X (.BoolOp .And (a :: b :: rest) pos) (tAnd tA tB') := by
  intro wh pins s σ H Q I h
  refine isTrue_and (thn (ha pins s σ H _ I h) fun c s1 ⟨H1, I1, q1⟩ => ?_)
  cases c with
  | true => exact hb wh pins s1 σ H1 Q I1 q1
  | false => exact ⟨H1, I1, q1⟩
theorem pw_or (ha : PT X a tA) (hb : PW X (.BoolOp .Or (b :: rest) pos) tB') : PW X (.BoolOp .Or (a :: b :: rest) pos) (tOr tA tB') := by
  intro wh pins s σ H Q I h
  refine isTrue_or (thn (ha pins s σ H _ I h) fun c s1 ⟨H1, I1, q1⟩ => ?_)
  cases c with
  | true => exact ⟨H1, I1, q1⟩
  | false => exact hb wh pins s1 σ H1 Q I1 q1
theorem pt_not (ha : PT X a tA) : PT X (.UnaryOp .Not a pos) (tNot tA) := by
  intro pins s σ H Q I h
  exact isTrue_not (ha pins s σ H (fun c H1 => Q (!c) H1) I h)
def tAndV (ta tb : TE) : TE := fun σ H Q => ta σ H fun x H1 => ∃ c, x = .bl c ∧ if c = true then tb σ H1 Q else Q (.bl false) H1
theorem pe_one {op} {t : TE} (h : PE X a t) : PE X (.BoolOp op [a] pos) t := fun pins s σ H Q I hw => BoolOp_one (h pins s σ H Q I hw)
theorem pe_and (ha : PE X a ta) (hb : PE X (.BoolOp .And (b :: rest) pos) tb) : PE X (.BoolOp .And (a :: b :: rest) pos) (tAndV ta tb) := by
  intro pins s σ H Q I h
  refine BoolOp_and (thn (ha pins s σ H _ I h) fun v s1 ⟨x, H1, I1, r1, q1⟩ => ?_)
  obtain ⟨c, rfl, q1⟩ := q1
  cases r1
  refine wpAny_truthy_bool ?_
  cases c with
  | true => exact hb pins s1 σ H1 Q I1 q1
  | false => exact ⟨.bl false, H1, I1, rfl, q1⟩
end
end L2
namespace L2
open PySem PySem.Spec PyProof.Rows
def SqL (K : PySem.W.Frag) (H : Hp) (a : Addr) (xs : List V) : Prop :=
  Rd H a (.lst xs) ∨
    ∃ (o : Obj) (its : Array Value) (n : Nat), K.lookup a = some o ∧ o.cls = .type "list" ∧ o.dict = none ∧ o.data = .seq its n ∧ its.size ≤ sizeLine ∧ Vals xs its.toList
def SqT (K : PySem.W.Frag) (H : Hp) (a : Addr) (xs : List V) : Prop :=
  Rd H a (.tup xs) ∨
    ∃ (o : Obj) (its : Array Value) (n : Nat), K.lookup a = some o ∧ o.cls = .type "tuple" ∧ o.data = .seq its n ∧ its.size ≤ sizeLine ∧ Vals xs its.toList
def absV : Value → Option V
  | .none => some .non
  | .bool b => some (.bl b)
  | .int i _ => some (.int i)
  | .str x _ => some (.str x)
  | .bytes b _ => some (.byt b)
  | .float b _ => some (.flt b)
  | .ref a => some (.ref a)
  | .type n => some (.ty n)
  | _ => none
theorem RelV.abs {x : V} {u : Value} (r : RelV x u) : absV u = some x := by
  cases x with
  | non => cases r; rfl
  | bl _ => cases r; rfl
  | int _ => obtain ⟨t, rfl⟩ := r; rfl
  | str _ => obtain ⟨t, rfl⟩ := r; rfl
  | byt _ => obtain ⟨t, rfl⟩ := r; rfl
  | flt _ => obtain ⟨t, rfl⟩ := r; rfl
  | ref _ => cases r; rfl
  | ty _ => cases r; rfl
theorem RelV.inj {x y : V} {u : Value} (r : RelV x u) (q : RelV y u) : x = y := Option.some.inj (r.abs.symm.trans q.abs)
theorem Vals.inj : ∀ {xs ys : List V} {us : List Value}, Vals xs us → Vals ys us → xs = ys
  | _, _, _, .nil, .nil => rfl
  | _, _, _, .cons r t, .cons r' t' => by rw [r.inj r', Vals.inj t t']
section
variable {X : Cx} {pins : List (Addr × Obj)} {σ : St} {H : Hp} {s : Shared} {a : Addr} {xs ys : List V}
theorem SqL.of {K : PySem.W.Frag} (h : H a = some (.lst xs)) : SqL K H a xs := .inl (.inl h)
theorem SqT.of {K : PySem.W.Frag} (h : H a = some (.tup xs)) : SqT K H a xs := .inl (.inl h)
theorem Inv.list (I : Inv X pins σ H s) (h : SqL X.K H a xs) : ∃ its : List Value, Vals xs its ∧ PlainL s.heap a its.toArray ∧ xs.length ≤ sizeLine := by
  rcases h with h | ⟨o, its, n, hk, hc, hd, hs, hz, r⟩
  · obtain ⟨z, its, n, r, e⟩ := h.ok I.hok
    exact ⟨its, r, ⟨_, n, e, rfl, rfl, rfl⟩, z⟩
  · refine ⟨its.toList, r, ⟨o, n, I.kIn a o hk, hc, hd, by simpa using hs⟩, ?_⟩
    have e := r.length
    simp only [Array.length_toList] at e
    omega
theorem Inv.tuple (I : Inv X pins σ H s) (h : SqT X.K H a xs) : ∃ its : List Value, Vals xs its ∧ IsTup s.heap a its.toArray ∧ xs.length ≤ sizeLine := by
  rcases h with h | ⟨o, its, n, hk, hc, hs, hz, r⟩
  · obtain ⟨z, its, r, p⟩ := h.ok I.hok
    exact ⟨its, r, p, z⟩
  · refine ⟨its.toList, r, ⟨o, I.kIn a o hk, hc, n, by simpa using hs⟩, ?_⟩
    have e := r.length
    simp only [Array.length_toList] at e
    omega
theorem Inv.list_inj (I : Inv X pins σ H s) (h : SqL X.K H a xs) (h' : SqL X.K H a ys) : xs = ys := by
  obtain ⟨its, r, ⟨o, n, e, _, _, d⟩, _⟩ := I.list h
  obtain ⟨its', r', ⟨o', n', e', _, _, d'⟩, _⟩ := I.list h'
  rw [e] at e'; cases e'
  rw [d] at d'
  injection d' with d1 _
  have : its = its' := by simpa using congrArg Array.toList d1
  subst this
  exact r.inj r'
end
abbrev Cx.wish (X : Cx) (E : Value → Shared → Prop) : Cx := { X with xe := E }
abbrev Cx.nox (X : Cx) : Cx := X.wish fun _ _ => False
theorem Cx.Ok.wish {X : Cx} (ok : X.Ok) (E : Value → Shared → Prop) : (X.wish E).Ok :=
  ⟨ok.mod, ok.kind, ok.glob, ok.blt, ok.above, ok.inj, ok.has, ok.cab, ok.hd, ok.frames, ok.stk, ok.exf, ok.bs, ok.bsz, ok.noex, ok.exfs, ok.funs, ok.frf⟩
theorem Cx.Ok.unwish {X : Cx} {E : Value → Shared → Prop} (ok : (X.wish E).Ok) : X.Ok :=
  ⟨ok.mod, ok.kind, ok.glob, ok.blt, ok.above, ok.inj, ok.has, ok.cab, ok.hd, ok.frames, ok.stk, ok.exf, ok.bs, ok.bsz, ok.noex, ok.exfs, ok.funs, ok.frf⟩
section
variable {X : Cx} {pins : List (Addr × Obj)} {σ : St} {H : Hp} {s : Shared} {E : Value → Shared → Prop}
theorem Inv.wish (I : Inv X pins σ H s) (E : Value → Shared → Prop) : Inv (X.wish E) pins σ H s := ⟨I.ok.wish E, I.os, I.bare, I.base, I.loc, I.cell, I.free, I.freeC, I.pin, I.hok, I.len⟩
theorem Inv.unwish (I : Inv (X.wish E) pins σ H s) : Inv X pins σ H s := ⟨I.ok.unwish, I.os, I.bare, I.base, I.loc, I.cell, I.free, I.freeC, I.pin, I.hok, I.len⟩
theorem SP.unwish {D : Ends} {f : Flow} {s' : Shared} (h : SP (X.wish E) pins D f s') : SP X pins D f s' := by
  cases f with
  | next => obtain ⟨σ', H', I, q⟩ := h; exact ⟨σ', H', I.unwish, q⟩
  | brk => obtain ⟨σ', H', I, q⟩ := h; exact ⟨σ', H', I.unwish, q⟩
  | cont => obtain ⟨σ', H', I, q⟩ := h; exact ⟨σ', H', I.unwish, q⟩
  | ret u => obtain ⟨v, σ', H', I, r, q⟩ := h; exact ⟨v, σ', H', I.unwish, r, q⟩
theorem PE.nox {e : Expr} {t : TE} (h : PE X.nox e t) : PE X e t := fun pins s σ H Q I hw =>
  wpAny_mono (h pins s σ H Q (I.wish _) hw) (fun _ _ ⟨v, H', I', r, q⟩ => ⟨v, H', I'.unwish, r, q⟩) fun _ _ z => False.elim z
theorem PT.nox {e : Expr} {t : TT} (h : PT X.nox e t) : PT X e t := fun pins s σ H Q I hw =>
  wpAny_mono (h pins s σ H Q (I.wish _) hw) (fun _ _ ⟨H', I', q⟩ => ⟨H', I'.unwish, q⟩) fun _ _ z => False.elim z
theorem PSs.nox {st : List Stmt} {t : TS} (h : PSs X.nox st t) : PSs X st t := fun pins s σ H D I hw =>
  wpAny_mono (h pins s σ H D (I.wish _) hw) (fun _ _ q => q.unwish) fun _ _ z => False.elim z
end
section
variable {X : Cx} {st : Stmt} {rest : List Stmt} {t u : TS} {e : Expr} {te : TE} {pos : Pos}
def tNext : TS := fun D σ H => D.nx σ H
def tSeq (t u : TS) : TS := fun D σ H => t { D with nx := u D } σ H
theorem pss_nil : PSs X [] tNext := fun _ _ σ H _ I h => wpAny_execs_nil ⟨σ, H, I, h⟩
theorem pss_cons (h1 : PS X st t) (h2 : PSs X rest u) : PSs X (st :: rest) (tSeq t u) := by
  intro pins s σ H D I h
  refine wpAny_execs_cons (thn (h1 pins s σ H { D with nx := u D } I h) fun f s1 q => ?_)
  cases f with
  | next =>
    obtain ⟨σ', H', I', q⟩ := q
    exact h2 pins s1 σ' H' D I' q
  | ret v => exact q
  | brk => exact q
  | cont => exact q
theorem pss_one (h1 : PS X st t) : PSs X [st] t := by
  intro pins s σ H D I h
  refine wpAny_execs_cons (thn (h1 pins s σ H D I h) fun f s1 q => ?_)
  cases f with
  | next => exact wpAny_execs_nil q
  | ret v => exact q
  | brk => exact q
  | cont => exact q
theorem Inv.quiet {pins : List (Addr × Obj)} {σ : St} {H : Hp} {s : Shared} (I : Inv X pins σ H s) : interactive X.env = false := by simp [interactive, I.ok.kind]
def tDrop (te : TE) : TS := fun D σ H => te σ H fun _ H1 => D.nx σ H1
theorem ps_expr (he : PE X e te) (hs : swapsWith e none pos.line X.env = pure false := by rfl) : PS X (.Expr e pos) (tDrop te) := by
  intro pins s σ H D I h
  exact wpAny_Expr_any (thn (he pins s σ H _ I h) fun v s1 ⟨x, H1, I1, r1, q1⟩ => ⟨σ, H1, I1, q1⟩) I.quiet hs
def tRet (te : TE) : TS := fun D σ H => te σ H D.rt
theorem ps_ret (he : PE X e te) : PS X (.Return (some e) pos) (tRet te) := by
  intro pins s σ H D I h
  exact wpAny_Return_some (thn (he pins s σ H _ I h) fun v s1 ⟨x, H1, I1, r1, q1⟩ => ⟨x, σ, H1, I1, r1, q1⟩)
def tIfS (c : TT) (t u : TS) : TS := fun D σ H => c σ H fun b H1 => if b = true then t D σ H1 else u D σ H1
theorem ps_if {c : Expr} {a b : List Stmt} {tc : TT} (hc : PT X c tc) (ha : PSs X a t) (hb : PSs X b u) : PS X (.If c a b pos) (tIfS tc t u) := by
  intro pins s σ H D I h
  refine wpAny_If (thn (hc pins s σ H _ I h) fun d s1 ⟨H1, I1, q1⟩ => ?_)
  cases d with
  | true => exact ha pins s1 σ H1 D I1 q1
  | false => exact hb pins s1 σ H1 D I1 q1
def tNever : TS := fun _ _ _ => False
theorem pss_never {sts : List Stmt} : PSs X sts tNever := fun _ _ _ _ _ _ h => h.elim
end
abbrev TG := V → St → Hp → (St → Hp → Prop) → Prop
abbrev TGs := List V → St → Hp → (St → Hp → Prop) → Prop
def PG (X : Cx) (target : Expr) (t : TG) : Prop :=
  ∀ (pins : List (Addr × Obj)) (s : Shared) (σ : St) (H : Hp) (v : V) (u : Value) (Q : St → Hp → Prop), Inv X pins σ H s → RelV v u → t v σ H Q →
    wpAny (model X.prog X.w) X.A (assign target X.env u) (fun _ s' => ∃ σ' H', Inv X pins σ' H' s' ∧ Q σ' H') X.xe s
def PGs (X : Cx) (ts : List Expr) (t : TGs) : Prop :=
  ∀ (pins : List (Addr × Obj)) (s : Shared) (σ : St) (H : Hp) (vs : List V) (us : List Value) (Q : St → Hp → Prop), Inv X pins σ H s → Vals vs us → t vs σ H Q →
    wpAny (model X.prog X.w) X.A (assignInOrder ((assignEach ts X.env).map (·.2)) us) (fun _ s' => ∃ σ' H', Inv X pins σ' H' s' ∧ Q σ' H') X.xe s
abbrev TSet := V → V → V → Hp → (Hp → Prop) → Prop
def PSet (X : Cx) (t : TSet) : Prop :=
  ∀ (pins : List (Addr × Obj)) (s : Shared) (σ : St) (H : Hp) (o i v : V) (ov iv u : Value) (Q : Hp → Prop), Inv X pins σ H s → RelV o ov → RelV i iv → RelV v u → t o i v H Q →
    wpAny (model X.prog X.w) X.A (setItem ov iv u) (fun _ s' => ∃ H', Inv X pins σ H' s' ∧ Q H') X.xe s
section
variable {X : Cx} {pos : Pos}
def gName (i : Nat) : TG := fun v σ H Q => Q (σ.set i (some v)) H
theorem pg_name {i : Nat} {x : Str} (hN : X.N.Nodup) (hi : X.N[i]? = some x) (hx : Loc X.env.scope x) (hf : X.fn x = true ∨ X.env.scope.names.lookup x = some .local := by first | exact .inl rfl | exact .inr rfl | assumption) : PG X (.Name x pos) (gName i) := by
  intro pins s σ H v u Q I r h
  exact wpAny_assign_Name (store_ok I hN hi hx r (fun s' I' => ⟨_, H, I', h⟩) hf)
def gNil : TGs := fun vs σ H Q => vs = [] ∧ Q σ H
def gCons (t : TG) (u : TGs) : TGs := fun vs σ H Q => ∃ v r, vs = v :: r ∧ t v σ H fun σ' H' => u r σ' H' Q
theorem pgs_nil : PGs X [] gNil := by
  intro pins s σ H vs us Q I r h
  obtain ⟨e, h⟩ := h
  subst e
  cases r
  exact assignInOrder_nil ⟨σ, H, I, h⟩
theorem pgs_cons {e : Expr} {es : List Expr} {t : TG} {u : TGs} (h1 : PG X e t) (h2 : PGs X es u)
    (hs : (assignEach (e :: es) X.env).map (·.2) = assign e X.env :: (assignEach es X.env).map (·.2) := by rfl) : PGs X (e :: es) (gCons t u) := by
  intro pins s σ H vs us Q I r h
  obtain ⟨v, vr, e1, h⟩ := h
  subst e1
  cases r with
  | cons r rr =>
    rw [hs]
    refine assignInOrder_cons (thn (h1 pins s σ H _ _ _ I r h) fun _ s1 ⟨σ1, H1, I1, q1⟩ => ?_)
    exact h2 pins s1 σ1 H1 _ _ Q I1 rr q1
def gTup (K : PySem.W.Frag) (n : Nat) (t : TGs) : TG := fun v σ H Q => ∃ a xs, v = .ref a ∧ SqT K H a xs ∧ xs.length = n ∧ t xs σ H Q
theorem pg_tup {es : List Expr} {k : Nat} {t : TGs} {n : Nat} (hc : X.calm = true) (h : PGs X es t)
    (hn : (assignEach es X.env).length = n := by rfl) (hst : (assignEach es X.env).findIdx? (·.1) = none := by rfl) : PG X (.Tuple es k pos) (gTup X.K n t) := by
  intro pins s σ H v u Q I r hw
  obtain ⟨a, xs, e1, hq, hl, hw⟩ := hw
  subst e1
  cases r
  obtain ⟨its, rv, ht, hz⟩ := I.tuple hq
  refine assign_Tuple_tuple (I.ok.hd hc) ht (by simp [hn, ← hl, rv.length]) hst fun h' hx => ?_
  have I1 : Inv X pins σ H { s with heap := h' } := I.kept (t' := s.toks) fun b o e => hx b o (Nat.ne_of_lt (Heap.lt_size e)) e
  exact h pins _ σ H xs _ Q I1 (by simpa using rv) hw
def gSub (to ti : TE) (t : TSet) : TG := fun v σ H Q => to σ H fun o H1 => ti σ H1 fun i H2 => t o i v H2 fun H3 => Q σ H3
theorem pg_sub {o i : Expr} {to ti : TE} {t : TSet} (ho : PE X o to) (hi : PE X i ti) (hs : PSet X t)
    (ha : ∀ v, assign (.Subscript o i pos) X.env v = (do
      let ov ← holding [v] (eval o X.env)
      let iv ← holding [v, ov] (eval i X.env)
      standAt pos
      holding [v, ov, iv] (setItem ov iv v)
      release [v, ov, iv] []) := by intro _; rfl) : PG X (.Subscript o i pos) (gSub to ti t) := by
  intro pins s σ H v u Q I r h
  rw [ha]
  refine wpAny_bind (wpAny_holding (thn (ho pins s σ H _ I h) fun ov s1 ⟨x, H1, I1, r1, q1⟩ => ?_))
  refine wpAny_bind (wpAny_holding (thn (hi pins s1 σ H1 _ I1 q1) fun iv s2 ⟨y, H2, I2, r2, q2⟩ => ?_))
  refine wpAny_bind (wpAny_standAt (wpAny_bind (wpAny_holding (thn (hs pins s2 σ H2 x y v ov iv u _ I2 r1 r2 r q2) fun _ s3 ⟨H3, I3, q3⟩ => ?_))))
  exact wpAny_release ⟨σ, H3, I3, q3⟩
def tAsg (te : TE) (g : TG) : TS := fun D σ H => te σ H fun x H1 => g x σ H1 D.nx
theorem ps_asg {tg e : Expr} {te : TE} {g : TG} (he : PE X e te) (hg : PG X tg g) (hs : swapsWithSole [tg] e pos.line X.env = pure false := by rfl) (hw : swappedStores [tg] e X.env = pure none := by rfl)
    (h1 : (assignEach [tg] X.env).map (·.2) = [assign tg X.env] := by rfl) : PS X (.Assign [tg] e pos) (tAsg te g) := by
  intro pins s σ H D I h
  refine wpAny_Assign_stores (thn (he pins s σ H _ I h) fun v s1 ⟨x, H1, I1, r1, q1⟩ => ?_) hs hw
  rw [h1]
  exact thn (hg pins s1 σ H1 x v _ I1 r1 q1) fun _ s2 q => q
theorem ps_set {i : Nat} {x : Str} {e : Expr} {te : TE} {pos' : Pos} (hN : X.N.Nodup) (hi : X.N[i]? = some x) (hx : Loc X.env.scope x) (he : PE X e te) (hs : swapsWith e (some (.Name x pos')) pos.line X.env = pure false := by rfl) (hf : X.fn x = true ∨ X.env.scope.names.lookup x = some .local := by first | exact .inl rfl | exact .inr rfl | assumption) :
    PS X (.Assign [.Name x pos'] e pos) (tAsg te (gName i)) := by
  intro pins s σ H D I h
  refine wpAny_Assign_Name (thn (he pins s σ H _ I h) fun v s1 ⟨y, H1, I1, r1, q1⟩ => ?_) hs
  exact store_ok I1 hN hi hx r1 (fun s2 I2 => ⟨_, H1, I2, q1⟩) hf
end
section
variable {X : Cx} {pos : Pos}
def tWhile (c : TT) (tb : TS) : TS := fun D σ H => ∃ W : Nat → St → Hp → Prop, (∃ m, W m σ H) ∧ ∀ m σ H, W m σ H →
  c σ H fun b H1 => if b = true then ∃ N : St → Hp → Prop, (∀ σ' H', N σ' H' → ∃ m', m' < m ∧ W m' σ' H') ∧ tb { D with nx := N, ct := N, bk := D.nx } σ H1 else D.nx σ H1
theorem ps_while {c : Expr} {body : List Stmt} {tc : TT} {tb : TS} (hp : PassesOwn (model X.prog X.w) X.A X.env X.xe) (hc : PT X c tc) (hb : PSs X body tb) : PS X (.While c body [] pos) (tWhile tc tb) := by
  intro pins s σ H D I h
  obtain ⟨W, ⟨m0, w0⟩, turn⟩ := h
  refine wpAny_While (codeAny_whileLoop (fun n s' => ∃ σ' H', Inv X pins σ' H' s' ∧ W n σ' H') ?_ m0 ⟨σ, H, I, w0⟩)
  rintro n s1 ⟨σ1, H1, I1, w1⟩
  refine wpAny_passesOwn hp (thn (hc pins s1 σ1 H1 _ I1 (turn n σ1 H1 w1)) fun b s2 ⟨H2, I2, q2⟩ => ?_)
  cases b with
  | true =>
    obtain ⟨N, hN, q2⟩ := q2
    rw [if_pos rfl]
    refine wpAny_passesOwn hp (thn (hb pins s2 σ1 H2 _ I2 q2) fun f s3 q3 => ?_)
    cases f with
    | next =>
      obtain ⟨σ3, H3, I3, n3⟩ := q3
      obtain ⟨m', hm, w3⟩ := hN σ3 H3 n3
      exact ⟨m', hm, σ3, H3, I3, w3⟩
    | cont =>
      obtain ⟨σ3, H3, I3, n3⟩ := q3
      obtain ⟨m', hm, w3⟩ := hN σ3 H3 n3
      exact ⟨m', hm, σ3, H3, I3, w3⟩
    | brk => exact q3
    | ret v => exact q3
  | false =>
    rw [if_neg Bool.false_ne_true]
    exact wpAny_execs_nil ⟨σ1, H2, I2, q2⟩
end
structure It where
  go : Nat → Hp → Prop
  yld : Nat → Hp → V → Hp → Prop
  stop : Nat → Hp → Prop
def FpOk (X : Cx) (pins : List (Addr × Obj)) (H : Hp) (b : Addr) : Prop :=
  H b = none ∧ b ≠ X.env.locals ∧ b ∉ X.fs ∧ (b ∈ X.ex ∨ X.s₀.heap.objs.size ≤ b) ∧ (∀ x c, X.env.cells.lookup x = some c → c ≠ b) ∧ ∀ p ∈ X.pn ++ pins, p.1 ≠ b
theorem Inv.fpOk {X : Cx} {pins : List (Addr × Obj)} {σ : St} {H H' : Hp} {s : Shared} {b : Addr} (I : Inv X pins σ H s) (hb : s.heap.objs.size ≤ b) (hn : H' b = none) : FpOk X pins H' b := by
  refine ⟨hn, Nat.ne_of_gt (Nat.lt_of_lt_of_le I.lt hb), I.nofs hb, .inr (Nat.le_trans I.sz hb), fun x c e z => ?_, fun p hp z => ?_⟩
  · obtain ⟨v, q⟩ := I.cell x c e
    exact absurd (Nat.lt_of_lt_of_le q.lt (by rw [z]; exact hb)) (Nat.lt_irrefl _)
  · exact absurd (Nat.lt_of_lt_of_le (Heap.lt_size (I.pin p hp).1) (by rw [z]; exact hb)) (Nat.lt_irrefl _)
structure Turn (P : Program) (w : World) (K : PySem.W.Frag) (tg : Expr) (J : It) (fp : List Addr) (it : Addr) (tn : Nat → Heap → Prop) : Prop where
  mem : it ∈ fp
  obj : ∀ i h, tn i h → ∀ b ∈ fp, ∃ o, h.get? b = some o ∧ ∀ v, o.data ≠ .cell v
  keep : ∀ i h h', tn i h → (∀ b ∈ fp, ∀ o, h.get? b = some o → h'.get? b = some o) → tn i h'
  item : ∀ (X : Cx), X.prog = P → X.w = w → X.K = K → X.calm = true → ∀ (i : Nat) (pins : List (Addr × Obj)) (s : Shared) (σ : St) (H : Hp) (E : Value → Shared → Prop), Inv X pins σ H s → (∀ b ∈ fp, FpOk X pins H b) → tn i s.heap → J.go i H →
    wpAny (model P w) X.A (pyNext (.ref it)) (fun r s1 => ∃ u, r = some u ∧
      wpAny (model P w) X.A (letOwnedTupleGo tg (.ref it) u) (fun _ s2 => ∃ x H', Inv X pins σ H' s2 ∧ RelV x u ∧ J.yld i H x H' ∧ tn (i + 1) s2.heap ∧ ∀ b ∈ fp, H' b = none) E s1) E s
  done : ∀ (X : Cx), X.prog = P → X.w = w → X.K = K → X.calm = true → ∀ (i : Nat) (pins : List (Addr × Obj)) (s : Shared) (σ : St) (H : Hp) (E : Value → Shared → Prop), Inv X pins σ H s → (∀ b ∈ fp, FpOk X pins H b) → tn i s.heap → J.stop i H →
    wpAny (model P w) X.A (pyNext (.ref it)) (fun r s1 => r = none ∧ Inv X pins σ H s1) E s
  self : ∀ (A : Around) (i : Nat) (s : Shared) (Q : Value → Shared → Prop) (E : Value → Shared → Prop), tn i s.heap → Q (.ref it) s → wpAny (model P w) A (pyIter (.ref it)) Q E s
abbrev TI := St → Hp → (It → Hp → Prop) → Prop
def PIE (X : Cx) (pins : List (Addr × Obj)) (σ : St) (tg : Expr) (R : It → Hp → Prop) (itv : Value) (s2 : Shared) : Prop :=
  ∃ (it : Addr) (fp : List Addr) (tn : Nat → Heap → Prop) (J : It) (H' : Hp), itv = .ref it ∧ Inv X pins σ H' s2 ∧ Turn X.prog X.w X.K tg J fp it tn ∧ tn 0 s2.heap ∧ (∀ b ∈ fp, FpOk X pins H' b) ∧ R J H'
def PI (X : Cx) (tg iter : Expr) (wi : TI) : Prop :=
  ∀ (pins : List (Addr × Obj)) (s : Shared) (σ : St) (H : Hp) (R : It → Hp → Prop), Inv X pins σ H s → wi σ H R →
    wpAny (model X.prog X.w) X.A (eval iter X.env) (fun v s1 => wpAny (model X.prog X.w) X.A (pyIter v) (PIE X pins σ tg R) X.xe s1) X.xe s
theorem go_of {M : Model} {A : Around} {E : Value → Shared → Prop} {s : Shared} {tg : Expr} {it : Addr} {u : Value} {o : Obj} {n : String} {vs : Array Value} {Q : Unit → Shared → Prop} (ho : s.heap.get? it = some o) (hc : o.cls = .type n) (hd : o.data = .fields vs)
    (hn : ["enumerate", "zip", "dict_itemiterator", "dict_reverseitemiterator", "odict_iterator", "itertools.zip_longest", "itertools.pairwise"].contains n = false) (hQ : Q () s) : wpAny M A (letOwnedTupleGo tg (.ref it) u) Q E s := by
  unfold letOwnedTupleGo
  cases tg <;> first
    | exact wpAny_pure hQ
    | (cases u <;> first
        | exact wpAny_pure hQ
        | (refine wpAny_bind (wpAny_load ho ?_)
           rw [hc, hd]
           show wpAny M A (if (["enumerate", "zip", "dict_itemiterator", "dict_reverseitemiterator", "odict_iterator", "itertools.zip_longest", "itertools.pairwise"].contains n && vs[0]? == some (rawInt _)) = true then _ else _) Q E s
           rw [if_neg (by intro h; rw [hn, Bool.false_and] at h; cases h)]
           exact wpAny_pure hQ))
def Itl (K : PySem.W.Frag) (a : Addr) : It :=
  ⟨fun i H => ∃ xs x, SqL K H a xs ∧ xs[i]? = some x, fun i H x H' => H' = H ∧ ∀ xs, SqL K H a xs → xs[i]? = some x, fun i H => ∃ xs, SqL K H a xs ∧ xs.length ≤ i⟩
def Itr (lo : Int) (n : Nat) : It := ⟨fun i _ => i < n, fun i H x H' => H' = H ∧ x = .int (lo + i), fun i _ => n ≤ i⟩
theorem turn_list {P : Program} {w : World} {K : PySem.W.Frag} {tg : Expr} (a it : Addr) : Turn P w K tg (Itl K a) [it] it (fun i h => h.IsListIter it a i) where
  mem := by simp
  obj := fun i h st b hb => by
    have e : b = it := by simpa using hb
    subst e
    obtain ⟨o, e, c, d⟩ := st
    exact ⟨o, e, fun v z => by rw [d] at z; cases z⟩
  keep := fun i h h' st k => st.at fun o e => k it (by simp) o e
  item := by
    intro X hP hw hK hc i pins s σ H E I hf st hg
    subst hP hw hK
    obtain ⟨xs, x, hq, hx⟩ := hg
    obtain ⟨its, rv, p, hz⟩ := I.list hq
    obtain ⟨u, hu, ru⟩ := rv.get hx
    obtain ⟨f0, f1, f2, f3, f4, f5⟩ := hf it (by simp)
    refine wpAny_pyNext_list_item st p.isList (x := u) (by simpa using hu) fun h' st' sb => ?_
    have I1 : Inv X pins σ H { s with heap := h' } := I.turned (t' := s.toks) (fun b o hb e => (sb.2 b hb).trans e) f0 f1 f3 f4 f5
    obtain ⟨o, e, c, d⟩ := id st'
    exact ⟨u, rfl, go_of (s := { s with heap := h' }) e c d (by decide) ⟨x, H, I1, ru, ⟨rfl, fun ys hy => by rw [I.list_inj hy hq]; exact hx⟩, st', fun b hb => (hf b hb).1⟩⟩
  done := by
    intro X hP hw hK hc i pins s σ H E I hf st hg
    subst hP hw hK
    obtain ⟨xs, hq, hx⟩ := hg
    obtain ⟨its, rv, p, hz⟩ := I.list hq
    obtain ⟨f0, f1, f2, f3, f4, f5⟩ := hf it (by simp)
    have hl := rv.length
    exact wpAny_pyNext_list_end (I.ok.hd hc) st p.isList (by simp; omega) fun h' eb => ⟨rfl, I.turned (t' := s.toks) (fun b o hb e => eb b o hb e) f0 f1 f3 f4 f5⟩
  self := fun _ _ _ _ _ st h => wpAny_pyIter_listiter st h
theorem turn_range {P : Program} {w : World} {K : PySem.W.Frag} {tg : Expr} (it : Addr) (lo : Int) (n : Nat) : Turn P w K tg (Itr lo n) [it] it (fun i h => IsRangeIter h it (lo + (i : Nat) * 1) ((n : Int) - (i : Nat)) 1) where
  mem := by simp
  obj := fun i h st b hb => by
    have e : b = it := by simpa using hb
    subst e
    exact ⟨_, st, fun v z => by
      have z' : Data.fields _ = Data.cell v := z
      cases z'⟩
  keep := fun i h h' st k => k it (by simp) _ st
  item := by
    intro X hP hw hK hc i pins s σ H E I hf st hg
    subst hP hw hK
    obtain ⟨f0, f1, f2, f3, f4, f5⟩ := hf it (by simp)
    have W := Walks.range (prog := X.prog) (w := X.w) (I.ok.hd hc) it lo 1 n
    refine W.item i s _ _ hg st fun v h' tk hv st' kk => ?_
    obtain ⟨t, rfl⟩ := hv
    have I1 : Inv X pins σ H { s with heap := h', toks := tk } := I.turned (fun b o hb e => kk b o (by simpa using hb) e) f0 f1 f3 f4 f5
    refine ⟨_, rfl, go_of (s := { s with heap := h', toks := tk }) (n := "range_iterator") st' rfl rfl (by decide) ⟨.int (lo + i), H, I1, ⟨t, ?_⟩, ⟨rfl, rfl⟩, st', fun b hb => (hf b hb).1⟩⟩
    rw [Int.mul_one]
  done := by
    intro X hP hw hK hc i pins s σ H E I hf st hg
    subst hP hw hK
    obtain ⟨f0, f1, f2, f3, f4, f5⟩ := hf it (by simp)
    exact wpAny_pyNext_range_end (I.ok.hd hc) st (by have : n ≤ i := hg; omega) fun h' eb => ⟨rfl, I.turned (t' := s.toks) (fun b o hb e => eb b o hb e) f0 f1 f3 f4 f5⟩
  self := fun _ _ _ _ _ st h => wpAny_pyIter_rangeiter st h
end L2
namespace L2
open PySem PySem.Spec PyProof.Rows
section
variable {X : Cx} {tg : Expr}
def iList (K : PySem.W.Frag) (tl : TE) : TI := fun σ H R => tl σ H fun x H1 => ∃ a, x = .ref a ∧ (∃ xs, SqL K H1 a xs) ∧ R (Itl K a) H1
theorem pi_list {l : Expr} {tl : TE} (hl : PE X l tl) : PI X tg l (iList X.K tl) := by
  intro pins s σ H R I h
  refine thn (hl pins s σ H _ I h) fun v s1 ⟨x, H1, I1, r1, q1⟩ => ?_
  obtain ⟨a, e, ⟨xs, hq⟩, q⟩ := q1
  subst e
  cases r1
  obtain ⟨its, rv, p, hz⟩ := I1.list hq
  refine wpAny_pyIter_list p.isList ?_
  refine ⟨s1.heap.objs.size, [s1.heap.objs.size], _, _, H1, rfl, I1.kept (t' := s1.toks) fun b o e => Heap.get?_push_of_some _ e, turn_list a _, ⟨_, Heap.get?_push_size _ rfl, rfl, rfl⟩, fun b hb => ?_, q⟩
  have e : b = s1.heap.objs.size := by simpa using hb
  subst e
  exact I1.fpOk (Nat.le_refl _) (I1.hok.fresh (Nat.le_refl _))
theorem range_it {pins : List (Addr × Obj)} {σ : St} {H : Hp} {s : Shared} {R : It → Hp → Prop} {E : Value → Shared → Prop} {lo hi : Int} {t u v : Tok} {tk : Nat} (I : Inv X pins σ H s) (h1 : -(2 ^ 62) ≤ lo) (h2 : lo < 2 ^ 62) (h3 : -(2 ^ 62) ≤ hi) (h4 : hi < 2 ^ 62)
    (q : R (Itr lo (hi - lo).toNat) H) : wpAny (model X.prog X.w) X.A (pyIter (.ref s.heap.objs.size)) (PIE X pins σ tg R) E { s with heap := s.heap.push { cls := .type "range", data := .fields #[.int lo t, .int hi u, .int 1 v] }, toks := tk } := by
  refine wpAny_pyIter_range (IsRange.new ..) (small_one h1 h2 h3 h4) ?_
  have I1 : Inv X pins σ H { s with heap := s.heap.push { cls := .type "range", data := .fields #[.int lo t, .int hi u, .int 1 v] }, toks := tk } := I.kept fun b o e => Heap.get?_push_of_some _ e
  refine ⟨(s.heap.push { cls := .type "range", data := .fields #[.int lo t, .int hi u, .int 1 v] }).objs.size, [(s.heap.push { cls := .type "range", data := .fields #[.int lo t, .int hi u, .int 1 v] }).objs.size], _, _, H, rfl,
    I1.kept (t' := tk) fun b o e => Heap.get?_push_of_some _ e, turn_range _ lo (hi - lo).toNat, ?_, fun b hb => ?_, q⟩
  · have e1 : lo + ((0 : Nat) : Int) * 1 = lo := by simp
    have e2 : (((hi - lo).toNat : Nat) : Int) - ((0 : Nat) : Int) = Builtin.Range.rangeSize lo hi 1 := by rw [rangeSize_one]; split <;> omega
    show IsRangeIter _ _ (lo + ((0 : Nat) : Int) * 1) ((((hi - lo).toNat : Nat) : Int) - ((0 : Nat) : Int)) 1
    rw [e1, e2]
    exact Heap.get?_push_size _ rfl
  · have e : b = (s.heap.push { cls := .type "range", data := .fields #[.int lo t, .int hi u, .int 1 v] }).objs.size := by simpa using hb
    subst e
    exact I1.fpOk (Nat.le_refl _) (I1.hok.fresh (Nat.le_refl _))
def iRng1 (ta : TA) : TI := fun σ H R => ta σ H fun vs H1 => ∃ j : Int, vs = [.int j] ∧ -(2 ^ 62) ≤ j ∧ j < 2 ^ 62 ∧ R (Itr 0 j.toNat) H1
theorem pi_range1 {a : Expr} {ta : TA} {p pos : Pos} (hg : Gl X "range") (hm : X.mg "range" = none) (ha : PA X [a] ta) (hs : starEach [a] X.env = [(false, eval a X.env)] := by rfl) : PI X tg (.Call (.Name "range" p) [a] [] pos) (iRng1 ta) := by
  intro pins s σ H R I h
  refine Call_ (ld_blt I hg hm boot_range (PyProof.Rows.callWith_type1 (thn (ha pos pins s σ H _ I h) fun us s1 ⟨vs, H1, I1, r1, q1⟩ => ?_) hs rfl))
  obtain ⟨j, e, q1, q2, q⟩ := q1
  subst e
  cases r1 with
  | cons r rr =>
    cases rr
    obtain ⟨t, rfl⟩ := r
    exact call_range_1 (range_it I1 (by omega) (by omega) q1 q2 (by simpa using q))
def tFor (wi : TI) (g : TG) (tb : TS) : TS := fun D σ H => wi σ H fun J H1 => ∃ W : Nat → Nat → St → Hp → Prop, (∃ m, W 0 m σ H1) ∧ ∀ i m σ H, W i m σ H →
  (J.stop i H ∧ D.nx σ H) ∨ (J.go i H ∧ ∃ N : St → Hp → Prop, (∀ σ' H', N σ' H' → ∃ m', m' < m ∧ W (i + 1) m' σ' H') ∧ ∀ x H', J.yld i H x H' → g x σ H' fun σ2 H2 => tb { D with nx := N, ct := N, bk := D.nx } σ2 H2)
def pinsAt (fp : List Addr) (h : Heap) : List (Addr × Obj) := fp.filterMap fun b => (h.get? b).map fun o => (b, o)
theorem mem_pinsAt {fp : List Addr} {h : Heap} {b : Addr} {o : Obj} (hb : b ∈ fp) (e : h.get? b = some o) : (b, o) ∈ pinsAt fp h := List.mem_filterMap.mpr ⟨b, hb, by rw [e]; rfl⟩
theorem of_pinsAt {fp : List Addr} {h : Heap} {p : Addr × Obj} (hp : p ∈ pinsAt fp h) : p.1 ∈ fp ∧ h.get? p.1 = some p.2 := by
  obtain ⟨b, hb, e⟩ := List.mem_filterMap.mp hp
  cases q : h.get? b with
  | none => rw [q] at e; cases e
  | some o =>
    rw [q] at e
    have e' : (b, o) = p := Option.some.inj e
    subst e'
    exact ⟨hb, q⟩
theorem Inv.pinned {pins : List (Addr × Obj)} {σ : St} {H : Hp} {s : Shared} {fp : List Addr} (I : Inv X pins σ H s) (hf : ∀ b ∈ fp, FpOk X pins H b) (ho : ∀ b ∈ fp, ∃ o, s.heap.get? b = some o ∧ ∀ v, o.data ≠ .cell v) : Inv X (pins ++ pinsAt fp s.heap) σ H s :=
  I.pins_of fun p hp => (List.mem_append.mp hp).elim (fun z => I.pin p (List.mem_append_right _ z)) fun z => by
    obtain ⟨hb, e⟩ := of_pinsAt z
    obtain ⟨f0, f1, f2, _⟩ := hf p.1 hb
    obtain ⟨o, e', d⟩ := ho p.1 hb
    rw [e] at e'; cases e'
    exact ⟨e, f0, f1, f2, d⟩
theorem Inv.unpinned {pins pl : List (Addr × Obj)} {σ : St} {H : Hp} {s : Shared} (I : Inv X (pins ++ pl) σ H s) : Inv X pins σ H s := I.pins_of fun p hp => I.pin p (List.mem_append_right _ (List.mem_append_left _ hp))
theorem ps_for {iter : Expr} {body : List Stmt} {wi : TI} {g : TG} {tb : TS} {pos : Pos} (hp : PassesOwn (model X.prog X.w) X.A X.env X.xe) (hc : X.calm = true) (hi : PI X tg iter wi) (hg : PG X tg g) (hb : PSs X body tb)
    (hs : ∀ x, foldedSetIterable iter X.env x = pure x := by intro _; rfl) : PS X (.For tg iter body [] pos) (tFor wi g tb) := by
  intro pins s σ H D I h
  refine wpAny_For (thn (hi pins s σ H _ I h) fun v s1 h1 => thn h1 fun itv s2 h2 => ?_) hs
  obtain ⟨it, fp, tn, J, H2, e, I2, T, st2, f2, W, ⟨m0, w0⟩, turn⟩ := h2
  subst e
  have stat : ∀ {H' : Hp}, (∀ b ∈ fp, H' b = none) → ∀ b ∈ fp, FpOk X pins H' b := fun hn b hb => ⟨hn b hb, (f2 b hb).2⟩
  refine codeAny_forLoop_any (fun n s' => ∃ i σ' H', Inv X pins σ' H' s' ∧ tn i s'.heap ∧ (∀ b ∈ fp, H' b = none) ∧ W i n σ' H') ?_ m0 ⟨0, σ, H2, I2, st2, fun b hb => (f2 b hb).1, w0⟩
  rintro n s3 ⟨i, σ3, H3, I3, st3, fr3, w3⟩
  rcases turn i n σ3 H3 w3 with ⟨stop, qn⟩ | ⟨go, N, hN, step⟩
  · refine wpAny_passesOwn hp (thn (T.done X rfl rfl rfl hc i pins s3 σ3 H3 X.xe I3 (stat fr3) st3 stop) fun r s4 ⟨hr, I4⟩ => ?_)
    subst hr
    exact wpAny_execs_nil ⟨σ3, H3, I4, qn⟩
  · refine wpAny_passesOwn hp (thn (T.item X rfl rfl rfl hc i pins s3 σ3 H3 X.xe I3 (stat fr3) st3 go) fun r s4 ⟨u, hr, h4⟩ => ?_)
    subst hr
    refine wpAny_passesOwn hp (thn h4 fun _ s5 ⟨x, H5, I5, r5, y5, st5, fr5⟩ => ?_)
    have I5' := I5.pinned (stat fr5) (T.obj _ _ st5)
    refine wpAny_passesOwn hp (thn (hg _ s5 σ3 H5 x u _ I5' r5 (step x H5 y5)) fun _ s6 ⟨σ6, H6, I6, q6⟩ => ?_)
    refine wpAny_passesOwn hp (thn (hb _ s6 σ6 H6 _ I6 q6) fun f s7 q7 => ?_)
    have again : ∀ {σ7 : St} {H7 : Hp}, Inv X (pins ++ pinsAt fp s5.heap) σ7 H7 s7 → N σ7 H7 → ∃ m, m < n ∧ ∃ i σ' H', Inv X pins σ' H' s7 ∧ tn i s7.heap ∧ (∀ b ∈ fp, H' b = none) ∧ W i m σ' H' := fun {σ7 H7} I7 n7 => by
      obtain ⟨m', hm, w7⟩ := hN σ7 H7 n7
      refine ⟨m', hm, i + 1, σ7, H7, I7.unpinned, T.keep _ _ _ st5 fun b hb o e => (I7.pin (b, o) (List.mem_append_right _ (List.mem_append_right _ (mem_pinsAt hb e)))).1, fun b hb => ?_, w7⟩
      obtain ⟨o, e, d⟩ := T.obj _ _ st5 b hb
      exact (I7.pin (b, o) (List.mem_append_right _ (List.mem_append_right _ (mem_pinsAt hb e)))).2.1
    cases f with
    | next => obtain ⟨σ7, H7, I7, n7⟩ := q7; exact again I7 n7
    | cont => obtain ⟨σ7, H7, I7, n7⟩ := q7; exact again I7 n7
    | brk => obtain ⟨σ7, H7, I7, q7⟩ := q7; exact ⟨σ7, H7, I7.unpinned, q7⟩
    | ret v => obtain ⟨x7, σ7, H7, I7, r7, q7⟩ := q7; exact ⟨x7, σ7, H7, I7.unpinned, r7, q7⟩
end
theorem for_list {K : PySem.W.Frag} {a : Addr} {xs : List V} {g : TG} {tb : TS} {D : Ends} {σ : St} {H : Hp} (Pv : Nat → St → Hp → Prop) (h0 : Pv 0 σ H) (hl : ∀ i σ H, i ≤ xs.length → Pv i σ H → SqL K H a xs)
    (hs : ∀ i x σ H, xs[i]? = some x → Pv i σ H → g x σ H fun σ2 H2 => tb { D with nx := Pv (i + 1), ct := Pv (i + 1), bk := D.nx } σ2 H2) (hd : ∀ σ H, Pv xs.length σ H → D.nx σ H) :
    ∃ W : Nat → Nat → St → Hp → Prop, (∃ m, W 0 m σ H) ∧ ∀ i m σ H, W i m σ H →
      ((Itl K a).stop i H ∧ D.nx σ H) ∨ ((Itl K a).go i H ∧ ∃ N : St → Hp → Prop, (∀ σ' H', N σ' H' → ∃ m', m' < m ∧ W (i + 1) m' σ' H') ∧ ∀ x H', (Itl K a).yld i H x H' → g x σ H' fun σ2 H2 => tb { D with nx := N, ct := N, bk := D.nx } σ2 H2) := by
  refine ⟨fun i m σ H => m = xs.length - i ∧ i ≤ xs.length ∧ Pv i σ H, ⟨xs.length, by simp, Nat.zero_le _, h0⟩, ?_⟩
  rintro i m σ H ⟨rfl, hi, p⟩
  have q := hl i σ H hi p
  by_cases hlt : i < xs.length
  · refine .inr ⟨⟨xs, xs[i], q, by simp [hlt]⟩, Pv (i + 1), fun σ' H' p' => ⟨xs.length - (i + 1), by omega, rfl, hlt, p'⟩, fun x H' y => ?_⟩
    obtain ⟨e, y⟩ := y
    subst e
    exact hs i x σ _ (y xs q) p
  · have e : i = xs.length := by omega
    subst e
    exact .inl ⟨⟨xs, q, Nat.le_refl _⟩, hd σ H p⟩
theorem for_range {lo : Int} {n : Nat} {g : TG} {tb : TS} {D : Ends} {σ : St} {H : Hp} (Pv : Nat → St → Hp → Prop) (h0 : Pv 0 σ H)
    (hs : ∀ i σ H, i < n → Pv i σ H → g (.int (lo + i)) σ H fun σ2 H2 => tb { D with nx := Pv (i + 1), ct := Pv (i + 1), bk := D.nx } σ2 H2) (hd : ∀ σ H, Pv n σ H → D.nx σ H) :
    ∃ W : Nat → Nat → St → Hp → Prop, (∃ m, W 0 m σ H) ∧ ∀ i m σ H, W i m σ H →
      ((Itr lo n).stop i H ∧ D.nx σ H) ∨ ((Itr lo n).go i H ∧ ∃ N : St → Hp → Prop, (∀ σ' H', N σ' H' → ∃ m', m' < m ∧ W (i + 1) m' σ' H') ∧ ∀ x H', (Itr lo n).yld i H x H' → g x σ H' fun σ2 H2 => tb { D with nx := N, ct := N, bk := D.nx } σ2 H2) := by
  refine ⟨fun i m σ H => m = n - i ∧ i ≤ n ∧ Pv i σ H, ⟨n, by simp, Nat.zero_le _, h0⟩, ?_⟩
  rintro i m σ H ⟨rfl, hi, p⟩
  by_cases hlt : i < n
  · refine .inr ⟨hlt, Pv (i + 1), fun σ' H' p' => ⟨n - (i + 1), by omega, rfl, hlt, p'⟩, fun x H' y => ?_⟩
    obtain ⟨e, y⟩ := y
    subst e y
    exact hs i σ _ hlt p
  · have e : i = n := by omega
    subst e
    exact .inl ⟨Nat.le_refl _, hd σ H p⟩
end L2
namespace L2
open PySem PySem.Spec PyProof.Rows
abbrev R2 := V → V → Hp → VK → Prop
def OpR (X : Cx) (f : Value → Value → Sem Value) (r : R2) : Prop :=
  ∀ (pins : List (Addr × Obj)) (s : Shared) (σ : St) (H : Hp) (x y : V) (v u : Value) (Q : VK), Inv X pins σ H s → RelV x v → RelV y u → r x y H Q →
    wpAny (model X.prog X.w) X.A (f v u) (EP X pins σ Q) X.xe s
def UnR (X : Cx) (f : Value → Sem Value) (r : V → Hp → VK → Prop) : Prop :=
  ∀ (pins : List (Addr × Obj)) (s : Shared) (σ : St) (H : Hp) (x : V) (v : Value) (Q : VK), Inv X pins σ H s → RelV x v → r x H Q →
    wpAny (model X.prog X.w) X.A (f v) (EP X pins σ Q) X.xe s
def CallR (X : Cx) (f : Value) (r : List V → Hp → VK → Prop) : Prop :=
  ∀ (pins : List (Addr × Obj)) (s : Shared) (σ : St) (H : Hp) (xs : List V) (us : List Value) (Q : VK), Inv X pins σ H s → Vals xs us → r xs H Q →
    wpAny (model X.prog X.w) X.A (call f us) (EP X pins σ Q) X.xe s
def tOp (r : R2) (ta tb : TE) : TE := fun σ H Q => ta σ H fun x H1 => tb σ H1 fun y H2 => r x y H2 Q
def tUn (r : V → Hp → VK → Prop) (ta : TE) : TE := fun σ H Q => ta σ H fun x H1 => r x H1 Q
def rI (C : Int → Int → Prop) (g : Int → Int → V) : R2 := fun x y H Q => ∃ i j, x = .int i ∧ y = .int j ∧ C i j ∧ Q (g i j) H
def rI0 (g : Int → Int → V) : R2 := fun x y H Q => ∃ i j, x = .int i ∧ y = .int j ∧ Q (g i j) H
def rU (g : Int → V) : V → Hp → VK → Prop := fun x H Q => ∃ i, x = .int i ∧ Q (g i) H
section
variable {X : Cx} {a b c : Expr} {ta tb tc : TE} {pos : Pos}
theorem binT (ha : PE X a ta) (hb : PE X b tb) {pins : List (Addr × Obj)} {s : Shared} {σ : St} {H : Hp} {R : V → V → Hp → Prop} (I : Inv X pins σ H s)
    (h : ta σ H fun x H1 => tb σ H1 fun y H2 => R x y H2) {Q : Value → Shared → Prop} {f : Value → Value → Sem Value}
    (hf : ∀ v u s2 x y H2, Inv X pins σ H2 s2 → RelV x v → RelV y u → R x y H2 → wpAny (model X.prog X.w) X.A (f v u) Q X.xe s2) :
    wpAny (model X.prog X.w) X.A (eval a X.env) (fun v s₁ => wpAny (model X.prog X.w) X.A (eval b X.env) (fun u s₂ => wpAny (model X.prog X.w) X.A (f v u) Q X.xe s₂) X.xe s₁) X.xe s := by
  refine thn (ha pins s σ H _ I h) fun v s1 ⟨x, H1, I1, r1, q1⟩ => ?_
  refine thn (hb pins s1 σ H1 _ I1 q1) fun u s2 ⟨y, H2, I2, r2, q2⟩ => ?_
  exact hf v u s2 x y H2 I2 r1 r2 q2
theorem pe_op {op : Operator} {r : R2} (ho : OpR X (binaryOp op) r) (ha : PE X a ta) (hb : PE X b tb) : PE X (.BinOp a op b pos) (tOp r ta tb) := by
  intro pins s σ H Q I h
  exact wpAny_BinOp (binT ha hb I h fun v u s2 x y H2 I2 rx ry q => ho pins s2 σ H2 x y v u Q I2 rx ry q)
theorem pe_un {op : UnaryOp} {r : V → Hp → VK → Prop} (ho : UnR X (unaryOp op) r) (ha : PE X a ta) : PE X (.UnaryOp op a pos) (tUn r ta) := by
  intro pins s σ H Q I h
  exact UnaryOp_ (thn (ha pins s σ H _ I h) fun v s1 ⟨x, H1, I1, r1, q1⟩ => ho pins s1 σ H1 x v Q I1 r1 q1)
theorem opI {f : Value → Value → Sem Value} {C : Int → Int → Prop} {g : Int → Int → Int}
    (rule : ∀ (i j : Int) (t u : Tok) (s : Shared) (Q : Value → Shared → Prop) (E : Value → Shared → Prop), C i j → Q (.int (g i j) s.toks) { s with toks := s.toks + 1 } → wpAny (model X.prog X.w) X.A (f (.int i t) (.int j u)) Q E s) :
    OpR X f (rI C fun i j => .int (g i j)) := by
  intro pins s σ H x y v u Q I rx ry h
  obtain ⟨i, j, rfl, rfl, hc, q⟩ := h
  obtain ⟨t, rfl⟩ := rx
  obtain ⟨t', rfl⟩ := ry
  exact rule i j t t' s _ _ hc ⟨.int (g i j), H, I.tok _, ⟨_, rfl⟩, q⟩
theorem opI0 {f : Value → Value → Sem Value} {g : Int → Int → Int}
    (rule : ∀ (i j : Int) (t u : Tok) (s : Shared) (Q : Value → Shared → Prop) (E : Value → Shared → Prop), Q (.int (g i j) s.toks) { s with toks := s.toks + 1 } → wpAny (model X.prog X.w) X.A (f (.int i t) (.int j u)) Q E s) :
    OpR X f (rI0 fun i j => .int (g i j)) := by
  intro pins s σ H x y v u Q I rx ry h
  obtain ⟨i, j, rfl, rfl, q⟩ := h
  obtain ⟨t, rfl⟩ := rx
  obtain ⟨t', rfl⟩ := ry
  exact rule i j t t' s _ _ ⟨.int (g i j), H, I.tok _, ⟨_, rfl⟩, q⟩
theorem opB0 {f : Value → Value → Sem Value} {g : Int → Int → Bool}
    (rule : ∀ (i j : Int) (t u : Tok) (s : Shared) (Q : Value → Shared → Prop) (E : Value → Shared → Prop), Q (.bool (g i j)) s → wpAny (model X.prog X.w) X.A (f (.int i t) (.int j u)) Q E s) :
    OpR X f (rI0 fun i j => .bl (g i j)) := by
  intro pins s σ H x y v u Q I rx ry h
  obtain ⟨i, j, rfl, rfl, q⟩ := h
  obtain ⟨t, rfl⟩ := rx
  obtain ⟨t', rfl⟩ := ry
  exact rule i j t t' s _ _ ⟨.bl (g i j), H, I, rfl, q⟩
def CDiv (i j : Int) : Prop := 0 < j ∧ j < 1073741824
def CPow (i j : Int) : Prop := 0 ≤ j ∧ j ≤ 1000000 ∧ i.natAbs < 2 ^ 64
def CMul (i j : Int) : Prop := (-(2 ^ 64) < i ∧ i < 2 ^ 64) ∨ (-(2 ^ 64) < j ∧ j < 2 ^ 64)
theorem CMul.ok {i j : Int} (h : CMul i j) : IntMulOk i j := by
  rcases h with ⟨h1, h2⟩ | ⟨h1, h2⟩
  · exact .of_left (intBits_le_64 h1 h2)
  · exact .of_right (intBits_le_64 h1 h2)
theorem op_add : OpR X (binaryOp .Add) (rI0 fun i j => .int (i + j)) := opI0 fun _ _ _ _ _ _ _ q => add_int q
theorem op_sub : OpR X (binaryOp .Sub) (rI0 fun i j => .int (i - j)) := opI0 fun _ _ _ _ _ _ _ q => sub_int q
theorem op_mul : OpR X (binaryOp .Mult) (rI CMul fun i j => .int (i * j)) := opI fun _ _ _ _ _ _ _ hc q => mul_int q hc.ok
theorem op_fdiv : OpR X (binaryOp .FloorDiv) (rI CDiv fun i j => .int (i / j)) := opI fun i j _ _ _ _ _ hc q => by
  have h1 : (0 : Int) < j := hc.1
  have h2 : j < 1073741824 := hc.2
  exact floordiv_int (by omega) (by rw [Int.fdiv_eq_ediv_of_nonneg i (by omega)]; exact q) (.inl (PyProof.noPylong_small (by omega)))
theorem op_mod : OpR X (binaryOp .Mod) (rI (fun _ j => 0 < j) fun i j => .int (i % j)) := opI fun i j _ _ _ _ _ hc q => by
  have h1 : (0 : Int) < j := hc
  exact mod_int' (by omega) (by rw [Int.fmod_eq_emod_of_nonneg i (by omega)]; exact q)
theorem op_pow : OpR X (binaryOp .Pow) (rI CPow fun i j => .int (i ^ j.toNat)) := opI fun _ _ _ _ _ _ _ hc q => pow_int_small hc.1 hc.2.1 hc.2.2 q
theorem unI {f : Value → Sem Value} {g : Int → Int}
    (rule : ∀ (i : Int) (t : Tok) (s : Shared) (Q : Value → Shared → Prop) (E : Value → Shared → Prop), Q (.int (g i) s.toks) { s with toks := s.toks + 1 } → wpAny (model X.prog X.w) X.A (f (.int i t)) Q E s) :
    UnR X f (rU fun i => .int (g i)) := by
  intro pins s σ H x v Q I rx h
  obtain ⟨i, rfl, q⟩ := h
  obtain ⟨t, rfl⟩ := rx
  exact rule i t s _ _ ⟨.int (g i), H, I.tok _, ⟨_, rfl⟩, q⟩
theorem un_neg : UnR X (unaryOp .USub) (rU fun i => .int (-i)) := unI fun _ _ _ _ _ q => neg_int q
end
def scal : V → V → Bool
  | .non, .non => true | .non, .int _ => true | .int _, .non => true | .non, .bl _ => true | .bl _, .non => true | .non, .str _ => true | .str _, .non => true
  | .int _, .int _ => true | .bl _, .bl _ => true | .str _, .str _ => true | .byt _, .byt _ => true
  | .int _, .str _ => true | .str _, .int _ => true | .bl _, .str _ => true | .str _, .bl _ => true
  | _, _ => false
def rEq : R2 := fun x y H Q => scal x y = true ∧ Q (.bl (decide (x = y))) H
def rNe : R2 := fun x y H Q => scal x y = true ∧ Q (.bl (!decide (x = y))) H
theorem dec_int {i j : Int} : decide (V.int i = V.int j) = (i == j) := by
  rw [Bool.eq_iff_iff]
  simp
theorem dec_bl {i j : Bool} : decide (V.bl i = V.bl j) = (i == j) := by
  rw [Bool.eq_iff_iff]
  simp
theorem dec_str {i j : Str} : decide (V.str i = V.str j) = (i == j) := by
  rw [Bool.eq_iff_iff]
  simp
theorem dec_byt {i j : Array UInt8} : decide (V.byt i = V.byt j) = (i.toList == j.toList) := by
  rw [Bool.eq_iff_iff]
  cases i
  cases j
  simp
section
variable {X : Cx} {a b c : Expr} {ta tb tc : TE} {pos : Pos}
theorem fin_bl {pins : List (Addr × Obj)} {σ : St} {H : Hp} {s : Shared} {Q : VK} {k k' : Bool} (I : Inv X pins σ H s) (q : Q (.bl k) H) (e : k = k') : EP X pins σ Q (.bool k') s := by
  subst e
  exact ⟨.bl k, H, I, rfl, q⟩
theorem op_eq : OpR X (compareOp .Eq) rEq := by
  intro pins s σ H x y v u Q I rx ry h
  obtain ⟨hs, q⟩ := h
  cases x with
  | non =>
    cases rx
    cases y with
    | non => cases ry; exact PySem.EqNone.eq_none_none (fin_bl I q (by simp))
    | bl j => cases ry; exact PySem.EqNone.eq_none_bool (fin_bl I q (by simp))
    | int j => obtain ⟨t', rfl⟩ := ry; exact PySem.EqNone.eq_none_int (fin_bl I q (by simp))
    | str j => obtain ⟨t', rfl⟩ := ry; exact PySem.EqNone.eq_none_str (fin_bl I q (by simp))
    | _ => exact absurd (show false = true from hs) Bool.false_ne_true
  | bl i =>
    cases rx
    cases y with
    | non => cases ry; exact PySem.EqNone.eq_bool_none (fin_bl I q (by simp))
    | bl j => cases ry; exact eq_bool (fin_bl I q dec_bl)
    | str j => obtain ⟨t', rfl⟩ := ry; exact PySem.EqMixed.eq_bool_str (fin_bl I q (by simp))
    | _ => exact absurd (show false = true from hs) Bool.false_ne_true
  | int i =>
    obtain ⟨t, rfl⟩ := rx
    cases y with
    | non => cases ry; exact PySem.EqNone.eq_int_none (fin_bl I q (by simp))
    | int j => obtain ⟨t', rfl⟩ := ry; exact eq_int (fin_bl I q dec_int)
    | str j => obtain ⟨t', rfl⟩ := ry; exact PySem.EqMixed.eq_int_str (fin_bl I q (by simp))
    | _ => exact absurd (show false = true from hs) Bool.false_ne_true
  | str i =>
    obtain ⟨t, rfl⟩ := rx
    cases y with
    | non => cases ry; exact PySem.EqNone.eq_str_none (fin_bl I q (by simp))
    | bl j => cases ry; exact PySem.EqMixed.eq_str_bool (fin_bl I q (by simp))
    | int j => obtain ⟨t', rfl⟩ := ry; exact PySem.EqMixed.eq_str_int (fin_bl I q (by simp))
    | str j => obtain ⟨t', rfl⟩ := ry; exact eq_str (fin_bl I q dec_str)
    | _ => exact absurd (show false = true from hs) Bool.false_ne_true
  | byt i =>
    obtain ⟨t, rfl⟩ := rx
    cases y with
    | byt j => obtain ⟨t', rfl⟩ := ry; exact PySem.W.eq_bytes (fin_bl I q dec_byt)
    | _ => exact absurd (show false = true from hs) Bool.false_ne_true
  | _ => cases y <;> exact absurd (show false = true from hs) Bool.false_ne_true
theorem op_ne : OpR X (compareOp .NotEq) rNe := by
  intro pins s σ H x y v u Q I rx ry h
  obtain ⟨hs, q⟩ := h
  cases x with
  | non =>
    cases rx
    cases y with
    | non => cases ry; exact PySem.EqNone.ne_none_none (fin_bl I q (by simp))
    | bl j => cases ry; exact PySem.EqNone.ne_none_bool (fin_bl I q (by simp))
    | int j => obtain ⟨t', rfl⟩ := ry; exact PySem.EqNone.ne_none_int (fin_bl I q (by simp))
    | str j => obtain ⟨t', rfl⟩ := ry; exact PySem.EqNone.ne_none_str (fin_bl I q (by simp))
    | _ => exact absurd (show false = true from hs) Bool.false_ne_true
  | bl i =>
    cases rx
    cases y with
    | non => cases ry; exact PySem.EqNone.ne_bool_none (fin_bl I q (by simp))
    | bl j => cases ry; exact ne_bool (fin_bl I q (congrArg not dec_bl))
    | str j => obtain ⟨t', rfl⟩ := ry; exact PySem.EqMixed.ne_bool_str (fin_bl I q (by simp))
    | _ => exact absurd (show false = true from hs) Bool.false_ne_true
  | int i =>
    obtain ⟨t, rfl⟩ := rx
    cases y with
    | non => cases ry; exact PySem.EqNone.ne_int_none (fin_bl I q (by simp))
    | int j => obtain ⟨t', rfl⟩ := ry; exact ne_int (fin_bl I q (congrArg not dec_int))
    | str j => obtain ⟨t', rfl⟩ := ry; exact PySem.EqMixed.ne_int_str (fin_bl I q (by simp))
    | _ => exact absurd (show false = true from hs) Bool.false_ne_true
  | str i =>
    obtain ⟨t, rfl⟩ := rx
    cases y with
    | non => cases ry; exact PySem.EqNone.ne_str_none (fin_bl I q (by simp))
    | bl j => cases ry; exact PySem.EqMixed.ne_str_bool (fin_bl I q (by simp))
    | int j => obtain ⟨t', rfl⟩ := ry; exact PySem.EqMixed.ne_str_int (fin_bl I q (by simp))
    | str j => obtain ⟨t', rfl⟩ := ry; exact ne_str (fin_bl I q (congrArg not dec_str))
    | _ => exact absurd (show false = true from hs) Bool.false_ne_true
  | byt i =>
    obtain ⟨t, rfl⟩ := rx
    cases y with
    | byt j => obtain ⟨t', rfl⟩ := ry; exact PySem.W.ne_bytes (fin_bl I q (congrArg not dec_byt))
    | _ => exact absurd (show false = true from hs) Bool.false_ne_true
  | _ => cases y <;> exact absurd (show false = true from hs) Bool.false_ne_true
theorem op_lt : OpR X (compareOp .Lt) (rI0 fun i j => .bl (decide (i < j))) := opB0 fun _ _ _ _ _ _ _ q => lt_int q
theorem op_le : OpR X (compareOp .LtE) (rI0 fun i j => .bl (decide (i ≤ j))) := opB0 fun _ _ _ _ _ _ _ q => le_int q
theorem op_ge : OpR X (compareOp .GtE) (rI0 fun i j => .bl (decide (j ≤ i))) := opB0 fun _ _ _ _ _ _ _ q => ge_int q
theorem op_in_str : OpR X (compareOp .In) (fun x y H Q => ∃ i j, x = .str i ∧ y = .str j ∧ Q (.bl (!(Builtin.Str.occurrences j i 0 j.length 1).isEmpty)) H) := by
  intro pins s σ H x y v u Q I rx ry h
  obtain ⟨i, j, rfl, rfl, q⟩ := h
  obtain ⟨t, rfl⟩ := rx
  obtain ⟨t', rfl⟩ := ry
  exact in_str (fin_bl I q rfl)
theorem nomark (b : Expr) {op : CmpOp} (h : op ≠ .In := by decide) (h2 : op ≠ .NotIn := by decide) : behindInMarks op b = false := by
  have e1 : (op == CmpOp.In) = false := by cases op <;> first | rfl | exact absurd rfl h
  have e2 : (op == CmpOp.NotIn) = false := by cases op <;> first | rfl | exact absurd rfl h2
  cases b <;> simp [behindInMarks, e1, e2]
theorem pe_cmpR {op : CmpOp} {r : R2} (ho : OpR X (compareOp op) r) (ha : PE X a ta) (hb : PE X b tb) (hm : behindInMarks op b = false) : PE X (.Compare a [op] [b] pos) (tOp r ta tb) := by
  intro pins s σ H Q I h
  exact wpAny_Compare1 (binT ha hb I h fun v u s2 x y H2 I2 rx ry q => ho pins s2 σ H2 x y v u Q I2 rx ry q) hm
def tTest (t : TE) : TT := fun σ H Q => t σ H fun x H' => ∃ k, x = .bl k ∧ Q k H'
theorem pt_cmpR {op : CmpOp} {r : R2} (ho : OpR X (compareOp op) r) (ha : PE X a ta) (hb : PE X b tb) (hm : behindInMarks op b = false) : PT X (.Compare a [op] [b] pos) (tTest (tOp r ta tb)) := by
  intro pins s σ H Q I h
  refine wpAny_isTrue_Compare1 (thn (ha pins s σ H _ I h) fun v s1 ⟨x, H1, I1, r1, q1⟩ => thn (hb pins s1 σ H1 _ I1 q1) fun u s2 ⟨y, H2, I2, r2, q2⟩ =>
    thn (ho pins s2 σ H2 x y v u _ I2 r1 r2 q2) fun c s3 ⟨z, H3, I3, r3, k, e, q3⟩ => ?_) hm
  subst e
  cases r3
  exact wpAny_truthy_bool ⟨H3, I3, q3⟩
def tChain (r r' : R2) (ta tb tc : TE) : TE := fun σ H Q => ta σ H fun x H1 => tb σ H1 fun y H2 => r x y H2 fun z H3 => ∃ k, z = .bl k ∧
  (if k = true then tc σ H3 fun w' H4 => r' y w' H4 Q else Q (.bl false) H3)
theorem pe_chain {op op' : CmpOp} {r r' : R2} (ho : OpR X (compareOp op) r) (ho' : OpR X (compareOp op') r') (ha : PE X a ta) (hb : PE X b tb) (hc : PE X c tc)
    (hm : lastMarks [op, op'] [b, c] = false := by with_unfolding_all rfl) : PE X (.Compare a [op, op'] [b, c] pos) (tChain r r' ta tb tc) := by
  intro pins s σ H Q I h
  refine Compare_chain (thn (ha pins s σ H _ I h) fun v s1 ⟨x, H1, I1, r1, q1⟩ => chain_link (thn (hb pins s1 σ H1 _ I1 q1) fun u s2 ⟨y, H2, I2, r2, q2⟩ =>
    thn (ho pins s2 σ H2 x y v u _ I2 r1 r2 q2) fun d s3 ⟨z, H3, I3, r3, k, e, q3⟩ => ?_)) hm
  subst e
  cases r3
  refine wpAny_truthy_bool ?_
  cases k with
  | false => exact ite_ff ⟨.bl false, H3, I3, rfl, q3⟩
  | true => exact ite_tt (chain_last (thn (hc pins s3 σ H3 _ I3 q3) fun w' s4 ⟨z', H4, I4, r4, q4⟩ => ho' pins s4 σ H4 y z' u w' Q I4 r2 r4 q4))
theorem pt_chain {op op' : CmpOp} {r r' : R2} (ho : OpR X (compareOp op) r) (ho' : OpR X (compareOp op') r') (ha : PE X a ta) (hb : PE X b tb) (hc : PE X c tc)
    (hm : lastMarks [op, op'] [b, c] = false := by with_unfolding_all rfl) : PT X (.Compare a [op, op'] [b, c] pos) (tTest (tChain r r' ta tb tc)) := by
  intro pins s σ H Q I h
  refine isTrue_chain (thn (ha pins s σ H _ I h) fun v s1 ⟨x, H1, I1, r1, q1⟩ => test_link (thn (hb pins s1 σ H1 _ I1 q1) fun u s2 ⟨y, H2, I2, r2, q2⟩ =>
    thn (ho pins s2 σ H2 x y v u _ I2 r1 r2 q2) fun d s3 ⟨z, H3, I3, r3, k, e, q3⟩ => ?_)) hm
  subst e
  cases r3
  refine wpAny_truthy_bool ?_
  cases k with
  | false =>
    obtain ⟨k', e', q'⟩ := q3
    cases e'
    exact ite_ff ⟨H3, I3, q'⟩
  | true =>
    refine ite_tt (test_last (thn (hc pins s3 σ H3 _ I3 q3) fun w' s4 ⟨z', H4, I4, r4, q4⟩ => thn (ho' pins s4 σ H4 y z' u w' _ I4 r2 r4 q4) fun d' s5 ⟨z2, H5, I5, r5, k2, e2, q5⟩ => ?_))
    subst e2
    cases r5
    exact wpAny_truthy_bool ⟨H5, I5, q5⟩
theorem line63 : (sizeLine : Nat) < 2 ^ 63 := by rw [sizeLine_eq]; decide
theorem op_add_str : OpR X (binaryOp .Add) (fun x y H Q => ∃ i j, x = .str i ∧ y = .str j ∧ i.length + j.length ≤ sizeLine ∧ Q (.str (i ++ j)) H) := by
  intro pins s σ H x y v u Q I rx ry h
  obtain ⟨i, j, rfl, rfl, hz, q⟩ := h
  obtain ⟨t, rfl⟩ := rx
  obtain ⟨t', rfl⟩ := ry
  exact add_str (fun t' tk => ⟨.str (i ++ j), H, I.tok _, ⟨_, rfl⟩, q⟩) hz
theorem vals1 {x : V} {us : List Value} (r : Vals [x] us) : ∃ u, us = [u] ∧ RelV x u := by
  cases r with
  | cons r1 r2 => cases r2; exact ⟨_, rfl, r1⟩
theorem vals2 {x y : V} {us : List Value} (r : Vals [x, y] us) : ∃ u w', us = [u, w'] ∧ RelV x u ∧ RelV y w' := by
  cases r with
  | cons r1 r2 =>
    cases r2 with
    | cons r3 r4 => cases r4; exact ⟨_, _, rfl, r1, r3⟩
theorem call_max2 (hc : X.calm = true) : CallR X (.builtin "max") (fun xs H Q => ∃ i j, xs = [.int i, .int j] ∧ Q (.int (if j > i then j else i)) H) := by
  intro pins s σ H xs us Q I r h
  obtain ⟨i, j, rfl, q⟩ := h
  obtain ⟨u, w', rfl, ⟨t, rfl⟩, ⟨t', rfl⟩⟩ := vals2 r
  refine max_two_ints (I.ok.hd hc) fun h' tk k => ⟨_, H, I.kept k, ?_, q⟩
  by_cases hj : j > i
  · rw [if_pos hj, if_pos hj]; exact ⟨_, rfl⟩
  · rw [if_neg hj, if_neg hj]; exact ⟨_, rfl⟩
theorem call_min2 (hc : X.calm = true) : CallR X (.builtin "min") (fun xs H Q => ∃ i j, xs = [.int i, .int j] ∧ Q (.int (if j < i then j else i)) H) := by
  intro pins s σ H xs us Q I r h
  obtain ⟨i, j, rfl, q⟩ := h
  obtain ⟨u, w', rfl, ⟨t, rfl⟩, ⟨t', rfl⟩⟩ := vals2 r
  refine min_two_ints (I.ok.hd hc) fun h' tk k => ⟨_, H, I.kept k, ?_, q⟩
  by_cases hj : j < i
  · rw [if_pos hj, if_pos hj]; exact ⟨_, rfl⟩
  · rw [if_neg hj, if_neg hj]; exact ⟨_, rfl⟩
theorem call_int1 : CallR X (.type "int") (fun xs H Q => (∃ i, xs = [.int i] ∧ Q (.int i) H) ∨ ∃ k, xs = [.bl k] ∧ Q (.int (if k then 1 else 0)) H) := by
  intro pins s σ H xs us Q I r h
  rcases h with ⟨i, rfl, q⟩ | ⟨k, rfl, q⟩
  · obtain ⟨u, rfl, t, rfl⟩ := vals1 r
    exact call_int_int ⟨.int i, H, I, ⟨_, rfl⟩, q⟩
  · obtain ⟨u, rfl, r1⟩ := vals1 r
    cases r1
    exact call_int_bool ⟨.int (if k then 1 else 0), H, I.tok _, ⟨_, rfl⟩, q⟩
end
end L2
namespace L2
open PySem PySem.Spec PyProof.Rows
structure ObjM (h : Heap) (x dx C : Addr) (mA : Str → Option Value) : Prop where
  obj : h.get? x = some (PySem.W.instObj C dx)
  ns : h.Ns1 dx mA
  ne : dx ≠ x
theorem lookIn_ns {h : Heap} {dx : Addr} {mA : Str → Option Value} (n : h.Ns1 dx mA) : ∃ od, h.get? dx = some od ∧ ∀ name, PySem.W.lookIn name od = some (mA name) := by
  obtain ⟨o, es, ep, ho, hd, hk, _, hm⟩ := n
  refine ⟨o, ho, fun name => ?_⟩
  have e := hm name
  unfold nsFind findBy at e
  rw [← Array.find?_toList] at e
  unfold PySem.W.lookIn
  rw [hd]
  dsimp only
  split
  · rename_i y q
    rw [q] at e
    exact congrArg some e
  · rename_i q
    rw [q] at e
    have a : es.toList.any (·.refKey) = false := by
      rw [List.any_eq_false]
      intro y hy
      obtain ⟨z, t, hkey⟩ := hk y (Array.mem_toList_iff.mp hy)
      simp [DictEntry.refKey, hkey]
    have a' : ¬ es.toList.any (·.refKey) = true := by rw [a]; exact Bool.false_ne_true
    rw [if_neg a']
    exact congrArg some e
theorem ObjM.look {h : Heap} {x dx C : Addr} {mA : Str → Option Value} (I : ObjM h x dx C mA) : ∃ od, PySem.W.InstAt h x (PySem.W.instObj C dx) C (some od) ∧ ∀ name, PySem.W.lookIn name od = some (mA name) :=
  let ⟨od, ho, hl⟩ := lookIn_ns I.ns
  ⟨od, ⟨I.obj, rfl, rfl, ho⟩, hl⟩
section
variable {prog : Program} {w : World} {A : Around} {E : Value → Shared → Prop} {s : Shared} {K : PySem.W.Frag} {x dx C f : Addr} {mA : Str → Option Value} {name : Str} {v : Value}
end
section
variable {P : Program} {w : World} {H H' : Hp} {h h' : Heap} {a C dx : Addr} {fs fs' : List (Str × V)}
theorem ins_get (hok : HOk P w H h) (e : H a = some (.ins C dx fs)) : ∃ mA, ObjM h a dx C mA ∧ (∀ f, RelO (fs.lookup f) (mA f)) ∧ PySem.Within mA (fs.map (·.1)) ∧ fs.length ≤ 1000 ∧ H dx = some (.own a) := by
  obtain ⟨d, z, ne, ob, mA, n, r, q⟩ := (show ObjOk P w H h a (.ins C dx fs) from hok a _ e)
  exact ⟨mA, ⟨ob, n, ne⟩, r, q, z, d⟩
end
structure Cls (K : PySem.W.Frag) (C : Addr) : Prop where
  pg : PySem.W.plainGet K C Str.empty = true
  hd : PySem.W.hasDictIn K C = true
  po : PySem.W.plainOver K C = true
  sa : PySem.W.findIn K (.ref C) "__setattr__" = some (some (.builtin "object.__setattr__"))
theorem Cls.get {K : PySem.W.Frag} {C : Addr} (c : Cls K C) (f : Str) : PySem.W.plainGet K C f = true := c.pg
section
variable {X : Cx} {pins : List (Addr × Obj)} {σ : St} {H : Hp} {s : Shared} {a C dx : Addr} {fs : List (Str × V)} {f : Str} {v : V} {A : Around} {E : Value → Shared → Prop}
end
section
variable {X : Cx} {o e value : Expr} {f : Str} {pos pos' tpos : Pos} {ta tv : TE}
end
section
variable {X : Cx} {pins : List (Addr × Obj)} {σ : St} {H : Hp} {s : Shared} {A : Around} {E : Value → Shared → Prop} {Q : Value → Shared → Prop} {c : Value} {b : Bool}
inductive TyOf (K : PySem.W.Frag) (H : Hp) : V → Value → Prop where
  | non : TyOf K H .non (.type "NoneType")
  | bl (x : Bool) : TyOf K H (.bl x) (.type "bool")
  | int (i : Int) : TyOf K H (.int i) (.type "int")
  | str (x : Str) : TyOf K H (.str x) (.type "str")
  | flt (x : UInt64) : TyOf K H (.flt x) (.type "float")
  | lst {a : Addr} {xs : List V} (e : H a = some (.lst xs)) : TyOf K H (.ref a) (.type "list")
  | frz {a : Addr} {o : Obj} {xs : List V} (e : H a = some (.frz o (.lst xs))) : TyOf K H (.ref a) (.type "list")
  | tup {a : Addr} {xs : List V} (e : H a = some (.tup xs)) : TyOf K H (.ref a) (.type "tuple")
  | dK {a : Addr} {kvs : List (Key × V)} (e : H a = some (.dK kvs)) : TyOf K H (.ref a) (.type "dict")
  | dT {a : Addr} {kvs : List (List Key × V)} (e : H a = some (.dT kvs)) : TyOf K H (.ref a) (.type "dict")
  | ins {a C dx : Addr} {fs : List (Str × V)} (e : H a = some (.ins C dx fs)) (cl : Cls K C) (ha : PySem.W.findIn K (.ref C) "__class__" = some (some (.builtin "object.__class__")))
      (hn : PySem.W.specialIn K (.builtin "object.__class__") "__get__" = some (some (.builtin "getset_descriptor.__get__"))) (htk : PySem.W.takesIn K (.builtin "object.__class__") = some true)
      (hm : PySem.W.mroIn K C (.type "object") = some true) : TyOf K H (.ref a) (.ref C)
theorem isinst_ok {x : V} {u t : Value} (I : Inv X pins σ H s) (rx : RelV x u) (ty : TyOf X.K H x t) (e : PySem.W.kitOne X.K t c = some b) (h : ∀ tk, Q (.bool b) { s with toks := tk }) :
    wpAny (model X.prog X.w) A (call (.builtin "isinstance") [u, c]) Q E s := by
  cases ty with
  | non => cases (show u = Value.none from rx); exact PySem.W.kia_one PySem.W.kitx_none I.kIn True.intro e (fun z => nomatch z) h
  | bl y => cases (show u = Value.bool y from rx); exact PySem.W.kia_one PySem.W.kitx_bool I.kIn True.intro e (fun z => nomatch z) h
  | int i => obtain ⟨t, q⟩ := (show ∃ t, u = Value.int i t from rx); cases q; exact PySem.W.kia_one PySem.W.kitx_int I.kIn True.intro e (fun z => nomatch z) h
  | str y => obtain ⟨t, q⟩ := (show ∃ t, u = Value.str y t from rx); cases q; exact PySem.W.kia_one PySem.W.kitx_str I.kIn True.intro e (fun z => nomatch z) h
  | flt y => obtain ⟨t, q⟩ := (show ∃ t, u = Value.float y t from rx); cases q; exact PySem.W.kia_one PySem.W.kitx_float I.kIn True.intro e (fun z => nomatch z) h
  | @lst a xs ea =>
    cases (show u = Value.ref a from rx)
    obtain ⟨_, _, n, _, h1⟩ := (show ObjOk X.prog X.w H s.heap a (.lst xs) from I.hok a _ ea)
    exact PySem.W.kia_one PySem.W.kitx_list I.kIn ⟨_, h1, rfl⟩ e (fun z => nomatch z) h
  | @frz a ob xs ea =>
    cases (show u = Value.ref a from rx)
    obtain ⟨_, _, _, n, _, h1⟩ := (show ObjOk X.prog X.w H s.heap a (.frz ob (.lst xs)) from I.hok a _ ea)
    exact PySem.W.kia_one PySem.W.kitx_list I.kIn ⟨_, h1, rfl⟩ e (fun z => nomatch z) h
  | @tup a xs ea =>
    cases (show u = Value.ref a from rx)
    obtain ⟨_, _, _, p⟩ := (show ObjOk X.prog X.w H s.heap a (.tup xs) from I.hok a _ ea)
    obtain ⟨o, h1, h2, _⟩ := p
    exact PySem.W.kia_one PySem.W.kitx_tuple I.kIn ⟨o, h1, h2⟩ e (fun z => nomatch z) h
  | @dK a kvs ea =>
    cases (show u = Value.ref a from rx)
    obtain ⟨_, _, vs, _, p⟩ := (show ObjOk X.prog X.w H s.heap a (.dK kvs) from I.hok a _ ea)
    obtain ⟨o, es, ep, h1, h2, _⟩ := p
    exact PySem.W.kia_one PySem.W.kitx_dict I.kIn ⟨o, h1, h2.1⟩ e (fun z => nomatch z) h
  | @dT a kvs ea =>
    cases (show u = Value.ref a from rx)
    obtain ⟨_, _, xs, _, o, es, ep, h1, h2, _⟩ := (show ObjOk X.prog X.w H s.heap a (.dT kvs) from I.hok a _ ea)
    exact PySem.W.kia_one PySem.W.kitx_dict I.kIn ⟨o, h1, h2.1⟩ e (fun z => nomatch z) h
  | @ins a C dx fs ea cl ha hn htk hm =>
    cases (show u = Value.ref a from rx)
    obtain ⟨mA, O, _⟩ := ins_get I.hok ea
    obtain ⟨od, J, _⟩ := O.look
    exact PySem.W.kia_one (PySem.W.kitx_own (cl.get _) cl.hd ha hn htk hm) I.kIn J e (fun z => nomatch z) h
end
end L2
namespace L2
open PySem PySem.Spec PyProof.Rows
structure Room (k : Nat) (A : Around) : Prop where
  hd : A.handled = none
  dp : A.depth + 3 * k + 5 < recursionLimit
  un : A.units + 16 * k + 200 < cLine
theorem Room.mono {j k : Nat} {A : Around} (r : Room k A) (h : j ≤ k) : Room j A := ⟨r.hd, by have := r.dp; omega, by have := r.un; omega⟩
theorem Room.deeper {k : Nat} {A : Around} (r : Room (k + 1) A) (env : Env) : Room k (A.deeper env) :=
  ⟨r.hd, by have := r.dp; show A.depth + 1 + 3 * k + 5 < _; omega, by have := r.un; show A.units + 3 + 16 * k + 200 < _; omega⟩
theorem Room.in1 {k : Nat} {A : Around} (r : Room (k + 1) A) : Room k A.in1 :=
  ⟨r.hd, by have := r.dp; show A.depth + 3 * k + 5 < _; omega, by have := r.un; show A.units + 1 + 16 * k + 200 < _; omega⟩
theorem Room.depth {k : Nat} {A : Around} (r : Room k A) : A.depth < recursionLimit := by have := r.dp; omega
theorem Room.units {k : Nat} {A : Around} (r : Room k A) : A.units + 64 < cLine := by have := r.un; omega
def tNil : TA := fun _ H Q => Q [] H
def tCons (ta : TE) (tr : TA) : TA := fun σ H Q => ta σ H fun x H1 => tr σ H1 fun xs H2 => Q (x :: xs) H2
section
variable {X : Cx} {e : Expr} {es : List Expr} {te : TE} {t : TA} {pos : Pos}
theorem pa_nil : PA X [] tNil := fun _ _ _ _ H Q I h => Calls.spliced_nil ⟨[], H, I, .nil, h⟩
theorem pa_cons (ha : PE X e te) (hr : PA X es t) (hs : starEach (e :: es) X.env = (false, eval e X.env) :: starEach es X.env := by rfl) : PA X (e :: es) (tCons te t) := by
  intro pos pins s σ H Q I h
  rw [hs]
  show wpAny _ _ (spliced ((false, eval e X.env) :: backTo pos (starEach es X.env))) _ _ s
  refine Calls.spliced_cons (thn (ha pins s σ H _ I h) fun u s1 ⟨x, H1, I1, r1, q1⟩ => ?_)
  exact thn (hr pos pins s1 σ H1 _ I1 q1) fun us s2 ⟨xs, H2, I2, r2, q2⟩ => ⟨x :: xs, H2, I2, .cons r1 r2, q2⟩
def tTup (t : TA) : TE := fun σ H Q => t σ H fun xs H1 => xs.length ≤ sizeLine ∧ ∀ p, H1 p = none → Q (.ref p) (upd H1 p (.tup xs))
def tLst (t : TA) : TE := fun σ H Q => t σ H fun xs H1 => xs.length ≤ sizeLine ∧ ∀ p, H1 p = none → Q (.ref p) (upd H1 p (.lst xs))
theorem pe_tup {x1} (h : PA X es t) : PE X (.Tuple es x1 pos) (tTup t) := by
  intro pins s σ H Q I hq
  refine wpAny_Tuple_spliced (thn (h pos pins s σ H _ I hq) fun us s1 ⟨xs, H1, I1, r, z, q⟩ => ⟨by rw [← r.length]; exact z, ?_⟩)
  have hf : H1 s1.heap.objs.size = none := I1.hok.fresh (Nat.le_refl _)
  refine ⟨.ref s1.heap.objs.size, upd H1 s1.heap.objs.size (.tup xs), I1.laid (t' := s1.toks) (fun b u e => Heap.get?_push_of_some _ e) (Nat.le_refl _) ?_, rfl, q _ hf⟩
  exact ⟨z, us, r, ⟨_, Heap.get?_push_size _ rfl, rfl, _, rfl⟩⟩
theorem pe_lst (h : PA X es t) : PE X (.List es pos) (tLst t) := by
  intro pins s σ H Q I hq
  refine wpAny_List_spliced (thn (h pos pins s σ H _ I hq) fun us s1 ⟨xs, H1, I1, r, z, q⟩ => ⟨by rw [← r.length]; exact z, ?_⟩)
  have hf : H1 s1.heap.objs.size = none := I1.hok.fresh (Nat.le_refl _)
  refine ⟨.ref s1.heap.objs.size, upd H1 s1.heap.objs.size (.lst xs), I1.laid (t' := s1.toks) (fun b u e => Heap.get?_push_of_some _ e) (Nat.le_refl _) ?_, rfl, q _ hf⟩
  exact ⟨z, us, 0, r, Heap.get?_push_size _ rfl⟩
end
abbrev Sp := List V → Hp → VK → XK → Prop
abbrev CXT := List Env → Hp → Shared → XK → Value → Shared → Prop
structure Env0 (P : Program) (w : World) (K : PySem.W.Frag) (mg : Str → Option Value) (base : Heap) (A : Around) (outer : List Env) (s : Shared) (H : Hp) : Prop where
  frames : A.frames = some outer
  mod : Mod K mg base
  bs : ∀ b o, base.get? b = some o → s.heap.get? b = some o ∧ H b = none
  bsz : base.objs.size ≤ s.heap.objs.size
  funs : s.heap.FunFrames base outer
  frf : ∀ b ∈ frs outer, H b = none
  hok : HOk P w H s.heap
  bare : AllBare s.gens
def CE (outer : List Env) (P : Program) (w : World) (H : Hp) (s : Shared) (Q : VK) (u : Value) (s' : Shared) : Prop :=
  ∃ v H', s'.os = s.os ∧ AllBare s'.gens ∧ Un (frs outer) [] H H' s.heap s'.heap ∧ HOk P w H' s'.heap ∧ RelV v u ∧ Q v H'
def CR (CX : CXT) (outer : List Env) (P : Program) (w : World) (H : Hp) (s : Shared) (Q : VK) (E : XK) (r : Result) (s' : Shared) : Prop :=
  match r with
  | .ok (.ret u) => CE outer P w H s Q u s'
  | .ok _ => False
  | .error e => CX outer H s E e s'
structure FnOk (P : Program) (w : World) (K : PySem.W.Frag) (mg : Str → Option Value) (base : Heap) (CX : CXT) (k : Nat) (f : Addr) (fd : FuncData) (ps : List Str) (sp : Sp) : Prop where
  len : ∀ vs H Q E, sp vs H Q E → vs.length = ps.length
  run : ∀ (A : Around) (outer : List Env) (s : Shared) (H : Hp) (args : Args) (us : List Value) (vs : List V) (Q : VK) (E : XK), Room k A → Env0 P w K mg base A outer s H → BindsTo s fd args (ps.zip us) → Vals vs us → sp vs H Q E →
    codeAny (model P w) A (.call (.ref f) args) (CR CX outer P w H s Q E) s
theorem FnOk.mono {P : Program} {w : World} {K : PySem.W.Frag} {mg : Str → Option Value} {base : Heap} {CX : CXT} {j k : Nat} {f : Addr} {fd : FuncData} {ps : List Str} {sp : Sp} (F : FnOk P w K mg base CX j f fd ps sp) (h : j ≤ k) :
    FnOk P w K mg base CX k f fd ps sp := ⟨F.len, fun A outer s H args us vs Q E hr => F.run A outer s H args us vs Q E (hr.mono h)⟩
theorem Env0.in1 {P : Program} {w : World} {K : PySem.W.Frag} {mg : Str → Option Value} {base : Heap} {A : Around} {outer : List Env} {s : Shared} {H : Hp} (e : Env0 P w K mg base A outer s H) :
    Env0 P w K mg base A.in1 outer s H := ⟨e.frames, e.mod, e.bs, e.bsz, e.funs, e.frf, e.hok, e.bare⟩
section
variable {X : Cx} {pins : List (Addr × Obj)} {σ : St} {H : Hp} {s s' : Shared}
theorem Inv.env0 (I : Inv X pins σ H s) : Env0 X.prog X.w X.K X.mg X.base X.A X.stack s H :=
  ⟨I.ok.frames, I.ok.mod, I.bs, Nat.le_trans I.ok.bsz I.sz, I.stack, I.stkFree, I.hok, I.bare⟩
theorem Inv.after {Q : VK} {u : Value} (I : Inv X pins σ H s) (h : CE X.stack X.prog X.w H s Q u s') : EP X pins σ Q u s' := by
  obtain ⟨v, H', os, bare, un, hok, r, q⟩ := h
  obtain ⟨hh, g, d, t, os'⟩ := s'
  obtain rfl : os' = s.os := os
  exact ⟨v, H', I.call (h' := hh) (g' := g) (d' := d) (t' := t) (ch := []) un hok bare (fun b z => absurd z (by simp)), r, q⟩
end
def tCall (sp : Sp) (dvs : List V) (E : XK) (t : TA) : TE := fun σ H Q => t σ H fun vs H1 => sp (vs ++ dvs) H1 Q E
def Binds (K : PySem.W.Frag) (fd : FuncData) (ps : List Str) (ds : List Value) : Prop :=
  ∀ (s : Shared) (us : List Value), K.In s.heap → (us ++ ds).length = ps.length → BindsTo s fd ⟨us, []⟩ (ps.zip (us ++ ds))
theorem Binds.all {K : PySem.W.Frag} {fd : FuncData} {ps : List Str} (h : ∀ us : List Value, us.length = ps.length → bindArgs fd ⟨us, []⟩ = pure (ps.zip us)) : Binds K fd ps [] := fun s us _ hl => by
  rw [List.append_nil] at hl ⊢
  exact .of_eq (h us hl)
def Passes (CX : CXT) (X : Cx) (E : XK) : Prop := ∀ (pins : List (Addr × Obj)) (σ : St) (H : Hp) (s : Shared) (e : Value) (s' : Shared), Inv X pins σ H s → CX X.stack H s E e s' → X.xe e s'
section
variable {X : Cx} {CX : CXT} {k : Nat} {f C : Addr} {fd : FuncData} {ps : List Str} {sp : Sp} {dvs : List V} {ds : List Value} {E : XK} {x m : Str} {p pos apos : Pos} {e o : Expr} {es : List Expr} {ta : TE} {t : TA}
theorem run_fn {pins : List (Addr × Obj)} {σ : St} {H : Hp} {s : Shared} {Q : VK} {us : List Value} {vs : List V} (F : FnOk X.prog X.w X.K X.mg X.base CX k f fd ps sp) (hr : Room k X.A) (hb : Binds X.K fd ps ds) (hd : Vals dvs ds) (hx : Passes CX X E)
    (I : Inv X pins σ H s) (r : Vals vs us) (h : sp (vs ++ dvs) H Q E) : wpAny (model X.prog X.w) X.A (call (.ref f) us) (EP X pins σ Q) X.xe s := by
  have r2 : Vals (vs ++ dvs) (us ++ ds) := r.append hd
  have hl : (us ++ ds).length = ps.length := by rw [← r2.length]; exact F.len _ _ _ _ h
  refine wpAny_call (codeAny_mono (F.run X.A X.stack s H ⟨us, []⟩ (us ++ ds) (vs ++ dvs) Q E hr I.env0 (hb s us I.kIn hl) r2 h) fun r s' hq => ?_)
  cases r with
  | error e => exact hx pins σ H s e s' I hq
  | ok fl =>
    cases fl with
    | ret u => exact I.after hq
    | next => exact False.elim hq
    | brk => exact False.elim hq
    | cont => exact False.elim hq
theorem pe_call (F : FnOk X.prog X.w X.K X.mg X.base CX k f fd ps sp) (hr : Room k X.A) (hg : Gl X x) (hm : X.mg x = some (.ref f)) (hk : PySem.W.keepIn X.K (.ref f) = true) (hb : Binds X.K fd ps ds) (hd : Vals dvs ds) (hx : Passes CX X E)
    (ha : PA X (e :: es) t) (hdb : (x == ("__debug__" : Str)) = false := by decide) (he : starEach (e :: es) X.env = (false, eval e X.env) :: starEach es X.env := by rfl) (hpl : (backTo pos (starEach es X.env)).any (·.1) = false := by rfl) :
    PE X (.Call (.Name x p) (e :: es) [] pos) (tCall sp dvs E t) := by
  intro pins s σ H Q I h
  refine wpAny_Call_Name_kw (ld_glob I hg hm ?_ hdb)
  refine PySem.W.callWith_K (h₀ := X.base) I.ok.mod.kin hk (thn (ha pos pins s σ H _ I h) fun us s1 ⟨vs, H1, I1, r, q⟩ => ⟨I1.kIn, ?_⟩) he hpl
  exact run_fn F hr hb hd hx I1 r q
end
section
variable {X : Cx} {CX : CXT} {k : Nat} {f C : Addr} {fd : FuncData} {ps ks : List Str} {sp : Sp} {E : XK} {x m : Str} {p pos apos kpos : Pos} {e o : Expr} {es : List Expr} {kws : List Keyword} {te ta : TE} {t tk : TA} {nm : Option Str}
variable {g : List Value → List Value → List Value} {gV : List V → List V → List V}
end
structure FnScope (N P : List Str) (sc : Scope) : Prop where
  kind : sc.kind = .function
  co : sc.isCoroutine = false
  gen : sc.isGenerator = false
  nd : N.Nodup
  pre : N.take P.length = P
  par : ∀ x ∈ P, sc.names.lookup x = some .local ∨ sc.names.lookup x = some .cell
  nofree : ∀ y ∈ sc.names, y.2 ≠ .free
theorem bindL_out {kindOf : Str → Option NameKind} {x : Str} : ∀ {binds : List (Str × Value)} {m : Str → Option Value}, (∀ v, (x, v) ∉ binds) → bindL kindOf binds m x = m x
  | [], _, _ => rfl
  | (n, v) :: r, m, h => by
    unfold bindL
    rw [bindL_out fun w hw => h w (List.mem_cons_of_mem _ hw)]
    split
    · have : x ≠ n := by rintro rfl; exact h v List.mem_cons_self
      simp [this]
    · rfl
theorem bindC_out {kindOf : Str → Option NameKind} {x : Str} : ∀ {binds : List (Str × Value)} {m : Str → Option Value}, (∀ v, (x, v) ∉ binds) → bindC kindOf binds m x = m x
  | [], _, _ => rfl
  | (n, v) :: r, m, h => by
    unfold bindC
    rw [bindC_out fun w hw => h w (List.mem_cons_of_mem _ hw)]
    split
    · rfl
    · have : x ≠ n := by rintro rfl; exact h v List.mem_cons_self
      simp [this]
theorem bindL_get {kindOf : Str → Option NameKind} {x : Str} {v : Value} : ∀ {P : List Str} {vs : List Value} {i : Nat} {m : Str → Option Value}, P.Nodup → P[i]? = some x → vs[i]? = some v → kindOf x = some .local →
    bindL kindOf (P.zip vs) m x = some v
  | [], _, _, _, _, h, _, _ => by simp at h
  | _ :: _, [], _, _, _, _, h, _ => by simp at h
  | p :: P, w :: vs, 0, m, nd, h1, h2, hk => by
    simp at h1 h2; subst h1; subst h2
    show bindL kindOf ((p, w) :: P.zip vs) m p = _
    unfold bindL
    rw [bindL_out fun v hv => (List.nodup_cons.mp nd).1 (List.of_mem_zip hv).1, if_pos hk]
    simp
  | p :: P, w :: vs, i + 1, m, nd, h1, h2, hk => by
    show bindL kindOf ((p, w) :: P.zip vs) m x = _
    unfold bindL
    exact bindL_get (i := i) (List.nodup_cons.mp nd).2 (by simpa using h1) (by simpa using h2) hk
theorem bindC_get {kindOf : Str → Option NameKind} {x : Str} {v : Value} : ∀ {P : List Str} {vs : List Value} {i : Nat} {m : Str → Option Value}, P.Nodup → P[i]? = some x → vs[i]? = some v → kindOf x ≠ some .local →
    bindC kindOf (P.zip vs) m x = some v
  | [], _, _, _, _, h, _, _ => by simp at h
  | _ :: _, [], _, _, _, _, h, _ => by simp at h
  | p :: P, w :: vs, 0, m, nd, h1, h2, hk => by
    simp at h1 h2; subst h1; subst h2
    show bindC kindOf ((p, w) :: P.zip vs) m p = _
    unfold bindC
    rw [bindC_out fun v hv => (List.nodup_cons.mp nd).1 (List.of_mem_zip hv).1, if_neg hk]
    simp
  | p :: P, w :: vs, i + 1, m, nd, h1, h2, hk => by
    show bindC kindOf ((p, w) :: P.zip vs) m x = _
    unfold bindC
    exact bindC_get (i := i) (List.nodup_cons.mp nd).2 (by simpa using h1) (by simpa using h2) hk
def start (N : List Str) (vs : List V) : St := vs.map some ++ List.replicate (N.length - vs.length) none
def cxOf (CX : CXT) (P : Program) (w : World) (K : PySem.W.Frag) (mg : Str → Option Value) (base : Heap) (N : List Str) (qual : Str) (scope : Scope) (f : Addr) (cd : Value) (A : Around) (outer : List Env) (s : Shared) (H : Hp) (E : XK) : Cx where
  prog := P
  w := w
  K := K
  mg := mg
  base := base
  A := A.deeper (envOfC qual scope s.heap.objs.size f cd)
  N := N
  s₀ := s
  H₀ := H
  env := envOfC qual scope s.heap.objs.size f cd
  outer := outer
  stack := envOfC qual scope s.heap.objs.size f cd :: outer
  ex := []
  calm := true
  fn := fun _ => true
  pn := []
  xe := fun e s' => wpAny (model P w) (A.deeper (envOfC qual scope s.heap.objs.size f cd)) (leaving (envOfC qual scope s.heap.objs.size f cd) e) (fun _ s'' => CX outer H s E e s'') (fun e' s'' => CX outer H s E e' s'') s'
theorem cell_has {sc : Scope} {n : Nat} {x : Str} (h : sc.names.lookup x = some .cell) : ∃ c, (cellsFrom n sc.names []).lookup x = some c := by
  have q := PySem.W.cellsFrom_some sc.names n [] (.inl h)
  exact Option.isSome_iff_exists.mp q
theorem inv_start {CX : CXT} {P : Program} {w : World} {K : PySem.W.Frag} {mg : Str → Option Value} {base : Heap} {N ps : List Str} {qual : Str} {scope : Scope} {f : Addr} {cd : Value} {A : Around} {outer : List Env} {s s1 : Shared} {H : Hp} {E : XK} {us : List Value} {vs : List V}
    (S : FnScope N ps scope) (hd : A.handled = none) (e0 : Env0 P w K mg base A outer s H) (hl : vs.length = ps.length) (r : Vals vs us)
    (x : InCallC s s.heap.objs.size (bindL (envOfC qual scope s.heap.objs.size f cd).kindOf (ps.zip us) fun _ => none) (cellsFrom (s.heap.objs.size + 1) scope.names []) (bindC (envOfC qual scope s.heap.objs.size f cd).kindOf (ps.zip us) fun _ => none) s1) :
    Inv (cxOf CX P w K mg base N qual scope f cd A outer s H E) [] (start N vs) H s1 := by
  have hpl : ps.length ≤ N.length := by have := congrArg List.length S.pre; rw [List.length_take] at this; omega
  obtain ⟨h1, tk, rfl, hk⟩ := x.done
  have noA : ∀ b : Addr, b ∉ (cxOf CX P w K mg base N qual scope f cd A outer s H E).ex := fun b z => absurd (show b ∈ ([] : List Addr) from z) (by simp)
  refine ⟨⟨e0.mod, S.kind, rfl, rfl, Nat.le_refl _, fun y z c h1 h2 => ?_, fun y hy => ?_, fun y c _ h => ?_, fun _ => hd, Around.frames_deeper e0.frames, .inr ⟨rfl, rfl⟩, fun b z => absurd z (noA b), e0.bs, e0.bsz, fun b _ _ => noA b, fun b z => absurd z (noA b), e0.funs, e0.frf⟩,
    rfl, e0.bare, Un.kept hk, ⟨_, x.toInCall.ns, fun i y v h1 h2 h3 => ?_⟩, fun y c h => ⟨_, x.cell y c h⟩, e0.hok.fresh (Nat.le_refl _), fun y c h => ?_, fun p hp => absurd (show p ∈ ([] : List (Addr × Obj)) from hp) (by simp), e0.hok.kept hk, ?_⟩
  · exact name_of_addr x.apart (PySem.mem_of_lookup h1) (PySem.mem_of_lookup h2)
  · have hy : scope.names.lookup y = some .cell ∨ scope.names.lookup y = some .free := hy
    rcases hy with hy | hy
    · exact cell_has hy
    · exact absurd rfl (S.nofree _ (PySem.mem_of_lookup hy))
  · exact Nat.le_of_lt (x.above y c (PySem.mem_of_lookup h))
  · have hi : i < vs.length := by
      unfold start at h2
      by_cases hi : i < vs.length
      · exact hi
      · rw [List.getElem?_append_right (by simpa using hi)] at h2
        rw [List.getElem?_replicate] at h2
        split at h2 <;> cases h2
    have ha : vs[i]? = some v := by
      unfold start at h2
      rw [List.getElem?_append_left (by simpa using hi), List.getElem?_map] at h2
      cases e : vs[i]? with
      | none => rw [e] at h2; cases h2
      | some a => rw [e] at h2; cases h2; rfl
    obtain ⟨u, hu, rv⟩ := r.get ha
    have hp : ps[i]? = some y := by
      rw [← S.pre, List.getElem?_take_of_lt (by omega)]; exact h1
    have ndP : ps.Nodup := by rw [← S.pre]; exact S.nd.sublist (List.take_sublist _ _)
    refine ⟨u, rv, ?_⟩
    rcases S.par y (List.mem_of_getElem? hp) with k | k
    · exact .inl ⟨k, bindL_get ndP hp hu k⟩
    · obtain ⟨c, e⟩ := cell_has (n := s.heap.objs.size + 1) k
      refine .inr ⟨.inl k, c, e, ?_⟩
      have q := x.cell y c e
      rw [bindC_get ndP hp hu (by show scope.names.lookup y ≠ _; rw [k]; decide)] at q
      exact q
  · exact e0.hok.fresh (Nat.le_of_lt (x.above y c (PySem.mem_of_lookup h)))
  · unfold start
    show _ = N.length
    rw [List.length_append, List.length_map, List.length_replicate]
    omega
theorem fn_of {CX : CXT} {P : Program} {w : World} {K : PySem.W.Frag} {mg : Str → Option Value} {base : Heap} {k : Nat} {f : Addr} {name qual : Str} {params : Arguments} {body : List Stmt} {scope : Scope} {dV kV doc pm cdv ct oc : Value} {an od : Option Addr}
    {osl : Array (Option Value)} {N ps : List Str} {sp : Sp} (lk : K.lookup f = some ⟨oc, od, .func (PySem.W.fnOf name qual params body scope dV kV doc pm an cdv ct), osl⟩) (hcd : PySem.W.codeIn K cdv qual = true) (S : FnScope N ps scope)
    (len : ∀ vs H Q E, sp vs H Q E → vs.length = ps.length)
    (hbody : ∀ (A : Around) (outer : List Env) (s : Shared) (H : Hp) (vs : List V) (Q : VK) (E : XK), Room k (A.deeper (envOfC qual scope s.heap.objs.size f cdv)) → sp vs H Q E →
      ∃ t, PSs (cxOf CX P w K mg base N qual scope f cdv A outer s H E) body t ∧ t { nx := fun _ H' => Q .non H', rt := Q } (start N vs) H) :
    FnOk P w K mg base CX (k + 1) f (PySem.W.fnOf name qual params body scope dV kV doc pm an cdv ct) ps sp := by
  refine ⟨len, fun A outer s H args us vs Q E hr e0 hb r hsp => ?_⟩
  have hl := len _ _ _ _ hsp
  have KX : K.In s.heap := e0.mod.kin.keeps fun b o e => (e0.bs b o e).1
  have lim : s.heap.NoLimit := e0.mod.nolimit.keeps fun b o e => (e0.bs b o e).1
  have hkind : ∀ y ∈ ps.zip us, scope.names.lookup y.1 = some .local ∨ (scope.names.lookup y.1 = some .cell ∧ ((cellsFrom (s.heap.objs.size + 1) scope.names []).lookup y.1).isSome = true) := fun ⟨n, v⟩ hy => by
    rcases S.par n (List.of_mem_zip hy).1 with q | q
    · exact .inl q
    · exact .inr ⟨q, PySem.W.cellsFrom_some _ _ _ (.inl q)⟩
  refine codeAny_call_function hr.depth (KX _ _ lk) rfl S.co S.gen rfl (PySem.W.codeRec_of KX hcd) (hb _ _ _ _ ?_)
  refine wpAny_newFunctionEnv_cells S.kind hkind fun env he s1 x => ?_
  subst he
  refine ⟨lim.keeps x.toInCall.keep, codeAny_func ?_⟩
  obtain ⟨t, ht, hq⟩ := hbody A outer s H vs Q E (hr.deeper _) hsp
  have I : Inv (cxOf CX P w K mg base N qual scope f cdv A outer s H E) [] (start N vs) H s1 := inv_start S hr.hd e0 hl r x
  refine wpAny_mono (ht [] s1 (start N vs) H _ I hq) (fun fl s' hs => ?_) fun e s' hs => hs
  have fin : ∀ {σ' : St} {H' : Hp} {v : V} {u : Value}, Inv (cxOf CX P w K mg base N qual scope f cdv A outer s H E) [] σ' H' s' → RelV v u → Q v H' → CE outer P w H s Q u s' :=
    fun {σ' H' v u} J rv q => ⟨v, H', J.os, J.bare, J.base, J.hok, rv, q⟩
  cases fl with
  | ret u =>
    obtain ⟨v, σ', H', J, rv, q⟩ := hs
    exact fin J rv q
  | next =>
    obtain ⟨σ', H', J, q⟩ := hs
    exact fin (v := V.non) (u := Value.none) J rfl q
  | brk =>
    obtain ⟨_, _, _, q⟩ := hs
    exact False.elim q
  | cont =>
    obtain ⟨_, _, _, q⟩ := hs
    exact False.elim q
end L2
namespace L2
open PySem PySem.Spec PyProof.Rows
section
variable {X : Cx} {x : Str} {p pos : Pos} {e : Expr} {es : List Expr} {t : TA} {id T : String} {r : List V → Hp → VK → Prop}
def tCB (r : List V → Hp → VK → Prop) (t : TA) : TE := fun σ H Q => t σ H fun vs H1 => r vs H1 Q
theorem pe_callB (hc : CallR X (.builtin id) r) (hg : Gl X x) (hm : X.mg x = none) (hv : bootBuiltins x = some (.builtin id)) (ha : PA X (e :: es) t) (hn : x ≠ "__name__" := by decide) (hdb : (x == ("__debug__" : Str)) = false := by decide)
    (he : starEach (e :: es) X.env = (false, eval e X.env) :: starEach es X.env := by rfl) (hpl : (backTo pos (starEach es X.env)).any (·.1) = false := by rfl) : PE X (.Call (.Name x p) (e :: es) [] pos) (tCB r t) := by
  intro pins s σ H Q I h
  refine wpAny_Call_Name_kw (ld_blt I hg hm hv ?_ hn hdb)
  exact PyProof.Rows.callWith_builtin1 (thn (ha pos pins s σ H _ I h) fun us s1 ⟨vs, H1, I1, r1, q1⟩ => hc pins s1 σ H1 vs us Q I1 r1 q1) he hpl
theorem pe_callTy (hc : CallR X (.type T) r) (hg : Gl X x) (hm : X.mg x = none) (hv : bootBuiltins x = some (.type T)) (ha : PA X (e :: es) t) (hn : x ≠ "__name__" := by decide) (hdb : (x == ("__debug__" : Str)) = false := by decide)
    (he : starEach (e :: es) X.env = (false, eval e X.env) :: starEach es X.env := by rfl) (hpl : (backTo pos (starEach es X.env)).any (·.1) = false := by rfl) : PE X (.Call (.Name x p) (e :: es) [] pos) (tCB r t) := by
  intro pins s σ H Q I h
  refine wpAny_Call_Name_kw (ld_blt I hg hm hv ?_ hn hdb)
  exact PyProof.Rows.callWith_type1 (thn (ha pos pins s σ H _ I h) fun us s1 ⟨vs, H1, I1, r1, q1⟩ => hc pins s1 σ H1 vs us Q I1 r1 q1) he hpl
end
end L2
namespace HT
open PySem PyProof.Rows
section
open PySem.SeqAt
open PySem.AutoSeq1 (wpAny_loadPart')
open PySem.MeetsSeq PySem.MeetsSeq2 PySem.MeetsSeq3
end
section
variable {prog : Program} {w : World} {A : Around} {E : Value → Shared → Prop} {s : Shared}
def sIx (n d : Nat) : Option Int → Nat
  | none => d
  | some v => if v < 0 then (v + (n : Int)).toNat else min v.toNat n
theorem sIx_none (n d : Nat) : sIx n d none = d := rfl
theorem sIx_nat (n d k : Nat) : sIx n d (some (k : Int)) = min k n := by
  show (if (k : Int) < 0 then ((k : Int) + (n : Int)).toNat else min (k : Int).toNat n) = min k n
  rw [if_neg (by omega), Int.toNat_natCast]
end
end HT
namespace L2
open PySem PySem.Spec PyProof.Rows
abbrev TO := St → Hp → (Option Int → Hp → Prop) → Prop
def PO (X : Cx) (e : Option Expr) (t : TO) : Prop :=
  ∀ (pins : List (Addr × Obj)) (s : Shared) (σ : St) (H : Hp) (Q : Option Int → Hp → Prop), Inv X pins σ H s → t σ H Q →
    wpAny (model X.prog X.w) X.A (evalPart e X.env) (fun u s' => ∃ o H', Inv X pins σ H' s' ∧ IsPart u o ∧ Q o H') X.xe s
def tNoPart : TO := fun _ H Q => Q none H
def tPart (t : TE) : TO := fun σ H Q => t σ H fun x H1 => ∃ i, x = .int i ∧ Q (some i) H1
section
variable {X : Cx} {e : Expr} {te : TE} {lo hi : Option Expr} {tl th : TO} {pos p2 : Pos}
theorem po_none : PO X none tNoPart := by
  intro pins s σ H Q I h
  rw [evalPart_none]
  exact wpAny_pure ⟨none, H, I, .none, h⟩
theorem po_some (h : PE X e te) : PO X (some e) (tPart te) := by
  intro pins s σ H Q I hw
  rw [evalPart_some]
  refine thn (h pins s σ H _ I hw) fun u s1 ⟨x, H1, I1, r1, q1⟩ => ?_
  obtain ⟨i, rfl, q⟩ := q1
  obtain ⟨t, rfl⟩ := r1
  exact ⟨some i, H1, I1, .int i t, q⟩
def SlR (X : Cx) (r : V → Option Int → Option Int → Hp → VK → Prop) : Prop :=
  ∀ (pins : List (Addr × Obj)) (s : Shared) (σ : St) (H : Hp) (x : V) (v vl vu : Value) (lo hi : Option Int) (sl : Addr) (Q : VK), Inv X pins σ H s → RelV x v → s.heap.IsSliceOf sl vl vu .none → IsPart vl lo → IsPart vu hi → r x lo hi H Q →
    ∃ T id, typeLookup (.type T) "__getitem__" = pure (some (.builtin id)) ∧ s.TypeIs v T ∧ wpAny (model X.prog X.w) X.A (getItem v (.ref sl)) (EP X pins σ Q) X.xe s
def tSl (r : V → Option Int → Option Int → Hp → VK → Prop) (te : TE) (tl th : TO) : TE := fun σ H Q => te σ H fun x H1 => tl σ H1 fun l H2 => th σ H2 fun u H3 => r x l u H3 Q
theorem pe_slice {r : V → Option Int → Option Int → Hp → VK → Prop} (hr : SlR X r) (he : PE X e te) (hl : PO X lo tl) (hu : PO X hi th) : PE X (.Subscript e (.Slice lo hi none p2) pos) (tSl r te tl th) := by
  intro pins s σ H Q I h
  refine Subscript_ (thn (he pins s σ H _ I h) fun v s1 ⟨x, H1, I1, r1, q1⟩ => ?_)
  refine wpAny_Slice (thn (hl pins s1 σ H1 _ I1 q1) fun vl s2 ⟨l, H2, I2, pl, q2⟩ => thn (hu pins s2 σ H2 _ I2 q2) fun vu s3 ⟨u, H3, I3, pu, q3⟩ => ?_)
  rw [evalPart_none]
  refine wpAny_pure ?_
  have I4 : Inv X pins σ H3 { s3 with heap := s3.heap.push { cls := .type "slice", data := .fields #[vl, vu, .none] } } := I3.kept (t' := s3.toks) fun b ob q => Heap.get?_push_of_some _ q
  obtain ⟨T, id, hT, ht, hg⟩ := hr pins { s3 with heap := s3.heap.push { cls := .type "slice", data := .fields #[vl, vu, .none] } } σ H3 x v vl vu l u s3.heap.objs.size Q I4 r1 (Heap.IsSliceOf.new ..) pl pu q3
  show wpAny (model X.prog X.w) X.A (subscriptTail e (.Slice lo hi none p2) v (.ref s3.heap.objs.size)) (EP X pins σ Q) X.xe { s3 with heap := s3.heap.push { cls := .type "slice", data := .fields #[vl, vu, .none] } }
  exact tail_any (ops := [.ref s3.heap.objs.size, v]) ht hT hg (by with_unfolding_all rfl)
def cutV (xs : List V) (lo hi : Option Int) : List V := (xs.drop (HT.sIx xs.length 0 lo)).take (HT.sIx xs.length xs.length hi - HT.sIx xs.length 0 lo)
theorem cutV_length (xs : List V) (lo hi : Option Int) : (cutV xs lo hi).length ≤ xs.length := by
  unfold cutV
  rw [List.length_take, List.length_drop]
  omega
end
end L2
namespace L2
open PySem PySem.Spec PyProof.Rows
def ixN (n : Nat) (i : Int) : Option Nat := if 0 ≤ i then (if i < n then some i.toNat else none) else if -(n : Int) ≤ i then some (i + n).toNat else none
def atI {α : Type} (xs : List α) (i : Int) : Option α := (ixN xs.length i).bind fun j => xs[j]?
theorem ixN_seq {n : Nat} {i : Int} {j : Nat} (h : ixN n i = some j) : seqIndex? i n = some j ∧ j < n ∧ -(n : Int) ≤ i ∧ i < n := by
  unfold ixN at h
  by_cases h0 : 0 ≤ i
  · rw [if_pos h0] at h
    by_cases h1 : i < n
    · rw [if_pos h1] at h
      have e : i.toNat = j := Option.some.inj h
      exact ⟨by rw [seqIndex_of h0 h1, e], by omega, by omega, h1⟩
    · rw [if_neg h1] at h; cases h
  · rw [if_neg h0] at h
    by_cases h1 : -(n : Int) ≤ i
    · rw [if_pos h1] at h
      have e : (i + n).toNat = j := Option.some.inj h
      exact ⟨by rw [seqIndex_neg (by omega) h1, e], by omega, h1, by omega⟩
    · rw [if_neg h1] at h; cases h
theorem atI_get {α : Type} {xs : List α} {i : Int} {v : α} (h : atI xs i = some v) : ∃ j, seqIndex? i xs.length = some j ∧ xs[j]? = some v ∧ j < xs.length ∧ -(xs.length : Int) ≤ i ∧ i < xs.length := by
  unfold atI at h
  cases e : ixN xs.length i with
  | none => rw [e] at h; cases h
  | some j =>
    rw [e] at h
    obtain ⟨h1, h2, h3, h4⟩ := ixN_seq e
    exact ⟨j, h1, h, h2, h3, h4⟩
theorem atI_nat {α : Type} {xs : List α} {j : Nat} {v : α} (h : xs[j]? = some v) : atI xs (j : Int) = some v := by
  have hj : j < xs.length := (List.getElem?_eq_some_iff.mp h).1
  have e : ixN xs.length (j : Int) = some j := by
    unfold ixN
    rw [if_pos (by omega), if_pos (by omega)]; simp
  unfold atI; rw [e]; exact h
theorem atI_last {α : Type} (xs : List α) (v : α) : atI (xs ++ [v]) (-1) = some v := by
  have hl : (xs ++ [v]).length = xs.length + 1 := by simp
  have e : ixN (xs ++ [v]).length (-1) = some xs.length := by
    unfold ixN
    rw [hl, if_neg (by decide), if_pos (by omega)]
    congr 1
    omega
  unfold atI
  rw [e]
  show (xs ++ [v])[xs.length]? = some v
  simp
def PlainIx (b : Expr) : Prop := ∀ o i, subscripted b false o i = operate [o, i] (getItem o i)
def IxR (X : Cx) (r : R2) : Prop :=
  ∀ (value slice : Expr) (pins : List (Addr × Obj)) (s : Shared) (σ : St) (H : Hp) (x y : V) (v u : Value) (Q : VK), Inv X pins σ H s → RelV x v → RelV y u → r x y H Q →
    subscripted slice false v u = operate [v, u] (getItem v u) → wpAny (model X.prog X.w) X.A (subscriptTail value slice v u) (EP X pins σ Q) X.xe s
def MtR (X : Cx) (id : String) (r : V → List V → Hp → VK → Prop) : Prop :=
  ∀ (pins : List (Addr × Obj)) (s : Shared) (σ : St) (H : Hp) (x : V) (xs : List V) (v : Value) (us : List Value) (Q : VK), Inv X pins σ H s → RelV x v → Vals xs us → r x xs H Q →
    wpAny (model X.prog X.w) X.A (call (.builtin id) (v :: us)) (EP X pins σ Q) X.xe s
section
variable {X : Cx} {a b : Expr} {ta tb : TE} {pos : Pos}
theorem pe_ix {r : R2} (hr : IxR X r) (ha : PE X a ta) (hb : PE X b tb) (hs : PlainIx b) : PE X (.Subscript a b pos) (tOp r ta tb) := by
  intro pins s σ H Q I h
  exact Subscript_ (binT ha hb I h fun v u s2 x y H2 I2 rx ry q => hr a b pins s2 σ H2 x y v u Q I2 rx ry q (hs _ _))
def rIxL (K : PySem.W.Frag) : R2 := fun x y H Q => ∃ p xs i v, x = .ref p ∧ y = .int i ∧ SqL K H p xs ∧ atI xs i = some v ∧ Q v H
def rIxT (K : PySem.W.Frag) : R2 := fun x y H Q => ∃ p xs i v, x = .ref p ∧ y = .int i ∧ SqT K H p xs ∧ atI xs i = some v ∧ Q v H
def rIxS : R2 := fun x y H Q => ∃ z i c, x = .str z ∧ y = .int i ∧ z.length ≤ sizeLine ∧ atI z.cps.toList i = some c ∧ Q (.str ⟨#[c]⟩) H
theorem ix_list : IxR X (rIxL X.K) := by
  intro value slice pins s σ H x y v u Q I rx ry h hs
  obtain ⟨p, xs, i, z, rfl, rfl, hq, he, q⟩ := h
  cases rx
  obtain ⟨t, rfl⟩ := ry
  obtain ⟨its, r, pl, hz⟩ := I.list hq
  obtain ⟨j, h1, h2, h3, h4, h5⟩ := atI_get he
  obtain ⟨w, ew, rw'⟩ := r.get h2
  have hl := r.length
  have hn := line63
  have fin : EP X pins σ Q w s := ⟨z, H, I, rw', q⟩
  by_cases h0 : 0 ≤ i
  · have hj : i.toNat = j := by
      rw [seqIndex_of h0 h5] at h1
      exact Option.some.inj h1
    exact item_listR pl.isList h0 (by omega) (by rw [hj]; simpa using ew) fin hs
  · have hj : (i + (its.toArray.size : Int)).toNat = j := by
      rw [seqIndex_neg (by omega) h4] at h1
      rw [List.size_toArray, ← hl]
      exact Option.some.inj h1
    exact subscriptTail_builtinR (x := w) pl.isList.typeIs slot_list_getitem.lookup
      (wpAny_getItem_list_neg (Q := fun r s' => r = w ∧ EP X pins σ Q r s') pl.isList (by omega) (by rw [List.size_toArray] <;> omega) (by omega) (by rw [hj]; simpa using ew) ⟨rfl, fin⟩) hs
theorem ix_tup : IxR X (rIxT X.K) := by
  intro value slice pins s σ H x y v u Q I rx ry h hs
  obtain ⟨p, xs, i, z, rfl, rfl, hq, he, q⟩ := h
  cases rx
  obtain ⟨t, rfl⟩ := ry
  obtain ⟨its, r, pl, hz⟩ := I.tuple hq
  obtain ⟨j, h1, h2, h3, h4, h5⟩ := atI_get he
  obtain ⟨w, ew, rw'⟩ := r.get h2
  have hl := r.length
  have hn := line63
  have fin : EP X pins σ Q w s := ⟨z, H, I, rw', q⟩
  exact subscriptTail_builtinR (x := w) pl.typeIs slot_tuple_getitem.lookup
    (getItem_tuple (j := j) (Q := fun r s' => r = w ∧ EP X pins σ Q r s') pl (by omega) (by omega) (by rw [List.size_toArray, ← hl]; exact h1) (by simpa using ew) ⟨rfl, fin⟩) hs
theorem ix_str : IxR X rIxS := by
  intro value slice pins s σ H x y v u Q I rx ry h hs
  obtain ⟨z, i, c, rfl, rfl, hz, he, q⟩ := h
  obtain ⟨t, rfl⟩ := rx
  obtain ⟨t', rfl⟩ := ry
  obtain ⟨j, h1, h2, h3, h4, h5⟩ := atI_get he
  have hl : z.cps.toList.length = z.length := by simp [Str.length]
  rw [hl] at h1 h4 h5
  have hn := line63
  exact tail_any (typeIs_str s z t) slot_str_getitem.lookup (getItem_str (c := c) (by
    have e1 : decide (i < -(2 ^ 63 : Int)) = false := decide_eq_false (by omega)
    have e2 : decide (i ≥ 2 ^ 63) = false := decide_eq_false (by omega)
    rw [e1, e2, Bool.or_false]) (by rw [h1]; simpa using h2) ⟨.str ⟨#[c]⟩, H, I.tok _, ⟨_, rfl⟩, q⟩) hs
theorem mapSeq_set (its : List Value) (n j : Nat) (u : Value) : Obj.mapSeq (·.setIfInBounds j u) { cls := .type "list", data := .seq its.toArray n } = { cls := .type "list", data := .seq (its.set j u).toArray n } := by
  simp [Obj.mapSeq]
theorem Inv.lst {pins : List (Addr × Obj)} {σ : St} {H : Hp} {s : Shared} {p : Addr} {xs : List V} (I : Inv X pins σ H s) (h : H p = some (.lst xs)) :
    ∃ (its : List Value) (n : Nat), Vals xs its ∧ s.heap.get? p = some { cls := .type "list", data := .seq its.toArray n } ∧ xs.length ≤ sizeLine := by
  obtain ⟨z, its, n, r, e⟩ := I.hok p _ h
  exact ⟨its, n, r, e, z⟩
theorem Inv.lstUpd {pins : List (Addr × Obj)} {σ : St} {H : Hp} {s : Shared} {p : Addr} {xs ys : List V} {its its' : List Value} {n n' : Nat} {f : Obj → Obj} (I : Inv X pins σ H s) (h : H p = some (.lst xs))
    (ho : s.heap.get? p = some { cls := .type "list", data := .seq its.toArray n }) (hf : f { cls := .type "list", data := .seq its.toArray n } = { cls := .type "list", data := .seq its'.toArray n' }) (r : Vals ys its') (hz : ys.length ≤ sizeLine) (t : Nat) :
    Inv X pins σ (upd H p (.lst ys)) { s with heap := s.heap.update p f, toks := t } := by
  have e : (s.heap.update p f).get? p = some { cls := .type "list", data := .seq its'.toArray n' } := by
    rw [Heap.get?_update_self f ho (by rw [hf] <;> rfl), hf]
  refine I.write (x := p) (e := p) (by rw [h]; trivial) (.inl rfl) (fun b u hb q => (Heap.get?_update_other _ _ (Ne.symm hb)).trans q) ⟨_, e⟩ ?_
  exact ⟨hz, its', n', r, e⟩
def rSetL : V → V → V → Hp → (Hp → Prop) → Prop := fun o i v H Q => ∃ p xs k j, o = .ref p ∧ i = .int k ∧ H p = some (.lst xs) ∧ ixN xs.length k = some j ∧ Q (upd H p (.lst (xs.set j v)))
theorem set_list : PSet X rSetL := by
  intro pins s σ H o i v ov iv u Q I ro ri rv h
  obtain ⟨p, xs, k, j, rfl, rfl, hp, hj, q⟩ := h
  cases ro
  obtain ⟨t, rfl⟩ := ri
  obtain ⟨its, n, r, ho, hz⟩ := I.lst hp
  obtain ⟨h1, h2, h3, h4⟩ := ixN_seq hj
  have hl := r.length
  have hn := line63
  have I' : Inv X pins σ (upd H p (.lst (xs.set j v))) { s with heap := s.heap.update p (Obj.mapSeq (·.setIfInBounds j u)) } :=
    I.lstUpd hp ho (mapSeq_set its n j u) (r.set rv j) (by rw [List.length_set]; exact hz) s.toks
  by_cases h0 : 0 ≤ k
  · have hk : k.toNat = j := by
      rw [seqIndex_of h0 h4] at h1
      exact Option.some.inj h1
    exact PySem.W.ki_setAt ho h0 (by omega) (by rw [List.size_toArray, ← hl]; exact h4) (by rw [hk]; exact ⟨_, I', q⟩)
  · have hk : (k + (its.toArray.size : Int)).toNat = j := by
      rw [seqIndex_neg (by omega) h3] at h1
      rw [List.size_toArray, ← hl]
      exact Option.some.inj h1
    exact PySem.W.ki_setBack ho (by omega) (by rw [List.size_toArray, ← hl]; exact h3) (by omega) (by rw [hk]; exact ⟨_, I', q⟩)
theorem slice_bounds (lo hi : Option Int) (n : Nat) : (sliceBounds lo hi none n).1 = ((HT.sIx n 0 lo : Nat) : Int) ∧ (sliceBounds lo hi none n).2.1 = ((HT.sIx n n hi : Nat) : Int) ∧ (sliceBounds lo hi none n).2.2 = 1 := by
  refine ⟨?_, ?_, rfl⟩
  · cases lo with
    | none => simp [sliceBounds, HT.sIx]
    | some i =>
      simp only [sliceBounds, HT.sIx, Option.getD_none, show (1 : Int) > 0 by decide, if_true]
      by_cases h : i < 0
      · simp only [h, if_true] <;> omega
      · simp only [h, if_false] <;> omega
  · cases hi with
    | none => simp [sliceBounds, HT.sIx]
    | some i =>
      simp only [sliceBounds, HT.sIx, Option.getD_none, show (1 : Int) > 0 by decide, if_true]
      by_cases h : i < 0
      · simp only [h, if_true] <;> omega
      · simp only [h, if_false] <;> omega
theorem slicePick_cut (its : List Value) (lo hi : Option Int) : slicePick its.toArray lo hi none = ((its.drop (HT.sIx its.length 0 lo)).take (HT.sIx its.length its.length hi - HT.sIx its.length 0 lo)).toArray := by
  obtain ⟨h1, h2, h3⟩ := slice_bounds lo hi its.toArray.size
  unfold slicePick
  rw [h1, h2, h3]
  simp only [sliceRange_one, pick_run, List.size_toArray] <;> rfl
def rSlL (K : PySem.W.Frag) : V → Option Int → Option Int → Hp → VK → Prop := fun x lo hi H Q => ∃ a xs, x = .ref a ∧ SqL K H a xs ∧ ∀ p, H p = none → Q (.ref p) (upd H p (.lst (cutV xs lo hi)))
theorem sl_list : SlR X (rSlL X.K) := by
  intro pins s σ H x v vl vu lo hi sl Q I rx hs pl pu h
  obtain ⟨a, xs, rfl, hx, q⟩ := h
  cases rx
  obtain ⟨its, r, ht, hz⟩ := I.list hx
  have hlen := r.length
  refine ⟨"list", _, slot_list_getitem.lookup, ht.isList.typeIs, ?_⟩
  refine wpAny_getItem_list_slice ht.isList hs pl pu .none (by simp) ?_ (by rw [List.size_toArray] <;> omega)
  rw [slicePick_cut, ← hlen]
  refine ⟨.ref s.heap.objs.size, _, I.laid (t' := s.toks) (o := .lst (cutV xs lo hi)) (fun b ob q => Heap.get?_push_of_some _ q) (Nat.le_refl _) ?_, rfl, q _ (I.hok.fresh (Nat.le_refl _))⟩
  exact ⟨Nat.le_trans (cutV_length xs lo hi) hz, _, 0, (r.drop (HT.sIx xs.length 0 lo)).take (HT.sIx xs.length xs.length hi - HT.sIx xs.length 0 lo), Heap.get?_push_size _ rfl⟩
def flatV : V → Bool
  | .non => true
  | .bl _ => true
  | .int _ => true
  | .str _ => true
  | _ => false
def eqV : V → V → Bool
  | .non, .non => true
  | .bl a, .bl b => a == b
  | .bl a, .int b => (if a then 1 else 0) == b
  | .int a, .bl b => a == (if b then 1 else 0)
  | .int a, .int b => a == b
  | .str a, .str b => a == b
  | _, _ => false
theorem eqAt_V {A : Around} {s : Shared} {y x : V} {u v : Value} (ry : RelV y u) (rx : RelV x v) (fy : flatV y = true) (fx : flatV x = true) : SeqAt.EqAt A s u v (eqV y x) := by
  cases y with
  | non =>
    cases ry
    cases x with
    | non => cases rx; exact SeqAt.EqAt.same _
    | bl b => cases rx; exact SeqAt.EqAt.none_bool b
    | int b => obtain ⟨t, rfl⟩ := rx; exact SeqAt.EqAt.none_int b t
    | str b => obtain ⟨t, rfl⟩ := rx; exact SeqAt.EqAt.none_str b t
    | _ => exact absurd (show false = true from fx) Bool.false_ne_true
  | bl a =>
    cases ry
    cases x with
    | non => cases rx; exact SeqAt.EqAt.bool_none a
    | bl b => cases rx; exact SeqAt.EqAt.bool_bool a b
    | int b => obtain ⟨t, rfl⟩ := rx; exact SeqAt.EqAt.bool_int a b t
    | str b => obtain ⟨t, rfl⟩ := rx; exact SeqAt.EqAt.bool_str a b t
    | _ => exact absurd (show false = true from fx) Bool.false_ne_true
  | int a =>
    obtain ⟨t', rfl⟩ := ry
    cases x with
    | non => cases rx; exact SeqAt.EqAt.int_none a t'
    | bl b => cases rx; exact SeqAt.EqAt.int_bool a t' b
    | int b => obtain ⟨t, rfl⟩ := rx; exact SeqAt.EqAt.int_int a t' b t
    | str b => obtain ⟨t, rfl⟩ := rx; exact SeqAt.EqAt.int_str a t' b t
    | _ => exact absurd (show false = true from fx) Bool.false_ne_true
  | str a =>
    obtain ⟨t', rfl⟩ := ry
    cases x with
    | non => cases rx; exact SeqAt.EqAt.str_none a t'
    | bl b => cases rx; exact SeqAt.EqAt.str_bool a t' b
    | int b => obtain ⟨t, rfl⟩ := rx; exact SeqAt.EqAt.str_int a t' b t
    | str b => obtain ⟨t, rfl⟩ := rx; exact SeqAt.EqAt.str_str a t' b t
    | _ => exact absurd (show false = true from fx) Bool.false_ne_true
  | _ => exact absurd (show false = true from fy) Bool.false_ne_true
def eqU (x : V) (u : Value) : Bool := match u with
  | .none => eqV .non x
  | .bool b => eqV (.bl b) x
  | .int i _ => eqV (.int i) x
  | .str z _ => eqV (.str z) x
  | _ => false
theorem eqU_of {x y : V} {u : Value} (r : RelV y u) (f : flatV y = true) : eqU x u = eqV y x := by
  cases y with
  | non => cases r; rfl
  | bl b => cases r; rfl
  | int i => obtain ⟨t, rfl⟩ := r; rfl
  | str z => obtain ⟨t, rfl⟩ := r; rfl
  | _ => exact absurd (show false = true from f) Bool.false_ne_true
theorem any_eqU {x : V} : ∀ {xs : List V} {us : List Value}, Vals xs us → xs.all flatV = true → us.any (eqU x) = xs.any fun y => eqV y x
  | _, _, .nil, _ => rfl
  | y :: xs, u :: us, .cons r t, f => by
    rw [List.all_cons, Bool.and_eq_true] at f
    rw [List.any_cons, List.any_cons, eqU_of r f.1, any_eqU t f.2]
theorem mem_eqAt {A : Around} {s : Shared} {x : V} {v : Value} (rx : RelV x v) (fx : flatV x = true) : ∀ {xs : List V} {us : List Value}, Vals xs us → xs.all flatV = true → ∀ u ∈ us, SeqAt.EqAt A s u v (eqU x u)
  | _, _, .nil, _ => fun u hu => by cases hu
  | y :: xs, u :: us, .cons r t, f => fun u' hu => by
    rw [List.all_cons, Bool.and_eq_true] at f
    rcases List.mem_cons.mp hu with rfl | hu
    · rw [eqU_of r f.1]; exact eqAt_V r rx f.1 fx
    · exact mem_eqAt rx fx t f.2 u' hu
def inV (x : V) (xs : List V) : Bool := xs.any fun y => eqV y x
def rIn (K : PySem.W.Frag) (neg : Bool) : R2 := fun x y H Q => ∃ p xs, y = .ref p ∧ (SqL K H p xs ∨ SqT K H p xs) ∧ flatV x = true ∧ xs.all flatV = true ∧ Q (.bl (if neg then !inV x xs else inV x xs)) H
theorem op_in_seq : OpR X (compareOp .In) (rIn X.K false) := by
  intro pins s σ H x y v u Q I rx ry h
  obtain ⟨p, xs, rfl, hq, fx, fs, q⟩ := h
  cases ry
  rcases hq with hq | hq
  · obtain ⟨its, r, pl, hz⟩ := I.list hq
    refine SeqAt.in_listAt (eqU x) pl.isList (fun w hw => mem_eqAt rx fx r fs w (by simpa using hw)) ⟨.bl _, H, I, rfl, ?_⟩
    rw [show its.toArray.any (eqU x) = its.any (eqU x) by simp, any_eqU r fs]
    exact q
  · obtain ⟨its, r, pl, hz⟩ := I.tuple hq
    refine SeqAt.in_tupleAt (eqU x) pl (fun w hw => mem_eqAt rx fx r fs w (by simpa using hw)) ⟨.bl _, H, I, rfl, ?_⟩
    rw [show its.toArray.any (eqU x) = its.any (eqU x) by simp, any_eqU r fs]
    exact q
theorem call_len_seq : CallR X (.builtin "len") (fun xs H Q => ∃ p ys, xs = [.ref p] ∧ (SqL X.K H p ys ∨ SqT X.K H p ys) ∧ Q (.int ys.length) H) := by
  intro pins s σ H xs us Q I r h
  obtain ⟨p, ys, rfl, hq, q⟩ := h
  obtain ⟨u, rfl, rx⟩ := vals1 r
  cases rx
  have hn := line63
  rcases hq with hq | hq
  · obtain ⟨its, r', pl, hz⟩ := I.list hq
    have hlen := r'.length
    exact Calls.call_len_list pl.isList (by simp only [List.size_toArray] <;> omega) ⟨.int ys.length, H, I.tok _, ⟨s.toks + 1, by rw [List.size_toArray, hlen]⟩, q⟩
  · obtain ⟨its, r', pl, hz⟩ := I.tuple hq
    have hlen := r'.length
    exact len_tuple pl (by simp only [List.size_toArray] <;> omega) ⟨.int ys.length, H, I.tok _, ⟨s.toks + 1, by rw [List.size_toArray, hlen]⟩, q⟩
theorem call_len_str : CallR X (.builtin "len") (fun xs H Q => ∃ z, xs = [.str z] ∧ z.length ≤ sizeLine ∧ Q (.int z.length) H) := by
  intro pins s σ H xs us Q I r h
  obtain ⟨z, rfl, hz, q⟩ := h
  obtain ⟨u, rfl, t, rfl⟩ := vals1 r
  have hn := line63
  exact len_str (by omega) ⟨.int z.length, H, I.tok _, ⟨_, rfl⟩, q⟩
theorem call_list_of : CallR X (.type "list") (fun xs H Q => ∃ p ys, xs = [.ref p] ∧ (SqL X.K H p ys ∨ SqT X.K H p ys) ∧ ∀ l, H l = none → Q (.ref l) (upd H l (.lst ys))) := by
  intro pins s σ H xs us Q I r h
  obtain ⟨p, ys, rfl, hq, q⟩ := h
  obtain ⟨u, rfl, rx⟩ := vals1 r
  cases rx
  have fin : ∀ (its : List Value), Vals ys its → ys.length ≤ sizeLine → ∀ (h' : Heap) (c' : Nat), (∀ b o', s.heap.get? b = some o' → h'.get? b = some o') →
      h'.get? s.heap.objs.size = some { cls := .type "list", dict := none, data := .seq its.toArray c', slots := #[] } → EP X pins σ Q (.ref s.heap.objs.size) { s with heap := h' } := fun its r' hz h' c' kp e =>
    ⟨.ref s.heap.objs.size, _, I.laid (t' := s.toks) kp (Nat.le_refl _) (show ObjOk X.prog X.w _ h' _ (.lst ys) from ⟨hz, its, c', r', e⟩), rfl, q _ (I.hok.fresh (Nat.le_refl _))⟩
  rcases hq with hq | hq
  · obtain ⟨its, r', pl, hz⟩ := I.list hq
    have hlen := r'.length
    obtain ⟨o, ho, hc, n, hd⟩ := pl.isList
    exact call_list_seq p (.inl rfl) ho hc hd (fun h' c' kp e => fin its r' hz h' c' kp e) (by simp only [List.size_toArray] <;> omega)
  · obtain ⟨its, r', pl, hz⟩ := I.tuple hq
    have hlen := r'.length
    obtain ⟨o, ho, hc, n, hd⟩ := pl
    exact call_list_seq p (.inr rfl) ho hc hd (fun h' c' kp e => fin its r' hz h' c' kp e) (by simp only [List.size_toArray] <;> omega)
def tyV (K : PySem.W.Frag) (T : String) (x : V) (H : Hp) : Prop := match x with
  | .str _ => T = "str"
  | .int _ => T = "int"
  | .ref p => (T = "list" ∧ ∃ xs, SqL K H p xs) ∨ (T = "tuple" ∧ ∃ o, K.lookup p = some o ∧ o.cls = .type "tuple" ∧ o.dict = none) ∨
      (T = "dict" ∧ ((∃ kvs, H p = some (.dK kvs)) ∨ ∃ kvs, H p = some (.dT kvs))) ∨ (T = "set" ∧ ∃ S n, H p = some (.set S n))
  | _ => False
theorem tyV_is {pins : List (Addr × Obj)} {σ : St} {H : Hp} {s : Shared} {T : String} {x : V} {v : Value} (I : Inv X pins σ H s) (r : RelV x v) (ty : tyV X.K T x H) :
    s.TypeIs v T ∧ ∀ a, v = .ref a → ∃ ob, s.heap.get? a = some ob ∧ ob.dict = none := by
  cases x with
  | str z =>
    obtain ⟨t, rfl⟩ := r
    cases (show T = "str" from ty)
    exact ⟨typeIs_str s z t, fun _ e => nomatch e⟩
  | int i =>
    obtain ⟨t, rfl⟩ := r
    cases (show T = "int" from ty)
    exact ⟨typeIs_int s i t, fun _ e => nomatch e⟩
  | ref p =>
    cases r
    rcases ty with ⟨rfl, xs, hq⟩ | ⟨rfl, o, hk, hc, hd⟩ | ⟨rfl, hk⟩ | ⟨rfl, S, n, hk⟩
    · obtain ⟨its, _, pl, _⟩ := I.list hq
      refine ⟨pl.isList.typeIs, fun a e => ?_⟩
      cases e
      obtain ⟨o, n, e, c, hd, _⟩ := pl
      exact ⟨o, e, hd⟩
    · refine ⟨⟨o, I.kIn p o hk, hc⟩, fun a e => ?_⟩
      cases e
      exact ⟨o, I.kIn _ o hk, hd⟩
    · have z : ∃ o, s.heap.get? p = some o ∧ o.ExactDict := by
        rcases hk with ⟨kvs, hk⟩ | ⟨kvs, hk⟩
        · obtain ⟨_, _, _, _, o, _, _, e, ex, _⟩ := I.hok p _ hk
          exact ⟨o, e, ex⟩
        · obtain ⟨_, _, _, _, o, _, _, e, ex, _⟩ := I.hok p _ hk
          exact ⟨o, e, ex⟩
      obtain ⟨o, e, ex⟩ := z
      refine ⟨⟨o, e, ex.1⟩, fun a e2 => ?_⟩
      cases e2
      exact ⟨o, e, ex.2.1⟩
    · obtain ⟨o, _, _, _, e, ex, _⟩ := I.hok p _ hk
      refine ⟨⟨o, e, ex.1⟩, fun a e2 => ?_⟩
      cases e2
      exact ⟨o, e, ex.2.1⟩
  | _ => exact False.elim ty
def tBM (K : PySem.W.Frag) (T : String) (r : V → List V → Hp → VK → Prop) (to : TE) (t : TA) : TE := fun σ H Q => to σ H fun x H1 => tyV K T x H1 ∧ t σ H1 fun xs H2 => r x xs H2 Q
variable {o e : Expr} {es : List Expr} {to : TE} {t : TA} {name : Str} {apos cpos : Pos} {T id : String} {r : V → List V → Hp → VK → Prop}
theorem pe_bm (pa : PlainAttrs T) (slot : Slot T name id) (hty : typeOf (.builtin id) = pure (.type "method_descriptor")) (hm : MtR X id r) (ho : PE X o to) (ha : PA X (e :: es) t)
    (hbase : attributeBase o name X.env (eval o X.env) = eval o X.env := by rfl)
    (hfew : ((backTo cpos (starEach (e :: es) X.env)).all (fun x => !x.1) && (backToKw cpos (keywordEach [] X.env)).all (fun x => x.1.isSome)
      && decide ((e :: es).length + ([] : List Keyword).length + (if ([] : List Keyword).isEmpty then 0 else 1) < 30)) = true := by rfl)
    (hline : (apos.endLine == cpos.line) = true := by rfl) (hs : starEach (e :: es) X.env = (false, eval e X.env) :: starEach es X.env := by rfl) (hplain : (backTo cpos (starEach es X.env)).any (·.1) = false := by rfl) :
    PE X (.Call (.Attribute o name apos) (e :: es) [] cpos) (tBM X.K T r to t) := by
  intro pins s σ H Q I h
  refine wpAny_Call_method_late hbase hfew hline rfl (thn (ho pins s σ H _ I h) fun v s1 ⟨x, H1, I1, r1, ty, q1⟩ => ?_)
  obtain ⟨h1, h2⟩ := tyV_is I1 r1 ty
  refine ⟨T, id, pa, slot, hty, h1, h2, ?_⟩
  have hA := ha cpos pins s1 σ H1 _ I1 q1
  rw [hs] at hA ⊢
  refine Calls.callWith_builtin (by show (false || (backTo cpos (starEach es X.env)).any (·.1)) = false; rw [hplain] <;> rfl) (Calls.evalArgs_plain ?_)
  exact thn hA fun us s2 ⟨vs, H2, I2, r2, q2⟩ => hm pins s2 σ H2 x vs v us Q I2 r1 r2 q2
end
end L2
namespace L2
open PySem PySem.Spec PyProof.Rows
def MtM (X : Cx) (id : String) (r : V → List V → Hp → VK → Prop) : Prop :=
  ∀ (pins : List (Addr × Obj)) (s : Shared) (σ : St) (H : Hp) (x : V) (xs : List V) (v : Value) (us : List Value) (Q : VK), Inv X pins σ H s → RelV x v → Vals xs us → r x xs H Q →
    wpAny (model X.prog X.w) X.A (call (.builtin id) (v :: us)) (EP X pins σ Q) X.xe s
theorem Vals.one : ∀ {x : V} {us : List Value}, Vals [x] us → ∃ u, us = [u] ∧ RelV x u
  | _, _, .cons r .nil => ⟨_, rfl, r⟩
theorem Vals.zero : ∀ {us : List Value}, Vals [] us → us = []
  | _, .nil => rfl
theorem Vals.eraseIdx : ∀ {xs : List V} {us : List Value} (i : Nat), Vals xs us → Vals (xs.eraseIdx i) (us.eraseIdx i)
  | _, _, _, .nil => .nil
  | _, _, 0, .cons _ t => t
  | _, _, i + 1, .cons r t => .cons r (Vals.eraseIdx i t)
theorem Vals.reverse {xs : List V} {us : List Value} (h : Vals xs us) : Vals xs.reverse us.reverse := by
  induction h with
  | nil => exact .nil
  | cons r t ih => rw [List.reverse_cons, List.reverse_cons]; exact Vals.append ih (.cons r .nil)
section
variable {X : Cx} {pins : List (Addr × Obj)} {σ : St} {H : Hp} {s : Shared} {l b : Addr} {xs ys zs : List V}
theorem Inv.lset {its its' : List Value} {n : Nat} {f : Array Value → Array Value} {t' : Nat} (I : Inv X pins σ H s) (hH : H l = some (.lst xs))
    (e : s.heap.get? l = some { cls := .type "list", data := .seq its.toArray n }) (hf : f its.toArray = its'.toArray) (hv : Vals ys its') (hz : ys.length ≤ sizeLine) :
    Inv X pins σ (upd H l (.lst ys)) { s with heap := s.heap.update l (Obj.mapSeq f), toks := t' } := by
  have q := PySem.IsL.update e f
  rw [hf] at q
  refine I.write (x := l) (e := l) (by rw [hH]; exact trivial) (.inl rfl) (fun b' u hb hu => (Heap.get?_update_other s.heap (Obj.mapSeq f) (Ne.symm hb)).trans hu) ⟨_, q⟩ ?_
  exact ⟨hz, its', _, hv, q⟩
theorem Inv.lnew {its : List Value} {t' : Nat} (I : Inv X pins σ H s) (hv : Vals ys its) (hz : ys.length ≤ sizeLine) :
    Inv X pins σ (upd H s.heap.objs.size (.lst ys)) { s with heap := s.heap.push { cls := .type "list", data := .seq its.toArray }, toks := t' } :=
  I.laid (fun _ _ q => Heap.get?_push_of_some _ q) (Nat.le_refl _) ⟨hz, its, 0, hv, Heap.get?_push_size _ rfl⟩
theorem Inv.fresh (I : Inv X pins σ H s) : H s.heap.objs.size = none := I.hok.fresh (Nat.le_refl _)
theorem Inv.lstM (I : Inv X pins σ H s) (hH : H l = some (.lst xs)) : xs.length ≤ sizeLine ∧ ∃ (its : List Value) (n : Nat), Vals xs its ∧ xs.length = its.length ∧ s.heap.get? l = some { cls := .type "list", data := .seq its.toArray n } := by
  obtain ⟨z, its, n, r, e⟩ := I.hok l _ hH
  exact ⟨z, its, n, r, r.length, e⟩
theorem notLongL {n : Nat} (h : n ≤ sizeLine) : Builtin.List.listTooLong n = false := by
  unfold Builtin.List.listTooLong
  exact decide_eq_false (by omega)
end
section
variable {X : Cx}
def rAppend : V → List V → Hp → VK → Prop := fun x vs H Q => ∃ l xs y, x = .ref l ∧ vs = [y] ∧ H l = some (.lst xs) ∧ xs.length < sizeLine ∧ Q .non (upd H l (.lst (xs ++ [y])))
theorem mt_append : MtM X "list.append" rAppend := by
  intro pins s σ H x vs v us Q I rx rv h
  obtain ⟨l, xs, y, rfl, rfl, hH, hz, q⟩ := h
  cases rx
  obtain ⟨u, rfl, ru⟩ := rv.one
  obtain ⟨z, its, n, r, hl, e⟩ := I.lstM hH
  refine call_meets F.slot_list_append ⟨_, e, rfl⟩ F.entry_list_append (F.args_list_append_2 _ _) (PySem.list_append l its.toArray n u (by rw [List.size_toArray]; omega)) ⟨e, ?_⟩
  refine ⟨.non, _, I.lset (its' := its ++ [u]) hH e (by simp) (r.append (.cons ru .nil)) ?_, rfl, q⟩
  rw [List.length_append, List.length_singleton]
  omega
def rExtend : V → List V → Hp → VK → Prop := fun x vs H Q => ∃ l b xs zs, x = .ref l ∧ vs = [.ref b] ∧ H l = some (.lst xs) ∧ H b = some (.lst zs) ∧ xs.length + zs.length ≤ sizeLine ∧ Q .non (upd H l (.lst (xs ++ zs)))
theorem mt_extend : MtM X "list.extend" rExtend := by
  intro pins s σ H x vs v us Q I rx rv h
  obtain ⟨l, b, xs, zs, rfl, rfl, hH, hB, hz, q⟩ := h
  cases rx
  obtain ⟨u, rfl, ru⟩ := rv.one
  cases ru
  obtain ⟨z, its, n, r, hl, e⟩ := I.lstM hH
  obtain ⟨z2, its2, n2, r2, hl2, e2⟩ := I.lstM hB
  have hsz : its.toArray.size + its2.toArray.size ≤ sizeLine := by rw [List.size_toArray, List.size_toArray]; omega
  have hlong : ¬ (!its.toArray.isEmpty && Builtin.List.listTooLong (its.toArray.size + its2.toArray.size)) = true := by
    rw [notLongL hsz, Bool.and_false]
    exact Bool.false_ne_true
  refine call_meets F.slot_list_extend ⟨_, e, rfl⟩ F.entry_list_extend (F.args_list_extend_2 _ _)
    (AutoSeq1.list_extend_list_list_0 l its.toArray n b its2.toArray n2 hlong (by rw [List.size_toArray]; omega) (by omega)) ⟨e, e2, ?_⟩
  refine ⟨.non, _, I.lset (its' := its ++ its2) hH e (by simp) (r.append r2) ?_, rfl, q⟩
  rw [List.length_append]
  omega
def rCat : R2 := fun x y H Q => ∃ l b xs zs, x = .ref l ∧ y = .ref b ∧ H l = some (.lst xs) ∧ H b = some (.lst zs) ∧ xs.length + zs.length ≤ sizeLine ∧ ∀ p, H p = none → Q (.ref p) (upd H p (.lst (xs ++ zs)))
theorem op_cat : OpR X (binaryOp .Add) rCat := by
  intro pins s σ H x y v u Q I rx ry h
  obtain ⟨l, b, xs, zs, rfl, rfl, hH, hB, hz, q⟩ := h
  cases rx
  cases ry
  obtain ⟨z, its, n, r, hl, e⟩ := I.lstM hH
  obtain ⟨z2, its2, n2, r2, hl2, e2⟩ := I.lstM hB
  refine PySem.P.add_list e e2 ?_ (by rw [List.size_toArray, List.size_toArray]; omega)
  have ea : its.toArray ++ its2.toArray = (its ++ its2).toArray := by simp
  rw [ea]
  exact ⟨.ref _, _, I.lnew (t' := s.toks) (r.append r2) (by rw [List.length_append]; omega), rfl, q _ I.fresh⟩
end
section
variable {prog : Program} {w : World} {A : Around} {E : Value → Shared → Prop} {s : Shared}
end
section
variable {X : Cx}
end
end L2
namespace Att
open PySem PySem.W PySem.Calls PyProof.Rows
theorem ints_of_wellAll {P : Params} {h : Heap} : ∀ (ns : List Int) (vs : List Value), WellAll P h vs (ns.map WData.int) → IntsAre vs ns := by
  intro ns
  induction ns with
  | nil =>
    intro vs w
    rw [List.map_nil] at w
    cases w
    exact .nil
  | cons n ns ih =>
    intro vs w
    rw [List.map_cons] at w
    cases w with
    | cons a b =>
      cases a
      exact .cons _ _ (ih _ b)
theorem script_of {l : OpenLaw} {n : Nat} (hn : l.most = some n) {P : Params} {h : Heap} {args : List WData} {vals : List Value}
    (hpre : l.row.toRowW.claim.pre args = true) (hwl : WellAll P h vals args) :
    ∃ a vs ns, vals = [Value.ref a] ∧ args = [WData.list (ns.map WData.int)] ∧ h.get? a = some { cls := .type "list", data := .seq vs.toArray } ∧ IntsAre vs ns ∧ ns.length ≤ n := by
  have hsh : WShape.hasAll [] args [.list .int] = true := (pre_splitW hpre).1
  have hc : l.pre.holds [] { args := args } = true := (pre_splitW hpre).2
  obtain ⟨d, r, rfl, h1, h2⟩ := hasAllW_cons hsh
  obtain rfl := hasAllW_nil h2
  obtain ⟨xs, rfl, h3⟩ := hasW_list h1
  obtain ⟨ns, rfl⟩ := items_int h3
  have hlen : ns.length ≤ n := by
    unfold OpenLaw.pre at hc
    have h4 : (WTm.not (.lt (.lit (.int (n : Int))) (.len (.arg 0)))).holds [] { args := [.list (ns.map .int)] } = true := by
      have h4 := (holds_andW hc).1
      rw [hn] at h4
      exact h4
    have h5 := condW_of h4 (w_not (w_lt w_lit (w_len_list (w_arg rfl))))
    rw [List.length_map] at h5
    refine Nat.le_of_not_lt fun q => ?_
    have q' : (n : Int) < ((ns.length : Nat) : Int) := by omega
    first
      | (rw [decide_eq_true q'] at h5; exact absurd h5 (by decide))
      | (simp at h5; omega)
  cases hwl with
  | cons w1 w2 =>
    cases w2
    cases w1 with
    | list ho hall => exact ⟨_, _, ns, rfl, rfl, ho, ints_of_wellAll ns _ hall, hlen⟩
theorem post_true (l : OpenLaw) (args : List WData) : l.row.toRowW.claim.post args (.bool true) args = true :=
  postW_of (r := l.row.toRowW) (X := (true == true))
    (show WShape.has [] (.bool true) .bool = true by first | rfl | decide | simp [WShape.has, WShape.arms, WShape.armsAll])
    (show (WTm.eq .res (.lit (.bool true))).value [] { args := args, res := some (.bool true), after := args } = some (.bool (true == true)) from w_eq_bool (w_res rfl) w_lit) rfl
theorem attach_call {l : OpenLaw} {n : Nat} {q : Program} {loose : List Str} {XP : (Str → Option Value) → Heap → Prop} {YP : World → Heap → Prop} {d : DefRec}
    (hn : l.most = some n) (hdf : d.params.defaults = [])
    (call : ∀ (w : World) (s₀ s₁ : Shared) (mg mb : Str → Option Value) (fa : Addr) (o : Obj) (pm cd doc : Value) (a : Addr) (vs : List Value) (ns : List Int),
      Ground q loose [] XP w s₀ mg mb s₁.heap → YP w s₁.heap →
      s₁.heap.get? fa = some o → o.data = .func (docDef d.name d.params d.body d.scope pm cd doc) → s₁.heap.CodeRec cd d.name → mg d.name = some (.ref fa) →
      s₁.heap.get? a = some { cls := .type "list", data := .seq vs.toArray } → IntsAre vs ns → ns.length ≤ n → s₁.gens = #[] →
      codeAny (model l.prog w) callerA (.call (.ref fa) ⟨[.ref a], []⟩) (fun r s' => r = .ok (.ret (.bool true)) ∧ OldK s₁.heap s'.heap ∧ s'.os = s₁.os ∧ AllBare s'.gens) s₁) :
    WalkO q loose XP YP l.row.toRowW d [] (fun f vs => PySem.call f vs) := by
  intro w s₀ s₁ mg mb G Y fa o pm cd doc dV kV ho hd hcd hD hmg hg args vals as hpre hlay hrd hwl hlo
  obtain rfl : dV = .none := Dflts.none hD hdf
  obtain rfl : kV = .none := Dflts.noKw hD
  obtain ⟨a, vs, ns, rfl, rfl, hobj, hints, hlen⟩ := script_of hn hpre hwl
  refine enter_call (codeAny_mono (call w s₀ s₁ mg mb fa o pm cd doc a vs ns G Y ho (fd_plain hd) hcd hmg hobj hints hlen hg) fun r s' hq => ?_)
  obtain ⟨rfl, h2, h3, h4⟩ := hq
  exact ⟨.inl ⟨.bool true, .bool true, [], rfl, fun _ => rfl, .bool true, post_true l _, fun _ => ⟨List.Pairwise.nil, fun _ hm => (nomatch hm)⟩⟩, h2, h3, h4⟩
section
variable {prog : Program} {w : World} {A : Around} {E : Value → Shared → Prop} {s : Shared} {K : Frag}
end
end Att
namespace L2
open PySem PySem.Spec PyProof.Rows
theorem vals_ints : ∀ {vs : List Value} {ns : List Int}, IntsAre vs ns → Vals (ns.map V.int) vs
  | _, _, .nil => .nil
  | _, _, .cons n t h => .cons ⟨t, rfl⟩ (vals_ints h)
def Only (H : Hp) : Prop := ∀ b, H b = none ∨ ∃ o xs, H b = some (.frz o (.lst xs))
theorem law_call {P : Program} {w : World} {K : PySem.W.Frag} {mg mb : Str → Option Value} {CX : CXT} {k : Nat} {fa a : Addr} {fd : FuncData} {x : Str} {sp : Sp} {s₁ : Shared} {vs : List Value} {ns : List Int}
    (KX : K.In s₁.heap) (hns : s₁.heap.Ns mainGlobals mg) (hb : s₁.heap.Ns builtinsNs mb) (hbb : ∀ x : Str, x ≠ "__name__" → mb x = bootBuiltins x) (hlim : s₁.heap.NoLimit) (hg : s₁.gens = #[])
    (ha : s₁.heap.get? a = some { cls := .type "list", data := .seq vs.toArray }) (hi : IntsAre vs ns) (hl : ns.length ≤ sizeLine) (hr : Room k callerA)
    (F : ∀ base : Heap, K.In base → base.Ns mainGlobals mg → FnOk P w K mg base CX k fa fd [x] sp) (hbind : ∀ (s : Shared) (u : Value), BindsTo s fd ⟨[u], []⟩ [(x, u)])
    (hsp : ∀ H : Hp, Only H → SqL K H a (ns.map V.int) → sp [.ref a] H (fun v _ => v = .bl true) fun _ _ _ => False)
    (hCX : ∀ H e s', CX [] H s₁ (fun _ _ _ => False) e s' → False) :
    codeAny (model P w) callerA (.call (.ref fa) ⟨[.ref a], []⟩) (fun r s' => r = .ok (.ret (.bool true)) ∧ OldK s₁.heap s'.heap ∧ s'.os = s₁.os ∧ AllBare s'.gens) s₁ := by
  have rv := vals_ints hi
  have lenV := hi.length
  have core : ∀ H : Hp, Only H → SqL K H a (ns.map V.int) → HOk P w H s₁.heap → (∀ b, H b ≠ none → b = a) → (H a ≠ none → K.lookup a = none) →
      codeAny (model P w) callerA (.call (.ref fa) ⟨[.ref a], []⟩) (fun r s' => r = .ok (.ret (.bool true)) ∧ OldK s₁.heap s'.heap ∧ s'.os = s₁.os ∧ AllBare s'.gens) s₁ := by
    intro H hO hS hok hA hK
    have base_of : ∀ {b : Addr} {o : Obj}, s₁.heap.get? b = some o → H b = none → (hidT s₁.heap H).get? b = some o := fun e n => hidT_get e n
    have noA : ∀ {b : Addr} {o : Obj} {es : Array DictEntry} {ep : Nat}, s₁.heap.get? b = some o → o.data = .dict es ep → H b = none := fun {b o es ep} e d => by
      cases q : H b with
      | none => rfl
      | some u =>
        have e' : b = a := hA b (by rw [q]; simp)
        subst e'
        rw [ha] at e; cases e
        have d' : Data.seq vs.toArray _ = Data.dict es ep := d
        cases d'
    have nsK : ∀ {b : Addr} {m : Str → Option Value}, s₁.heap.Ns b m → (hidT s₁.heap H).Ns b m := fun {b m} ⟨o, es, ep, e, d, r⟩ => ⟨o, es, ep, base_of e (noA e d), d, r⟩
    have hKb : K.In (hidT s₁.heap H) := fun b o e => base_of (KX b o e) (by
      cases q : H b with
      | none => rfl
      | some u =>
        have e' : b = a := hA b (by rw [q]; simp)
        subst e'
        rw [hK (by rw [q]; simp)] at e; cases e)
    have hM : Mod K mg (hidT s₁.heap H) := ⟨hKb, nsK hns, ⟨mb, nsK hb, hbb⟩, let ⟨mc, h1, h2⟩ := hlim; ⟨mc, nsK h1, h2⟩⟩
    have e0 : Env0 P w K mg (hidT s₁.heap H) callerA [] s₁ H := ⟨rfl, hM, fun b o e => of_hidT e, Nat.le_of_eq (hidT_size _ _), trivial, fun b hb => absurd (show b ∈ ([] : List Addr) from hb) (by simp), hok, .of_eq hg⟩
    refine codeAny_mono ((F _ hKb (nsK hns)).run callerA [] s₁ H ⟨[.ref a], []⟩ [.ref a] [.ref a] _ _ hr e0 (hbind s₁ (.ref a)) (.cons rfl .nil) (hsp H hO hS)) fun r s' h => ?_
    cases r with
    | error e => exact (hCX H e s' h).elim
    | ok fl =>
      cases fl with
      | next => exact False.elim h
      | brk => exact False.elim h
      | cont => exact False.elim h
      | ret u =>
        obtain ⟨v, H', os, bare, un, hok', r', q⟩ := h
        have q' : v = .bl true := q
        subst q'
        obtain rfl : u = Value.bool true := r'
        refine ⟨rfl, OldK.of_keep fun b o e => ?_, os, bare⟩
        cases q : H b with
        | none => exact un.keep b o e q (by intro z; exact absurd (show b ∈ ([] : List Addr) from z) (by simp)) (by simp)
        | some u =>
          rcases hO b with z | ⟨ob, xs, z⟩
          · rw [q] at z; cases z
          · have z2 := un.frzs b ob _ z
            obtain ⟨e1, _⟩ := hok b _ z
            obtain ⟨e2, _⟩ := hok' b _ z2
            rw [e] at e1; cases e1
            exact e2
  cases hk : K.lookup a with
  | some o =>
    have e := KX a o hk
    rw [ha] at e
    cases e
    refine core (fun _ => none) (fun _ => .inl rfl) (.inr ⟨_, vs.toArray, _, hk, rfl, rfl, rfl, by rw [List.size_toArray, lenV]; exact hl, by simpa using rv⟩) (fun b u z => by have z' : (none : Option HO) = some u := z; cases z') (fun b z => absurd rfl z) fun z => absurd rfl z
  | none =>
    refine core (fun b => if b = a then some (.frz { cls := .type "list", data := .seq vs.toArray } (.lst (ns.map V.int))) else none) (fun b => ?_) (.inl (.inr ⟨{ cls := .type "list", data := .seq vs.toArray }, if_pos rfl⟩)) (fun b u z => ?_) (fun b z => ?_) fun _ => hk
    · by_cases hb : b = a
      · exact .inr ⟨_, _, if_pos hb⟩
      · exact .inl (if_neg hb)
    · by_cases hb : b = a
      · have z' := (if_pos hb).symm.trans z
        cases z'
        subst hb
        exact ⟨ha, by rw [List.length_map]; exact hl, vs, _, rv, ha⟩
      · have z' := (if_neg hb).symm.trans z
        cases z'
    · by_cases hb : b = a
      · exact hb
      · exact absurd (if_neg hb) z
end L2
namespace L2
open PySem PySem.Spec PyProof.Rows
theorem walk_of {l : PySem.W.OpenLaw} {n k : Nat} {q : Program} {loose : List Str} {XP : (Str → Option Value) → Heap → Prop} {YP : World → Heap → Prop} {d : DefRec} {K : Params → PySem.W.Frag} {CX : World → CXT} {sp : World → Sp} {x : Str}
    (hn : l.most = some n) (hn2 : n ≤ sizeLine) (hdf : d.params.defaults = []) (hr : Room k callerA)
    (hY : ∀ (w : World) (h : Heap), YP w h → (K w.params).In h)
    (F : ∀ (w : World) (mg : Str → Option Value) (fa : Addr) (h : Heap), (K w.params).In h → h.Ns mainGlobals mg → mg d.name = some (.ref fa) →
      ∃ fd : FuncData, (∀ (s : Shared) (u : Value), BindsTo s fd ⟨[u], []⟩ [(x, u)]) ∧
        ∀ base : Heap, (K w.params).In base → base.Ns mainGlobals mg → FnOk l.prog w (K w.params) mg base (CX w) k fa fd [x] (sp w))
    (hsp : ∀ (w : World) (H : Hp) (a : Addr) (ns : List Int), ns.length ≤ n → Only H → SqL (K w.params) H a (ns.map V.int) → sp w [.ref a] H (fun v _ => v = .bl true) fun _ _ _ => False)
    (hCX : ∀ (w : World) (H : Hp) (s : Shared) (e : Value) (s' : Shared), CX w [] H s (fun _ _ _ => False) e s' → False) :
    PySem.W.WalkO q loose XP YP l.row.toRowW d [] (fun f vs => PySem.call f vs) := by
  refine Att.attach_call hn hdf fun w s₀ s₁ mg mb fa o pm cd doc a vs ns G Y ho hd hcd hmg hobj hints hlen hg => ?_
  have KX := hY w _ Y
  obtain ⟨fd, hb, hF⟩ := F w mg fa _ KX G.T.g hmg
  exact law_call KX G.T.g G.T.b G.T.builtins G.T.nolimit hg hobj hints (Nat.le_trans hlen hn2) hr hF hb (fun H hO hS => hsp w H a ns hlen hO hS) fun H e s' => hCX w H s₁ e s'
end L2
namespace L2
open PySem PySem.Spec PyProof.Rows
def defArgs (s : Stmt) : Arguments := match s with
  | .FunctionDef _ a _ _ _ _ _ _ _ _ => a
  | _ => { posonlyargs := [], args := [], vararg := none, kwonlyargs := [], kw_defaults := [], kwarg := none, defaults := [] }
def defBody (s : Stmt) : List Stmt := match s with
  | .FunctionDef _ _ b _ _ _ _ _ _ _ => b
  | _ => []
def defScope (s : Stmt) : Scope := match s with
  | .FunctionDef _ _ _ _ _ _ sc _ _ _ => sc
  | _ => { kind := .function, names := [], isGenerator := false, isCoroutine := false }
abbrev CX0 : CXT := fun _ _ _ _ _ _ => False
abbrev E0 : XK := fun _ _ _ => False
theorem pass0 {X : Cx} : Passes CX0 X E0 := fun _ _ _ _ _ _ _ h => h.elim
structure Fun (K : PySem.W.Frag) (x qual : Str) (st : Stmt) (f : Addr) (fd : FuncData) : Prop where
  ex : ∃ (oc : Value) (od : Option Addr) (kV doc pm : Value) (an : Option Addr) (cdv ct : Value) (osl : Array (Option Value)),
    fd = PySem.W.fnOf x qual (defArgs st) (defBody st) (defScope st) .none kV doc pm an cdv ct ∧ K.lookup f = some ⟨oc, od, .func fd, osl⟩ ∧ PySem.W.codeIn K cdv qual = true
  kp : PySem.W.keepIn K (.ref f) = true
section
variable {P : Program} {w : World} {K : PySem.W.Frag} {mg : Str → Option Value} {base : Heap}
theorem Fun.ok {x qual : Str} {st : Stmt} {f : Addr} {fd : FuncData} {N ps : List Str} {k : Nat} {sp : Sp} (F : Fun K x qual st f fd) (S : FnScope N ps (defScope st)) (len : ∀ vs H Q E, sp vs H Q E → vs.length = ps.length)
    (hbody : ∀ (cdv : Value) (A : Around) (outer : List Env) (s : Shared) (H : Hp) (vs : List V) (Q : VK) (E : XK), Room k (A.deeper (envOfC qual (defScope st) s.heap.objs.size f cdv)) → sp vs H Q E →
      ∃ t, PSs (cxOf CX0 P w K mg base N qual (defScope st) f cdv A outer s H E).nox (defBody st) t ∧ t { nx := fun _ H' => Q .non H', rt := Q } (start N vs) H) : FnOk P w K mg base CX0 (k + 1) f fd ps sp := by
  obtain ⟨oc, od, kV, doc, pm, an, cdv, ct, osl, rfl, lk, hcd⟩ := F.ex
  refine fn_of lk hcd S len fun A outer s H vs Q E hr hsp => ?_
  obtain ⟨t, h, q⟩ := hbody cdv A outer s H vs Q E hr hsp
  exact ⟨t, h.nox, q⟩
theorem Fun.binds {x qual : Str} {st : Stmt} {f : Addr} {fd : FuncData} {ps : List Str} (F : Fun K x qual st f fd)
    (h : ∀ (kV doc pm : Value) (an : Option Addr) (cdv ct : Value) (us : List Value), us.length = ps.length → bindArgs (PySem.W.fnOf x qual (defArgs st) (defBody st) (defScope st) .none kV doc pm an cdv ct) ⟨us, []⟩ = pure (ps.zip us)) : Binds K fd ps [] := by
  obtain ⟨oc, od, kV, doc, pm, an, cdv, ct, osl, rfl, lk, hcd⟩ := F.ex
  exact .all (h kV doc pm an cdv ct)
theorem fun_mk {x qual : Str} {st : Stmt} {f : Addr} {oc : Value} {od an : Option Addr} {osl : Array (Option Value)} {kV doc pm cdv ct : Value} (l : K.lookup f = some ⟨oc, od, .func (PySem.W.fnOf x qual (defArgs st) (defBody st) (defScope st) .none kV doc pm an cdv ct), osl⟩)
    (c : PySem.W.codeIn K cdv qual = true) (k : PySem.W.keepIn K (.ref f) = true) : Fun K x qual st f (PySem.W.fnOf x qual (defArgs st) (defBody st) (defScope st) .none kV doc pm an cdv ct) := ⟨⟨oc, od, kV, doc, pm, an, cdv, ct, osl, rfl, l, c⟩, k⟩
end
theorem hu_of {A : Around} {k : Nat} (hr : Room k A) : A.units + 1 < cLine := Nat.lt_of_le_of_lt (Nat.add_le_add_left (by decide : 1 ≤ 64) _) hr.units
theorem small1000 {n : Nat} (h : n ≤ 1000) : n < sizeLine := Nat.lt_of_le_of_lt h (by decide)
section
variable {X : Cx}
theorem pv (i : Nat) {x : Str} {pos : Pos} (hN : X.N[i]? = some x := by rfl) (hv : Vis X.env.scope x := by first | exact Or.inl rfl | exact Or.inr (Or.inl rfl) | exact Or.inr (Or.inr rfl)) (hd : (x == ("__debug__" : Str)) = false := by decide)
    (hcd : (x == ("__classdict__" : Str)) = false := by decide) : PE X (.Name x pos) (tVar i) := pe_var hN hv hd hcd
end
theorem iteF {A B : Prop} (h : B) : if false = true then A else B := by
  rw [if_neg Bool.false_ne_true]
  exact h
theorem iteT {A B : Prop} (h : A) : if true = true then A else B := by
  rw [if_pos rfl]
  exact h
theorem ite2 {c A B : Prop} [Decidable c] (h1 : c → A) (h2 : ¬ c → B) : if c then A else B := by
  by_cases h : c
  · rw [if_pos h]
    exact h1 h
  · rw [if_neg h]
    exact h2 h
def Same (H H' : Hp) : Prop := ∀ b o, H b = some o → H' b = some o
theorem Same.refl (H : Hp) : Same H H := fun _ _ h => h
theorem Same.trans {H H1 H2 : Hp} (a : Same H H1) (b : Same H1 H2) : Same H H2 := fun c o h => b c o (a c o h)
theorem Same.free {H H' : Hp} (e : Same H H') {l : Addr} (h : H' l = Option.none) : H l = Option.none := by
  cases q : H l with
  | none => rfl
  | some o =>
    rw [e l o q] at h
    cases h
theorem Same.seq {K : PySem.W.Frag} {H H' : Hp} {a : Addr} {xs : List V} (e : Same H H') (h : SqL K H a xs) : SqL K H' a xs := by
  rcases h with (h | ⟨o, h⟩) | h
  · exact .inl (.inl (e _ _ h))
  · exact .inl (.inr ⟨o, e _ _ h⟩)
  · exact .inr h
end L2
set_option Elab.async false
set_option linter.all false
set_option maxRecDepth 100000
namespace L2
open PySem PySem.Spec PyProof.Rows
section
variable {κ : Type} [DecidableEq κ]
def valV (kvs : List (κ × V)) (k : κ) : Option V := (kvs.find? fun kv => decide (kv.1 = k)).map (·.2)
def putK (kvs : List (κ × V)) (k : κ) (v : V) : List (κ × V) :=
  if (kvs.any fun kv => decide (kv.1 = k)) = true then kvs.map (fun kv => if kv.1 = k then (kv.1, v) else kv) else kvs ++ [(k, v)]
def dropK (kvs : List (κ × V)) (k : κ) : List (κ × V) := kvs.filter fun kv => decide (kv.1 ≠ k)
theorem valV_pos {p : κ × V} {r : List (κ × V)} {k : κ} (e : p.1 = k) : valV (p :: r) k = some p.2 := by simp [valV, List.find?_cons, e]
theorem valV_neg {p : κ × V} {r : List (κ × V)} {k : κ} (e : ¬ p.1 = k) : valV (p :: r) k = valV r k := by simp [valV, List.find?_cons, e]
theorem valV_any (k : κ) : ∀ kvs : List (κ × V), (kvs.any fun kv => decide (kv.1 = k)) = (valV kvs k).isSome
  | [] => rfl
  | p :: r => by
    rw [List.any_cons]
    by_cases e : p.1 = k
    · simp only [valV_pos e, decide_eq_true e, Bool.true_or, Option.isSome_some]
    · rw [valV_neg e, decide_eq_false e, Bool.false_or]; exact valV_any k r
theorem valV_map (k j : κ) (y : V) : ∀ kvs : List (κ × V), valV (kvs.map fun kv => if kv.1 = k then (kv.1, y) else kv) j = (valV kvs j).map fun x => if j = k then y else x
  | [] => rfl
  | p :: r => by
    have ih := valV_map k j y r
    rw [List.map_cons]
    by_cases h : p.1 = k
    · rw [if_pos h]
      by_cases e : p.1 = j
      · rw [valV_pos (p := (p.1, y)) e, valV_pos e, Option.map_some, if_pos (e.symm.trans h)]
      · rw [valV_neg (p := (p.1, y)) e, valV_neg e, ih]
    · rw [if_neg h]
      by_cases e : p.1 = j
      · rw [valV_pos (p := p) e, valV_pos e, Option.map_some, if_neg (fun z => h (e.trans z))]
      · rw [valV_neg (p := p) e, valV_neg e, ih]
theorem valV_snoc (k j : κ) (y : V) : ∀ kvs : List (κ × V), valV kvs k = none → valV (kvs ++ [(k, y)]) j = if j = k then some y else valV kvs j
  | [], _ => by
    by_cases e : k = j
    · rw [if_pos e.symm]; exact valV_pos (p := (k, y)) e
    · rw [if_neg (fun z => e z.symm)]; exact valV_neg (p := (k, y)) e
  | p :: r, hn => by
    rw [List.cons_append]
    have hk : ¬ p.1 = k := fun z => by rw [valV_pos z] at hn; cases hn
    rw [valV_neg hk] at hn
    have ih := valV_snoc k j y r hn
    by_cases e : p.1 = j
    · rw [valV_pos e, valV_pos e, if_neg (fun z => hk (e.trans z))]
    · rw [valV_neg e, valV_neg e, ih]
theorem valV_put (kvs : List (κ × V)) (k j : κ) (y : V) : valV (putK kvs k y) j = if j = k then some y else valV kvs j := by
  unfold putK
  by_cases a : (kvs.any fun kv => decide (kv.1 = k)) = true
  · rw [if_pos a, valV_map]
    rw [valV_any] at a
    by_cases e : j = k
    · obtain ⟨x, hx⟩ := Option.isSome_iff_exists.mp a
      rw [if_pos e, e, hx, Option.map_some, if_pos rfl]
    · rw [if_neg e]
      cases valV kvs j with
      | none => rfl
      | some x => rw [Option.map_some, if_neg e]
  · rw [if_neg a]
    refine valV_snoc k j y kvs ?_
    rw [valV_any] at a
    cases q : valV kvs k with
    | none => rfl
    | some x => rw [q] at a; exact (a rfl).elim
theorem length_putK (kvs : List (κ × V)) (k : κ) (v : V) : (putK kvs k v).length ≤ kvs.length + 1 := by
  unfold putK
  split
  · rw [List.length_map]; omega
  · rw [List.length_append, List.length_cons, List.length_nil]; omega
theorem putK_new {kvs : List (κ × V)} {k : κ} (v : V) (h : valV kvs k = none) : putK kvs k v = kvs ++ [(k, v)] := by
  unfold putK
  rw [valV_any, h]
  exact if_neg (by decide)
theorem RelO.isSome_eq {o : Option V} {u : Option Value} (r : RelO o u) : o.isSome = u.isSome := by
  cases o with
  | none => cases u with
    | none => rfl
    | some _ => exact (show False from r).elim
  | some _ => cases u with
    | none => exact (show False from r).elim
    | some _ => rfl
theorem RelO.getD {o : Option V} {u : Option Value} {d : V} {d' : Value} (r : RelO o u) (rd : RelV d d') : RelV (o.getD d) (u.getD d') := by
  cases o with
  | none => cases u with
    | none => exact rd
    | some _ => exact (show False from r).elim
  | some _ => cases u with
    | none => exact (show False from r).elim
    | some _ => exact r
theorem KV.val {kvs : List (κ × V)} {vs : List (κ × Value)} (r : KV kvs vs) (k : κ) : RelO (valV kvs k) (valueAt vs k) := by
  unfold KV at r
  induction r with
  | nil => exact True.intro
  | @cons p q ps qs h t ih =>
    obtain ⟨h1, h2⟩ := h
    by_cases e : p.1 = k
    · have e' : q.1 = k := h1.symm.trans e
      have b : valueAt (q :: qs) k = some q.2 := by simp [valueAt, List.find?_cons, e']
      rw [valV_pos e, b]; exact h2
    · have e' : ¬ q.1 = k := fun z => e (h1.trans z)
      have b : valueAt (q :: qs) k = valueAt qs k := by simp [valueAt, List.find?_cons, e']
      rw [valV_neg e, b]; exact ih
theorem KV.any {kvs : List (κ × V)} {vs : List (κ × Value)} (r : KV kvs vs) (k : κ) : (kvs.any fun kv => decide (kv.1 = k)) = vs.any fun kv => decide (kv.1 = k) := by
  unfold KV at r
  induction r with
  | nil => rfl
  | cons h t ih => rw [List.any_cons, List.any_cons, ih, h.1]
theorem KV.repl {kvs : List (κ × V)} {vs : List (κ × Value)} (r : KV kvs vs) (k : κ) {y : V} {u : Value} (ry : RelV y u) :
    KV (kvs.map fun kv => if kv.1 = k then (kv.1, y) else kv) (vs.map fun kv => if kv.1 = k then (kv.1, u) else kv) := by
  unfold KV at r ⊢
  induction r with
  | nil => exact .nil
  | @cons p q ps qs h t ih =>
    rw [List.map_cons, List.map_cons]
    refine .cons ?_ ih
    obtain ⟨h1, h2⟩ := h
    by_cases e : p.1 = k
    · rw [if_pos e, if_pos (h1.symm.trans e)]; exact ⟨h1, ry⟩
    · rw [if_neg e, if_neg (fun z => e (h1.trans z))]; exact ⟨h1, h2⟩
theorem KV.put {kvs : List (κ × V)} {vs : List (κ × Value)} (r : KV kvs vs) (k : κ) {y : V} {u : Value} (ry : RelV y u) : KV (putK kvs k y) (stored vs k u) := by
  unfold putK stored
  rw [r.any k]
  by_cases e : (vs.any fun kv => decide (kv.1 = k)) = true
  · rw [if_pos e, if_pos e]; exact r.repl k ry
  · rw [if_neg e, if_neg e]; exact Paired.snoc r ⟨rfl, ry⟩
theorem KV.drop {kvs : List (κ × V)} {vs : List (κ × Value)} (r : KV kvs vs) (k : κ) : KV (dropK kvs k) (without vs k) := by
  unfold KV at r ⊢
  unfold dropK without
  induction r with
  | nil => exact .nil
  | @cons p q ps qs h t ih =>
    obtain ⟨h1, h2⟩ := h
    rw [List.filter_cons, List.filter_cons]
    by_cases e : p.1 = k
    · have a : ¬ decide (p.1 ≠ k) = true := by simp [e]
      have b : ¬ decide (q.1 ≠ k) = true := by simp [h1.symm.trans e]
      rw [if_neg a, if_neg b]; exact ih
    · have e' : ¬ q.1 = k := fun z => e (h1.trans z)
      have a : decide (p.1 ≠ k) = true := by simp [e]
      have b : decide (q.1 ≠ k) = true := by simp [e']
      rw [if_pos a, if_pos b]; exact .cons ⟨h1, h2⟩ ih
theorem KV.keys {kvs : List (κ × V)} {vs : List (κ × Value)} (r : KV kvs vs) : kvs.map (·.1) = vs.map (·.1) := by
  unfold KV at r
  induction r with
  | nil => rfl
  | cons h t ih => rw [List.map_cons, List.map_cons, ih, h.1]
theorem KV.length {kvs : List (κ × V)} {vs : List (κ × Value)} (r : KV kvs vs) : kvs.length = vs.length := Paired.length r
end
theorem kV_is {P : Program} {w : World} {k : Key} {u : Value} (r : RelV (kV k) u) : (mixKind P w).is k u = true := by
  cases k with
  | inl i => obtain ⟨t, e⟩ := (show ∃ t, u = Value.int i t from r); subst e; exact mixKind_int P w i t
  | inr x => obtain ⟨t, e⟩ := (show ∃ t, u = Value.str x t from r); subst e; exact mixKind_str P w x t
theorem items_are {P : Program} {w : World} : ∀ {ks : List Key} {us : List Value}, Vals (ks.map kV) us → ItemsAre (mixKind P w) ks us
  | [], _, r => by rw [List.map_nil] at r; cases r; exact .nil
  | k :: ks, _, r => by
    rw [List.map_cons] at r
    cases r with
    | cons h t => exact .cons (kV_is h) (items_are t)
abbrev KT (H : Hp) : List (List Key × V) → List (List Key × Addr × Value) → Prop := Paired fun p q => p.1 = q.1 ∧ H q.2.1 = some (.tup (p.1.map kV)) ∧ RelV p.2 q.2.2
theorem KT.val {H : Hp} {kvs : List (List Key × V)} {xs : List (List Key × Addr × Value)} (r : KT H kvs xs) (k : List Key) : RelO (valV kvs k) ((atKey xs k).map (·.2)) := by
  induction r with
  | nil => exact True.intro
  | @cons p q ps qs h t ih =>
    obtain ⟨h1, _, h2⟩ := h
    by_cases e : p.1 = k
    · have e' : q.1 = k := h1.symm.trans e
      have b : atKey (q :: qs) k = some q.2 := by simp [atKey, List.find?_cons, e']
      rw [valV_pos e, b]; exact h2
    · have e' : ¬ q.1 = k := fun z => e (h1.trans z)
      have b : atKey (q :: qs) k = atKey qs k := by simp [atKey, List.find?_cons, e']
      rw [valV_neg e, b]; exact ih
theorem KT.repl {H : Hp} {kvs : List (List Key × V)} {xs : List (List Key × Addr × Value)} (r : KT H kvs xs) (k : List Key) {y : V} {u : Value} (ry : RelV y u) :
    KT H (kvs.map fun kv => if kv.1 = k then (kv.1, y) else kv) (xs.map (putAt k u)) := by
  induction r with
  | nil => exact .nil
  | @cons p q ps qs h t ih =>
    rw [List.map_cons, List.map_cons]
    refine .cons ?_ ih
    obtain ⟨h1, h2, h3⟩ := h
    unfold putAt
    by_cases e : p.1 = k
    · rw [if_pos e, if_pos (h1.symm.trans e)]; exact ⟨h1, h2, ry⟩
    · rw [if_neg e, if_neg (fun z => e (h1.trans z))]; exact ⟨h1, h2, h3⟩
theorem KT.put {H : Hp} {kvs : List (List Key × V)} {xs : List (List Key × Addr × Value)} (r : KT H kvs xs) (k : List Key) {b : Addr} {y : V} {u : Value} (hb : H b = some (.tup (k.map kV))) (ry : RelV y u) :
    KT H (putK kvs k y) (storedH xs k b u) := by
  have e : (kvs.any fun kv => decide (kv.1 = k)) = (atKey xs k).isSome := by
    rw [valV_any, (r.val k).isSome_eq, Option.isSome_map]
  unfold putK storedH
  rw [e]
  by_cases q : (atKey xs k).isSome = true
  · rw [if_pos q, if_pos q]; exact r.repl k ry
  · rw [if_neg q, if_neg q]; exact Paired.snoc r ⟨rfl, hb, ry⟩
theorem KT.keeps {H H' : Hp} {kvs : List (List Key × V)} {xs : List (List Key × Addr × Value)} (r : KT H kvs xs) (ht : ∀ b ys, H b = some (.tup ys) → H' b = some (.tup ys)) : KT H' kvs xs :=
  Paired.mapP r fun _ _ z => ⟨z.1, ht _ _ z.2.1, z.2.2⟩
section
variable {P : Program} {w : World} {H : Hp} {h : Heap} {a : Addr}
theorem rd_of {u : HO} (ok : HOk P w H h) (e : Rd H a u) : ObjOk P w H h a u := e.ok ok
theorem dk_rd {kvs : List (Key × V)} (ok : HOk P w H h) (e : Rd H a (.dK kvs)) : kvs.length ≤ sizeLine ∧ (a == sysModules) = false ∧ ∃ vs, KV kvs vs ∧ h.DictOf (mixKind P w) a vs :=
  show ObjOk P w H h a (.dK kvs) from rd_of ok e
theorem dk_of {kvs : List (Key × V)} (ok : HOk P w H h) (e : H a = some (.dK kvs)) : kvs.length ≤ sizeLine ∧ (a == sysModules) = false ∧ ∃ vs, KV kvs vs ∧ h.DictOf (mixKind P w) a vs := dk_rd ok (.inl e)
theorem key_of {ks : List Key} (ok : HOk P w H h) (e : H a = some (.tup (ks.map kV))) : (tupleKind (mixKind P w)).is h ks a := by
  obtain ⟨_, its, r, o, h1, h2, n, h3⟩ := (show ObjOk P w H h a (.tup (ks.map kV)) from ok a _ e)
  exact ⟨o, its.toArray, n, h1, h2, h3, by simpa using items_are r⟩
theorem dt_rd {kvs : List (List Key × V)} (ok : HOk P w H h) (e : Rd H a (.dT kvs)) : kvs.length ≤ sizeLine ∧ (a == sysModules) = false ∧
    ∃ xs, KT H kvs xs ∧ h.DictOfH (tupleKind (mixKind P w)) a xs := by
  obtain ⟨z, y, xs, r, o, es, ep, h1, h2, h3, h4, h5⟩ := (show ObjOk P w H h a (.dT kvs) from rd_of ok e)
  refine ⟨z, y, xs, r, o, es, ep, h1, h2, h3, h4, fun x hx => ?_, h5⟩
  have all : ∀ {l : List (List Key × V)} {m : List (List Key × Addr × Value)}, KT H l m → ∀ x ∈ m, (tupleKind (mixKind P w)).is h x.1 x.2.1 := by
    intro l m q
    induction q with
    | nil => intro x hx; exact nomatch hx
    | @cons p q ps qs hq t ih =>
      intro x hx
      rcases List.mem_cons.mp hx with e | hx
      · subst e
        exact key_of ok (by rw [← hq.1]; exact hq.2.1)
      · exact ih x hx
  exact all r x hx
end
def DGet (H : Hp) (a : Addr) (y : V) (r : Option V) : Prop :=
  (∃ kvs k, Rd H a (.dK kvs) ∧ y = kV k ∧ r = valV kvs k) ∨ ∃ kvs k b, Rd H a (.dT kvs) ∧ y = .ref b ∧ H b = some (.tup (k.map kV)) ∧ r = valV kvs k
def DPut (H : Hp) (a : Addr) (y v : V) (H' : Hp) : Prop :=
  (∃ kvs k, H a = some (.dK kvs) ∧ y = kV k ∧ kvs.length < sizeLine ∧ H' = upd H a (.dK (putK kvs k v))) ∨
  ∃ kvs k b, H a = some (.dT kvs) ∧ y = .ref b ∧ H b = some (.tup (k.map kV)) ∧ kvs.length < sizeLine ∧ H' = upd H a (.dT (putK kvs k v))
theorem DGet.k {H : Hp} {a : Addr} {kvs : List (Key × V)} {k : Key} (e : H a = some (.dK kvs)) : DGet H a (kV k) (valV kvs k) := .inl ⟨kvs, k, .inl e, rfl, rfl⟩
theorem DGet.t {H : Hp} {a b : Addr} {kvs : List (List Key × V)} {k : List Key} (e : H a = some (.dT kvs)) (eb : H b = some (.tup (k.map kV))) : DGet H a (.ref b) (valV kvs k) := .inr ⟨kvs, k, b, .inl e, rfl, eb, rfl⟩
theorem DPut.k {H : Hp} {a : Addr} {kvs : List (Key × V)} {k : Key} {v : V} (e : H a = some (.dK kvs)) (hl : kvs.length < sizeLine) : DPut H a (kV k) v (upd H a (.dK (putK kvs k v))) := .inl ⟨kvs, k, e, rfl, hl, rfl⟩
theorem DPut.t {H : Hp} {a b : Addr} {kvs : List (List Key × V)} {k : List Key} {v : V} (e : H a = some (.dT kvs)) (eb : H b = some (.tup (k.map kV))) (hl : kvs.length < sizeLine) :
    DPut H a (.ref b) v (upd H a (.dT (putK kvs k v))) := .inr ⟨kvs, k, b, e, rfl, eb, hl, rfl⟩
section
variable {X : Cx} {pins : List (Addr × Obj)} {σ : St} {H : Hp} {s : Shared} {a : Addr} {y v : V} {u r : Value} {o : Option V} {A : Around} {E : Value → Shared → Prop}
theorem Inv.big (I : Inv X pins σ H s) : sysModules < s.heap.objs.size := by
  have h : mainGlobals < s.heap.objs.size := (I.mod.glob.keeps I.bk).lt
  exact Nat.lt_trans (by decide) h
theorem d_in {Q : Value → Shared → Prop} (hu : A.units + 1 < cLine) (I : Inv X pins σ H s) (g : DGet H a y o) (ry : RelV y u) (h : ∀ s', Inv X pins σ H s' → Q (.bool o.isSome) s') :
    wpAny (model X.prog X.w) A (compareOp .In u (.ref a)) Q E s := by
  rcases g with ⟨kvs, k, e, ey, l⟩ | ⟨kvs, k, b, e, ey, eb, l⟩
  · subst ey
    obtain ⟨z, hd, vs, rel, dd⟩ := dk_rd I.hok e
    refine wpAny_in_of (kV_is ry) hd dd.mapOf ?_
    rw [← (rel.val k).isSome_eq, ← l]
    exact h _ (I.tok _)
  · subst ey
    cases (show u = Value.ref b from ry)
    obtain ⟨z, hd, xs, rel, dd⟩ := dt_rd I.hok e
    refine wpAny_in_heap (tupleKind_room_in1 hu) (key_of I.hok eb) hd dd ?_
    have q := (rel.val k).isSome_eq
    rw [Option.isSome_map] at q
    rw [← q, ← l]
    exact h _ (I.tok _)
theorem d_write {h' : Heap} {t' : Nat} {ob : HO} (I : Inv X pins σ H s) (mu : Mut (H a)) (hs : Heap.SameBut a s.heap h') (he : ∃ q, h'.get? a = some q) (new : ObjOk X.prog X.w (upd H a ob) h' a ob) :
    Inv X pins σ (upd H a ob) { s with heap := h', toks := t' } :=
  I.write (x := a) (e := a) mu (.inl rfl) (fun b q hb z => (hs.2 b hb).trans z) he new
theorem dk_new {P : Program} {w : World} {H' : Hp} {h' : Heap} {kvs : List (Key × V)} {vs : List (Key × Value)} (z : kvs.length ≤ sizeLine) (hd : (a == sysModules) = false) (rel : KV kvs vs) (dd : h'.DictOf (mixKind P w) a vs) :
    ObjOk P w H' h' a (.dK kvs) := ⟨z, hd, vs, rel, dd⟩
end
section
variable {X : Cx} {pins : List (Addr × Obj)} {σ : St} {H : Hp} {s : Shared} {a : Addr} {kvs : List (Key × V)} {k : Key} {u : Value} {A : Around} {E : Value → Shared → Prop}
end
def tDIn (ty td : TE) : TE := fun σ H Q => ty σ H fun y H1 => td σ H1 fun x H2 => ∃ a o, x = .ref a ∧ DGet H2 a y o ∧ Q (.bl o.isSome) H2
section
variable {X : Cx} {o i e value : Expr} {pos pos' tpos : Pos} {td ty tv : TE}
theorem pc_din (hu : X.A.units + 1 < cLine) (hi : PE X i ty) (ho : PE X o td) : PC X .In i o (tDIn ty td) := by
  intro pins s σ H Q I h
  refine thn (hi pins s σ H _ I h) fun iv s1 ⟨y, H1, I1, ry, q1⟩ => thn (ho pins s1 σ H1 _ I1 q1) fun u s2 ⟨x, H2, I2, rx, a, ov, ex, g, q2⟩ => ?_
  subst ex
  obtain rfl : u = Value.ref a := rx
  exact d_in hu I2 g ry fun s3 I3 => ⟨.bl ov.isSome, H2, I3, rfl, q2⟩
end
theorem dk_empty {P : Program} {w : World} {H : Hp} (h : Heap) (hb : sysModules < h.objs.size) : ObjOk P w H (h.push { cls := .type "dict", data := .dict #[] }) h.objs.size (.dK []) :=
  ⟨Nat.zero_le _, beq_eq_false_iff_ne.mpr (Ne.symm (Nat.ne_of_lt hb)), [], .nil, Heap.DictOf.new h⟩
section
variable {X : Cx} {pos : Pos}
end
section
variable {X : Cx} {pins : List (Addr × Obj)} {σ : St} {H : Hp} {s : Shared} {a : Addr} {y d : V} {u r : Value} {o : Option V} {A : Around} {E : Value → Shared → Prop}
end
section
variable {X : Cx} {o e f : Expr} {apos cpos : Pos} {td ty tx : TE}
end
section
variable {X : Cx} {pins : List (Addr × Obj)} {σ : St} {H : Hp} {s : Shared} {a : Addr} {kvs : List (Key × V)} {A : Around} {E : Value → Shared → Prop}
end
section
variable {X : Cx} {pins : List (Addr × Obj)} {σ : St} {H : Hp} {s : Shared} {a : Addr} {y : V} {u : Value} {A : Around} {E : Value → Shared → Prop}
end
end L2
set_option Elab.async false
set_option maxHeartbeats 4000000
namespace L2
open PySem PySem.Spec PyProof.Rows
def clOf (env : Env) : List (Str × NameKind) → List (Str × Addr) → List (Str × Addr)
  | [], cs => cs
  | (n, k) :: r, cs => clOf env r (if k = .free then (n, (env.cells.lookup n).getD 0) :: cs else cs)
theorem clOf_eq {env : Env} : ∀ (ns : List (Str × NameKind)) (cs : List (Str × Addr)), (∀ x ∈ ns, x.2 = .free → ∃ c, env.cells.lookup x.1 = some c) →
    (forIn (m := Sem) ns cs fun (x : Str × NameKind) (r : List (Str × Addr)) => (if (x.2 == .free) = true then (do let a ← cellOf env x.1; pure (ForInStep.yield ((x.1, a) :: r))) else pure (ForInStep.yield r))) = pure (clOf env ns cs)
  | [], cs, _ => by simp [clOf]
  | (n, k) :: r, cs, h => by
    have ih := fun cs => clOf_eq r cs fun x hx => h x (List.mem_cons_of_mem _ hx)
    rw [List.forIn_cons]
    by_cases hk : k = .free
    · subst hk
      obtain ⟨c, hc⟩ := h (n, .free) List.mem_cons_self rfl
      have e1 : cellOf env n = pure c := by unfold cellOf; rw [hc]
      have hb : (NameKind.free == NameKind.free) = true := rfl
      simp only [hb, if_true, e1, pure_bind, clOf, hc, Option.getD_some]
      exact ih _
    · have hb : (k == NameKind.free) = false := by simpa using hk
      simp only [hb, Bool.false_eq_true, if_false, pure_bind, clOf, if_neg hk]
      exact ih _
theorem clOf_get {env : Env} : ∀ (ns : List (Str × NameKind)) (cs : List (Str × Addr)) (x : Str) (c : Addr), (∀ x ∈ ns, x.2 = .free → ∃ c, env.cells.lookup x.1 = some c) → (clOf env ns cs).lookup x = some c → cs.lookup x = some c ∨ env.cells.lookup x = some c
  | [], cs, x, c, _, e => .inl e
  | (n, k) :: r, cs, x, c, h, e => by
    have ih := clOf_get r (if k = .free then (n, (env.cells.lookup n).getD 0) :: cs else cs) x c (fun x hx => h x (List.mem_cons_of_mem _ hx)) e
    rcases ih with ih | ih
    · by_cases hk : k = .free
      · subst hk
        rw [if_pos rfl] at ih
        obtain ⟨d, hd⟩ := h (n, .free) List.mem_cons_self rfl
        have hd' : env.cells.lookup n = some d := hd
        rw [hd'] at ih
        rw [List.lookup_cons] at ih
        cases hx : x == n with
        | true =>
          rw [hx] at ih
          have : x = n := by simpa using hx
          subst this
          right
          rw [hd']
          exact ih
        | false =>
          rw [hx] at ih
          exact .inl ih
      · rw [if_neg hk] at ih
        exact .inl ih
    · exact .inr ih
theorem clOf_keep {env : Env} : ∀ (ns : List (Str × NameKind)) (cs : List (Str × Addr)) (x : Str), (∃ c, cs.lookup x = some c) → ∃ c, (clOf env ns cs).lookup x = some c
  | [], _, _, h => h
  | (n, k) :: r, cs, x, h => by
    refine clOf_keep r _ x ?_
    split
    · rw [List.lookup_cons]
      split
      · exact ⟨_, rfl⟩
      · exact h
    · exact h
theorem clOf_has {env : Env} : ∀ (ns : List (Str × NameKind)) (cs : List (Str × Addr)) (x : Str), (x, NameKind.free) ∈ ns → ∃ c, (clOf env ns cs).lookup x = some c
  | [], _, _, h => nomatch h
  | (n, k) :: r, cs, x, h => by
    rcases List.mem_cons.mp h with e | h
    · cases e
      refine clOf_keep r _ _ ⟨(env.cells.lookup n).getD 0, ?_⟩
      rw [if_pos rfl, List.lookup_cons, beq_self_eq_true]
    · exact clOf_has r _ x h
theorem closure_of {scope : Scope} {env : Env} (h : ∀ x ∈ scope.names, x.2 = .free → ∃ c, env.cells.lookup x.1 = some c) : closureFor scope env = pure (clOf env scope.names []) := by
  have e := clOf_eq scope.names [] h
  unfold closureFor
  simp only [] at e ⊢
  rw [e]
  rfl
theorem relabel_get {scope : Scope} {env : Env} {x : Str} {k : NameKind} : (relabel scope env).names.lookup x = some k → ∃ k', (x, k') ∈ scope.names ∧ (k = k' ∨ (k' = .free ∧ k = .cell)) := by
  intro h
  have all : ∀ (ns : List (Str × NameKind)), (ns.map fun (n, k) => if (k == NameKind.free && env.scope.kind == .function && env.kindOf n == some .cell) then (n, NameKind.cell) else (n, k)).lookup x = some k → ∃ k', (x, k') ∈ ns ∧ (k = k' ∨ (k' = .free ∧ k = .cell)) := by
    intro ns
    induction ns with
    | nil => intro h; simp at h
    | cons y r ih =>
      obtain ⟨n, k'⟩ := y
      intro h
      rw [List.map_cons, List.lookup_cons] at h
      by_cases hc : (k' == NameKind.free && env.scope.kind == .function && env.kindOf n == some .cell) = true
      · simp only [hc, if_true] at h
        cases hx : x == n with
        | true =>
          rw [hx] at h
          have e : x = n := by simpa using hx
          subst e
          have hk : k' = .free := by
            simp only [Bool.and_eq_true] at hc
            simpa using hc.1.1
          exact ⟨k', List.mem_cons_self, .inr ⟨hk, (Option.some.inj h).symm⟩⟩
        | false =>
          rw [hx] at h
          obtain ⟨k2, h1, h2⟩ := ih h
          exact ⟨k2, List.mem_cons_of_mem _ h1, h2⟩
      · simp only [hc, Bool.false_eq_true, if_false] at h
        cases hx : x == n with
        | true =>
          rw [hx] at h
          have e : x = n := by simpa using hx
          subst e
          exact ⟨k', List.mem_cons_self, .inl (Option.some.inj h).symm⟩
        | false =>
          rw [hx] at h
          obtain ⟨k2, h1, h2⟩ := ih h
          exact ⟨k2, List.mem_cons_of_mem _ h1, h2⟩
  exact all scope.names h
def Cx.comp (X : Cx) (scope : Scope) (N' : List Str) (C : Addr) (fp : List Addr) (s₀ : Shared) (H₀ : Hp) : Cx :=
  { X with N := N', s₀ := s₀, H₀ := H₀, env := compEnvC scope (clOf X.env scope.names []) C X.env, outer := X.stack, stack := X.stack, ex := fp, fn := fun _ => false, pn := [], xe := fun _ _ => False }
structure CompScope (X : Cx) (scope : Scope) : Prop where
  kind : scope.kind = .function
  nocell : ∀ x ∈ scope.names, x.2 ≠ .cell
  loc : ∀ x ∈ scope.names, x.2 = .local → scope.names.lookup x.1 = some .local
  free : ∀ x ∈ scope.names, x.2 = .free → X.env.kindOf x.1 = some .cell
section
variable {X : Cx} {pins : List (Addr × Obj)} {σ : St} {H : Hp} {s : Shared} {scope : Scope} {N' : List Str} {fp : List Addr}
theorem CompScope.cells (S : CompScope X scope) (ok : X.Ok) : ∀ x ∈ scope.names, x.2 = .free → ∃ c, X.env.cells.lookup x.1 = some c := fun x hx hk => ok.has x.1 (.inl (S.free x hx hk))
theorem CompScope.sub (S : CompScope X scope) (ok : X.Ok) {x : Str} {c : Addr} (e : (clOf X.env scope.names []).lookup x = some c) : X.env.cells.lookup x = some c := by
  rcases clOf_get scope.names [] x c (S.cells ok) e with h | h
  · cases h
  · exact h
theorem CompScope.ok (S : CompScope X scope) (I : Inv X pins σ H s) (hf : ∀ b ∈ fp, FpOk X pins H b) (ho : ∀ b ∈ fp, b < s.heap.objs.size) : (X.comp scope N' s.heap.objs.size fp s H).Ok where
  mod := I.ok.mod
  kind := S.kind
  glob := I.ok.glob
  blt := I.ok.blt
  above := Nat.le_refl _
  inj := fun x y c e1 e2 => I.ok.inj x y c (S.sub I.ok e1) (S.sub I.ok e2)
  has := fun x hx => by
    have hx' : (relabel scope X.env).names.lookup x = some .cell ∨ (relabel scope X.env).names.lookup x = some .free := hx
    have fr : (x, NameKind.free) ∈ scope.names := by
      rcases hx' with h | h
      · obtain ⟨k', h1, h2⟩ := relabel_get h
        rcases h2 with h2 | ⟨h2, _⟩
        · subst h2; exact absurd rfl (S.nocell _ h1)
        · subst h2; exact h1
      · obtain ⟨k', h1, h2⟩ := relabel_get h
        rcases h2 with h2 | ⟨h2, h3⟩
        · subst h2; exact h1
        · cases h3
    exact clOf_has scope.names [] x fr
  cab := fun x c h _ => by cases h
  hd := I.ok.hd
  frames := I.ok.frames
  stk := .inl rfl
  exf := fun b hb => ⟨Nat.ne_of_lt (ho b hb), fun x c e => (hf b hb).2.2.2.2.1 x c (S.sub I.ok e)⟩
  bs := I.bs
  bsz := Nat.le_trans I.ok.bsz I.sz
  noex := fun b o e hb => by
    rcases (hf b hb).2.2.2.1 with h | h
    · exact I.ok.noex b o e h
    · exact absurd (Nat.lt_of_lt_of_le (Heap.lt_size e) (Nat.le_trans I.ok.bsz h)) (Nat.lt_irrefl _)
  exfs := fun b hb hs => by
    rcases List.mem_cons.mp (I.stkSub b hs) with h | h
    · exact (hf b hb).2.1 h
    · exact (hf b hb).2.2.1 h
  funs := I.stack
  frf := I.stkFree
def capt (nl : Nat) (ix : List Nat) (σ : St) : St := List.replicate nl none ++ ix.map fun j => (σ[j]?).join
structure Capt (X : Cx) (scope : Scope) (N' : List Str) (nl : Nat) (ix : List Nat) : Prop where
  len : N'.length = nl + ix.length
  at' : ∀ (k j : Nat), ix[k]? = some j → ∃ x, X.N[j]? = some x ∧ N'[nl + k]? = some x ∧ X.env.kindOf x = some .cell ∧ (relabel scope X.env).names.lookup x = some .cell ∧ (x, NameKind.free) ∈ scope.names
theorem capt_inv {nl : Nat} {ix : List Nat} {h1 : Heap} {tk : Nat} (S : CompScope X scope) (Cp : Capt X scope N' nl ix) (I : Inv X pins σ H s) (hf : ∀ b ∈ fp, FpOk X pins H b) (ho : ∀ b ∈ fp, b < s.heap.objs.size)
    (hn : h1.Ns s.heap.objs.size (fun _ => none)) (hk : ∀ b o, s.heap.get? b = some o → h1.get? b = some o) : Inv (X.comp scope N' s.heap.objs.size fp s H) [] (capt nl ix σ) H { s with heap := h1, toks := tk } := by
  have ok := S.ok (N' := N') I hf ho
  refine ⟨ok, rfl, I.bare, Un.kept hk, ⟨_, hn, fun i x v e1 e2 e3 => ?_⟩, fun x c e => ?_, I.hok.fresh (Nat.le_refl _), fun x c e => I.freeC x c (S.sub I.ok e), fun p hp => by simp [Cx.comp] at hp, I.hok.kept hk, ?_⟩
  · unfold capt at e2
    rw [List.getElem?_append] at e2
    split at e2
    · rw [List.getElem?_replicate] at e2
      split at e2 <;> simp at e2
    · rename_i hi
      rw [List.length_replicate] at hi e2
      rw [List.getElem?_map] at e2
      cases ej : ix[i - nl]? with
      | none => rw [ej] at e2; simp at e2
      | some j =>
        rw [ej] at e2
        have e2' : (σ[j]?).join = some v := by simpa using e2
        have e2'' : σ[j]? = some (some v) := by
          cases q : σ[j]? with
          | none => rw [q] at e2'; simp at e2'
          | some z => rw [q] at e2'; simp at e2'; rw [e2']
        obtain ⟨x', a1, a2, a3, a4, a5⟩ := Cp.at' _ _ ej
        have hi2 : nl + (i - nl) = i := by omega
        rw [hi2] at a2
        have e1' : N'[i]? = some x := e1
        rw [a2] at e1'
        cases e1'
        obtain ⟨m, hm, hl⟩ := I.loc
        obtain ⟨u, r, l⟩ := hl j x v a1 e2'' (.inr (.inl a3))
        refine ⟨u, r, ?_⟩
        rcases l with ⟨k, _⟩ | ⟨_, c, ec, z⟩
        · rw [k] at a3; cases a3
        · obtain ⟨c', hc'⟩ := clOf_has (env := X.env) scope.names [] x a5
          have ec' := S.sub I.ok hc'
          rw [ec] at ec'
          cases ec'
          obtain ⟨o, ho', hd⟩ := z
          exact .inr ⟨.inl a4, c, hc', o, hk _ _ ho', hd⟩
  · obtain ⟨v, o, ho', hd⟩ := I.cell x c (S.sub I.ok e)
    exact ⟨v, o, hk _ _ ho', hd⟩
  · show (capt nl ix σ).length = N'.length
    unfold capt
    rw [List.length_append, List.length_replicate, List.length_map, Cp.len]
theorem comp_back {H' : Hp} {σ' : St} {pins' : List (Addr × Obj)} {s' : Shared} {h' : Heap} (I : Inv X pins σ H s) (hf : ∀ b ∈ fp, FpOk X pins H b)
    (I' : Inv (X.comp scope N' s.heap.objs.size fp s H) pins' σ' H' s') (hs : Heap.SameBut s.heap.objs.size s'.heap h') : Inv X pins σ H' { s' with heap := h' } := by
  have lo : ∀ b o, s.heap.get? b = some o → b ≠ s.heap.objs.size := fun b o e => Nat.ne_of_lt (Heap.lt_size e)
  have B := I'.base
  refine I.call' (ch := fp) (show s'.os = s.os from I'.os) ⟨fun b o e n hb hx => ?_, fun b o e n hb hx => ?_, fun b o e n hx => B.free b o e n hx, fun b o e hx => ?_, B.tups, B.frzs, B.tbls⟩ (fun b u e => ?_) I'.bare fun b hb => ⟨(hf b hb).2.2.2.1, (hf b hb).2.1, (hf b hb).2.2.2.2.1, (hf b hb).2.2.2.2.2⟩
  · exact (hs.2 b (lo b o e)).trans (B.keep b o e n hb hx)
  · obtain ⟨sl, q⟩ := B.slot b o e n hb hx
    exact ⟨sl, (hs.2 b (lo b o e)).trans q⟩
  · obtain ⟨o', q⟩ := B.there b o e hx
    exact ⟨o', (hs.2 b (lo b o e)).trans q⟩
  · have nl : H' s.heap.objs.size = none := I'.free
    refine (I'.hok b u e).stay (fun c v hc q => (hs.2 c ?_).trans q) (fun _ q => q) fun _ _ q => q
    rintro rfl
    rcases hc with z | z
    · rw [← z, nl] at e; cases e
    · rw [nl] at z; cases z
end
def PIf (X : Cx) (ifs : List Expr) (t : TT) : Prop :=
  ∀ (pins : List (Addr × Obj)) (s : Shared) (σ : St) (H : Hp) (Q : Bool → Hp → Prop), Inv X pins σ H s → t σ H Q →
    wpAny (model X.prog X.w) X.A (forIn ifs true fun c r => if r = true then do let ok ← isTrue c X.env (eval c X.env); pure (ForInStep.yield ok) else pure (ForInStep.yield r)) (TP X pins σ Q) X.xe s
def tYes : TT := fun _ H Q => Q true H
theorem pif_nil {X : Cx} : PIf X [] tYes := fun _ _ _ H _ I h => wpAny_tests_nil ⟨H, I, h⟩
theorem pif_one {X : Cx} {c : Expr} {t : TT} (h : PT X c t) : PIf X [c] t := fun pins s σ H Q I hw => wpAny_tests_one (h pins s σ H Q I hw)
section
variable {prog : Program} {w : World} {A : Around} {R : Result → Shared → Prop} {s : Shared}
theorem compLoop_L {elt target iter : Expr} {ifs : List Expr} {scope : Scope} {pos : Pos} {it acc : Value} {env : Env} (I : Nat → Shared → Prop)
    (turn : ∀ n s, I n s → wpAny (model prog w) A (pyNext it) (fun r s₁ => match r with
      | none => R (.ok .next) s₁
      | some v => wpAny (model prog w) A (letOwnedTupleGo target it v) (fun _ s₁' => wpAny (model prog w) A (assign target env v) (fun _ s₂ =>
          wpAny (model prog w) A (forIn ifs true fun c r => if r = true then do let ok ← isTrue c env (eval c env); pure (ForInStep.yield ok) else pure (ForInStep.yield r)) (fun ok s₃ =>
            if ok = true then wpAny (model prog w) A (eval elt env) (fun x s₄ =>
              wpAny (model prog w) A (call (.builtin "list.append") [acc, x]) (fun _ s₅ => ∃ m, m < n ∧ I m s₅) (fun _ _ => False) s₄) (fun _ _ => False) s₃
            else ∃ m, m < n ∧ I m s₃) (fun _ _ => False) s₂) (fun _ _ => False) s₁') (fun _ _ => False) s₁) (fun _ _ => False) s)
    (n : Nat) (h : I n s) :
    codeAny (model prog w) A (.compLoop (.ListComp elt [⟨target, iter, ifs, 0⟩] scope pos) 0 it acc env) R s := by
  have no : ∀ {E : Value → Shared → Prop} (x : Value) (s : Shared), False → E x s := fun _ _ z => z.elim
  refine codeAny_loop rfl I (fun n s hI => ?_) n h
  show wpAny _ A ((compTurn (.ListComp elt [⟨target, iter, ifs, 0⟩] scope pos) 0 it acc env).onRaise (fun x => do noteFrame x env; theTreesLotGoes x)) _ _ s
  refine wpAny_noted ?_
  rw [compTurn_list]
  refine wpAny_bind (wpAny_standAt (wpAny_bind (wpAny_mono (turn n s hI) (fun r s₁ h₁ => ?_) no)))
  cases r with
  | none => exact wpAny_pure h₁
  | some v =>
    refine wpAny_bind (wpAny_mono h₁ (fun _ s₁' h₁' => wpAny_bind (wpAny_mono h₁' (fun _ s₂ h₂ => wpAny_bind (wpAny_mono h₂ (fun ok s₃ h₃ => ?_) no)) no)) no)
    cases ok with
    | false => exact wpAny_pure ⟨rfl, h₃⟩
    | true =>
      exact wpAny_bind (wpAny_bind (wpAny_mono h₃ (fun x s₄ h₄ => wpAny_bind (wpAny_mono h₄ (fun _ s₅ h₅ => wpAny_pure (wpAny_pure ⟨rfl, h₅⟩)) no)) no))
end
def tLComp (nl : Nat) (ix : List Nat) (wi : TI) (g : TG) (tf : TT) (te : TE) : TE := fun σ H Q => wi σ H fun J H1 => ∀ D, H1 D = none → ∃ W : Nat → Nat → List V → Hp → Prop, (∃ m, W 0 m [] (upd H1 D (.lst []))) ∧
  ∀ i m ys H2, W i m ys H2 → H2 D = some (.lst ys) ∧ ((J.stop i H2 ∧ Q (.ref D) H2) ∨ (J.go i H2 ∧ ∀ x H3, J.yld i H2 x H3 → g x (capt nl ix σ) H3 fun σ4 H4 => (σ4.length = (capt nl ix σ).length ∧ σ4.drop nl = ix.map fun j => (σ[j]?).join) ∧ tf σ4 H4 fun b H5 =>
    if b = true then te σ4 H5 fun y H6 => H6 D = some (.lst ys) ∧ ys.length < sizeLine ∧ ∃ m', m' < m ∧ W (i + 1) m' (ys ++ [y]) (upd H6 D (.lst (ys ++ [y]))) else ∃ m', m' < m ∧ W (i + 1) m' ys H5))
theorem capt_weak {X : Cx} {pins : List (Addr × Obj)} {σ σ4 : St} {H : Hp} {s : Shared} {nl : Nat} {ix : List Nat} (I : Inv X pins σ4 H s) (hl : σ4.length = (capt nl ix σ).length) (hd : σ4.drop nl = ix.map fun j => (σ[j]?).join) : Inv X pins (capt nl ix σ) H s := by
  refine I.weak hl.symm fun i v e => ?_
  unfold capt at e
  rw [List.getElem?_append] at e
  split at e
  · rw [List.getElem?_replicate] at e
    split at e <;> simp at e
  · rename_i hi
    rw [List.length_replicate] at hi e
    rw [← hd, List.getElem?_drop] at e
    have hi2 : nl + (i - nl) = i := by omega
    rw [hi2] at e
    exact e
section
variable {X : Cx}
theorem pe_lcomp {elt tg iter : Expr} {ifs : List Expr} {scope : Scope} {pos : Pos} {N' : List Str} {nl : Nat} {ix : List Nat} {wi : TI} {g : TG} {tf : TT} {te : TE} (hc : X.calm = true) (S : CompScope X scope) (Cp : Capt X scope N' nl ix) (hi : PI X tg iter wi)
    (hg : ∀ C fp s₀ H₀, PG (X.comp scope N' C fp s₀ H₀) tg g) (hf : ∀ C fp s₀ H₀, PIf (X.comp scope N' C fp s₀ H₀) ifs tf) (he : ∀ C fp s₀ H₀, PE (X.comp scope N' C fp s₀ H₀) elt te)
    (hs : ∀ x, foldedSetIterable iter X.env x = pure x := by intro _; rfl) : PE X (.ListComp elt [⟨tg, iter, ifs, 0⟩] scope pos) (tLComp nl ix wi g tf te) := by
  intro pins s σ H Q I h
  rw [eval_ListComp]
  refine wpAny_comprehension_free (use := none) (cl := clOf X.env scope.names []) rfl hs (closure_of (S.cells I.ok)) S.kind S.loc ?_
  refine thn (hi pins s σ H _ I h) fun v s1 h1 => thn h1 fun itv s2 h2 => ?_
  obtain ⟨it, fp, tn, J, H2, rfl, I2, T, st2, f2, h2⟩ := h2
  obtain ⟨W, ⟨m0, w0⟩, turn⟩ := h2 s2.heap.objs.size I2.fresh
  refine wpAny_newObj_type (wpAny_newFunctionEnv S.nocell (by intro y hy; simp at hy) (fun h₁ hns₁ hsb₁ => ?_) S.kind)
  dsimp only at hns₁ hsb₁ ⊢
  have fpo : ∀ b ∈ fp, b < s2.heap.objs.size := fun b hb => by
    obtain ⟨o, e, _⟩ := T.obj 0 _ st2 b hb
    exact Heap.lt_size e
  have I3 : Inv X pins σ (upd H2 s2.heap.objs.size (.lst [])) { s2 with heap := s2.heap.push { cls := .type "list", data := .seq ([] : List Value).toArray }, toks := s2.toks } := I2.lnew .nil (Nat.zero_le _)
  have hD : (upd H2 s2.heap.objs.size (.lst [])) s2.heap.objs.size = some (.lst []) := upd_same
  have f3 : ∀ b ∈ fp, FpOk X pins (upd H2 s2.heap.objs.size (.lst [])) b := fun b hb => by
    refine ⟨?_, (f2 b hb).2⟩
    rw [upd_ne (Nat.ne_of_lt (fpo b hb))]
    exact (f2 b hb).1
  generalize hS3 : s2.heap.push { cls := .type "list", dict := none, data := .seq ([] : List Value).toArray } = g3 at hns₁ hsb₁ I3 ⊢
  have sz3 : g3.objs.size = s2.heap.objs.size + 1 := by rw [← hS3, Heap.size_push]
  have fpo3 : ∀ b ∈ fp, b < ({ s2 with heap := g3, toks := s2.toks } : Shared).heap.objs.size := fun b hb => by
    show b < g3.objs.size
    rw [sz3]
    exact Nat.lt_succ_of_lt (fpo b hb)
  have old : ∀ b o, g3.get? b = some o → h₁.get? b = some o := fun b o e => hsb₁.extBut b o (Nat.ne_of_lt (Heap.lt_size e)) (Heap.get?_push_of_some _ e)
  have I4 := capt_inv (tk := s2.toks + ([] : List (Str × Value)).length) S Cp I3 f3 fpo3 hns₁ old
  generalize hX : X.comp scope N' g3.objs.size fp { s2 with heap := g3, toks := s2.toks } (upd H2 s2.heap.objs.size (.lst [])) = X' at *
  have hPr : X'.prog = X.prog := by rw [← hX]; rfl
  have hWr : X'.w = X.w := by rw [← hX]; rfl
  have hKr : X'.K = X.K := by rw [← hX]; rfl
  have hAr : X'.A = X.A := by rw [← hX]; rfl
  have hCa : X'.calm = true := by rw [← hX]; exact hc
  have hXe : X'.xe = fun _ _ => False := by rw [← hX]; rfl
  have hEx : X'.ex = fp := by rw [← hX]; rfl
  have hPn : X'.pn = [] := by rw [← hX]; rfl
  have hLo : X'.env.locals = g3.objs.size := by rw [← hX]; rfl
  have hEn : X'.env = compEnvC scope (clOf X.env scope.names []) g3.objs.size X.env := by rw [← hX]; rfl
  have hg' := hg g3.objs.size fp { s2 with heap := g3, toks := s2.toks } (upd H2 s2.heap.objs.size (.lst []))
  have hf' := hf g3.objs.size fp { s2 with heap := g3, toks := s2.toks } (upd H2 s2.heap.objs.size (.lst []))
  have he' := he g3.objs.size fp { s2 with heap := g3, toks := s2.toks } (upd H2 s2.heap.objs.size (.lst []))
  rw [hX] at hg' hf' he'
  have I4' : Inv X' [] (capt nl ix σ) (upd H2 s2.heap.objs.size (.lst [])) { s2 with heap := h₁, toks := s2.toks + ([] : List (Str × Value)).length } := I4
  have back : ∀ {H' : Hp} {σ' : St} {pins' : List (Addr × Obj)} {s' : Shared} {h' : Heap}, Inv X' pins' σ' H' s' → Heap.SameBut g3.objs.size s'.heap h' → Inv X pins σ H' { s' with heap := h' } := fun I' sb => by
    subst hX
    exact comp_back I3 f3 I' sb
  have stat : ∀ {H' : Hp}, (∀ b ∈ fp, H' b = none) → ∀ b ∈ fp, FpOk X' [] H' b := fun hn b hb => by
    refine ⟨hn b hb, ?_, ?_, .inl (by rw [hEx]; exact hb), ?_, fun p hp => by rw [hPn] at hp; cases hp⟩
    · rw [hLo]; exact Nat.ne_of_lt (fpo3 b hb)
    · exact I4'.ok.exfs b (by rw [hEx]; exact hb)
    · exact (I4'.ok.exf b (by rw [hEx]; exact hb)).2
  have loop : codeAny (model X.prog X.w) X.A (.compLoop (.ListComp elt [⟨tg, iter, ifs, 0⟩] scope pos) 0 (.ref it) (.ref s2.heap.objs.size) X'.env)
      (compPost (model X.prog X.w) X.A X.xe none (EP X pins σ Q) (.ref s2.heap.objs.size) g3.objs.size) { s2 with heap := h₁, toks := s2.toks + ([] : List (Str × Value)).length } := by
    rw [← hPr, ← hWr, ← hAr]
    refine compLoop_L (fun n s' => ∃ i ys H', Inv X' [] (capt nl ix σ) H' s' ∧ tn i s'.heap ∧ (∀ b ∈ fp, H' b = none) ∧ W i n ys H') ?_ m0
      ⟨0, [], _, I4', T.keep _ _ _ st2 (fun b hb o e => old b o (by rw [← hS3]; exact Heap.get?_push_of_some _ e)), fun b hb => (f3 b hb).1, w0⟩
    rintro n s5 ⟨i, ys, H5, I5, st5, fr5, w5⟩
    obtain ⟨hD5, alt⟩ := turn i n ys H5 w5
    rcases alt with ⟨stop, qn⟩ | ⟨go, step⟩
    · rw [hPr, hWr]
      refine thn (T.done X' hPr hWr hKr hCa i [] s5 _ H5 _ I5 (stat fr5) st5 stop) fun r s6 ⟨hr, I6⟩ => ?_
      subst hr
      obtain ⟨m, hn, _⟩ := I6.loc
      rw [hLo] at hn
      exact ⟨m, hn, fun h' sb => ⟨.ref s2.heap.objs.size, H5, back I6 sb, rfl, qn⟩⟩
    · have it5 := T.item X' hPr hWr hKr hCa i [] s5 _ H5 (fun _ _ => False) I5 (stat fr5) st5 go
      rw [← hPr, ← hWr] at it5
      refine thn it5 fun r s6 ⟨u, hr, h6⟩ => ?_
      subst hr
      refine thn h6 fun _ s7 ⟨x, H7, I7, r7, y7, st7, fr7⟩ => ?_
      have I7' := I7.pinned (stat fr7) (T.obj _ _ st7)
      have g7 := hg' _ s7 _ H7 x u _ I7' r7 (step x H7 y7)
      rw [hXe] at g7
      refine thn g7 fun _ s8 ⟨σ8, H8, I8, ⟨hl8, hd8⟩, q8⟩ => ?_
      have f8 := hf' _ s8 σ8 H8 _ I8 q8
      rw [hXe] at f8
      refine thn f8 fun ok s9 ⟨H9, I9, q9⟩ => ?_
      have again : ∀ {H10 : Hp} {s10 : Shared} {ys' : List V}, Inv X' ([] ++ pinsAt fp s7.heap) σ8 H10 s10 → (∃ m', m' < n ∧ W (i + 1) m' ys' H10) → ∃ m, m < n ∧ ∃ i ys H', Inv X' [] (capt nl ix σ) H' s10 ∧ tn i s10.heap ∧ (∀ b ∈ fp, H' b = none) ∧ W i m ys H' := fun {H10 s10 ys'} I10 ⟨m', hm, w'⟩ => by
        refine ⟨m', hm, i + 1, ys', H10, capt_weak I10.unpinned hl8 hd8, T.keep _ _ _ st7 fun b hb o e => (I10.pin (b, o) (List.mem_append_right _ (List.mem_append_right _ (mem_pinsAt hb e)))).1, fun b hb => ?_, w'⟩
        obtain ⟨o, e, d⟩ := T.obj _ _ st7 b hb
        exact (I10.pin (b, o) (List.mem_append_right _ (List.mem_append_right _ (mem_pinsAt hb e)))).2.1
      cases ok with
      | false =>
        rw [if_neg Bool.false_ne_true] at q9 ⊢
        exact again I9 q9
      | true =>
        rw [if_pos rfl] at q9 ⊢
        have e9 := he' _ s9 σ8 H9 _ I9 q9
        rw [hXe] at e9
        refine thn e9 fun xv s10 ⟨y, H10, I10, r10, hD10, hz, mw⟩ => ?_
        have a10 := mt_append (X := X') _ s10 σ8 H10 (.ref s2.heap.objs.size) [y] _ [xv] (fun _ H' => H' = upd H10 s2.heap.objs.size (.lst (ys ++ [y]))) I10 rfl (.cons r10 .nil) ⟨_, ys, y, rfl, rfl, hD10, hz, rfl⟩
        rw [hXe] at a10
        refine thn a10 fun _ s11 ⟨_, H11, I11, _, e11⟩ => ?_
        subst e11
        exact again I11 mw
  rw [hEn] at loop
  exact codeAny_compStart_list loop (T.self _ 0 _ _ _ (T.keep _ _ _ st2 (fun b hb o e => old b o (by rw [← hS3]; exact Heap.get?_push_of_some _ e))) loop)
end
end L2
set_option Elab.async false
set_option maxHeartbeats 4000000
namespace L2
open PySem PySem.Spec PyProof.Rows
theorem strsAre_of : ∀ {ss : List Str} {us : List Value}, Vals (ss.map V.str) us → StrsAre us ss
  | [], _, .nil => .nil
  | _ :: _, _, .cons r t => by
    obtain ⟨k, rfl⟩ := r
    exact .cons _ k (strsAre_of t)
theorem of_strsAre : ∀ {ss : List Str} {us : List Value}, StrsAre us ss → Vals (ss.map V.str) us
  | _, _, .nil => .nil
  | _, _, .cons y t h => .cons ⟨t, rfl⟩ (of_strsAre h)
theorem all_getD : ∀ bs : List Bool, (List.range bs.length).all (fun i => bs.getD i false) = bs.all id
  | [] => rfl
  | b :: r => by
    rw [List.length_cons, List.range_succ_eq_map, List.all_cons, List.all_map, List.all_cons, ← all_getD r]
    rfl
section
variable {X : Cx}
theorem call_all (hc : X.calm = true) : CallR X (.builtin "all") (fun xs H Q => ∃ (p : Addr) (bs : List Bool), xs = [.ref p] ∧ SqL X.K H p (bs.map V.bl) ∧ Q (.bl (bs.all id)) H) := by
  intro pins s σ H xs us Q I r h
  obtain ⟨p, bs, rfl, hq, q⟩ := h
  obtain ⟨u, rfl, rx⟩ := vals1 r
  cases rx
  obtain ⟨its, rv, pl, hz⟩ := I.list hq
  have hh : X.A.in1.handled = none := I.ok.hd hc
  have hlt : p < s.heap.objs.size := by obtain ⟨o, e, _⟩ := pl.isList; exact Heap.lt_size e
  have hlen := rv.length
  rw [List.length_map] at hlen
  refine call_all_walk (wpAny_pyIter_list pl.isList ?_)
  refine ⟨s.heap.objs.size, _, _, _, _, _, fun i => bs.getD i false, rfl, Walks.list hh s.heap.objs.size p (Nat.ne_of_lt hlt) its.toArray, ⟨⟨_, Heap.get?_push_size _ rfl, rfl, rfl⟩, pl.isList.push _⟩, fun i v s' Q' E' hv hq' => ?_, fun h' tk hk => ?_⟩
  · have hv' : its[i]? = some v := by simpa using hv
    have hi : i < its.length := (List.getElem?_eq_some_iff.mp hv').1
    have hb : bs[i]? = some (bs.getD i false) := by
      rw [List.getD_eq_getElem?_getD]
      rw [List.getElem?_eq_getElem (by omega)]
      rfl
    obtain ⟨u, hu, ru⟩ := rv.get (i := i) (x := .bl (bs.getD i false)) (by rw [List.getElem?_map, hb]; rfl)
    rw [hv'] at hu
    cases hu
    cases ru
    exact wpAny_truthy_bool hq'
  · have e : (List.range its.toArray.size).all (fun i => bs.getD i false) = bs.all id := by
      rw [List.size_toArray, ← hlen, all_getD]
    rw [e]
    refine ⟨.bl _, H, ?_, rfl, q⟩
    refine (I.kept (t' := s.toks) (h' := s.heap.push { cls := .type "list_iterator", data := .fields #[.ref p, .int 0 0] }) fun b o e => Heap.get?_push_of_some _ e).turned (it := s.heap.objs.size) (t' := tk) (h' := h') (fun b o hb e => hk b o (by simpa using hb) e) I.fresh (Nat.ne_of_gt I.lt) (.inr I.sz) (fun x c e z => ?_) fun p' hp z => ?_
    · obtain ⟨v, q⟩ := I.cell x c e
      exact absurd (z ▸ q.lt) (Nat.lt_irrefl _)
    · exact absurd (z ▸ Heap.lt_size (I.pin p' hp).1) (Nat.lt_irrefl _)
theorem call_sum (hc : X.calm = true) : CallR X (.builtin "sum") (fun xs H Q => ∃ (p : Addr) (ns : List Int), xs = [.ref p] ∧ SqL X.K H p (ns.map V.int) ∧ (∀ n ∈ ns, 0 ≤ n ∧ n ≤ 1000000) ∧ ns.length ≤ 1000000 ∧ Q (.int ns.sum) H) := by
  intro pins s σ H xs us Q I r h
  obtain ⟨p, ns, rfl, hq, hb, hl, q⟩ := h
  obtain ⟨u, rfl, rx⟩ := vals1 r
  cases rx
  obtain ⟨its, rv, pl, hz⟩ := I.list hq
  have hh : X.A.in1.handled = none := I.ok.hd hc
  have hlt : p < s.heap.objs.size := by obtain ⟨o, e, _⟩ := pl.isList; exact Heap.lt_size e
  have hlen := rv.length
  rw [List.length_map] at hlen
  have hbd : ∀ i, 0 ≤ ns.getD i 0 ∧ ns.getD i 0 ≤ 1000000 := fun i => by
    rw [List.getD_eq_getElem?_getD]
    cases e : ns[i]? with
    | none => simp
    | some z => exact hb z (List.mem_of_getElem? e)
  have hpre : ∀ j : Nat, 0 ≤ preSum (fun i => ns.getD i 0) j ∧ preSum (fun i => ns.getD i 0) j ≤ 1000000 * (j : Int) := fun j => by
    induction j with
    | zero => simp [preSum]
    | succ j ih =>
      have := hbd j
      simp only [preSum]
      omega
  refine call_sum_walk (wpAny_pyIter_list pl.isList ?_)
  refine ⟨s.heap.objs.size, _, _, _, _, _, fun i => ns.getD i 0, rfl, Walks.list hh s.heap.objs.size p (Nat.ne_of_lt hlt) its.toArray, ⟨⟨_, Heap.get?_push_size _ rfl, rfl, rfl⟩, pl.isList.push _⟩, fun b hb => ?_, fun i v hv => ?_, fun j hj => ?_, fun h' tk t' hk => ?_⟩
  · show b < (s.heap.push _).objs.size
    rw [Heap.size_push]
    rcases List.mem_cons.mp hb with rfl | hb
    · exact Nat.lt_succ_self _
    · rw [List.mem_singleton.mp hb]; exact Nat.lt_succ_of_lt hlt
  · have hv' : its[i]? = some v := by simpa using hv
    have hi : i < its.length := (List.getElem?_eq_some_iff.mp hv').1
    have hb : ns[i]? = some (ns.getD i 0) := by
      rw [List.getD_eq_getElem?_getD]
      rw [List.getElem?_eq_getElem (by omega)]
      rfl
    obtain ⟨u, hu, ru⟩ := rv.get (i := i) (x := .int (ns.getD i 0)) (by rw [List.getElem?_map, hb]; rfl)
    rw [hv'] at hu
    cases hu
    exact ru
  · have h1 := hbd j
    have h2 := hpre (j + 1)
    have h3 : j < its.length := by simpa using hj
    refine ⟨⟨by show -(2 ^ 63) ≤ ns.getD j 0; omega, by show ns.getD j 0 < 2 ^ 63; omega⟩, by omega, ?_⟩
    have h4 : ((j + 1 : Nat) : Int) ≤ 1000000 := by omega
    omega
  · have e : preSum (fun i => ns.getD i 0) its.toArray.size = ns.sum := by
      have all : ∀ (k : Nat) (l : List Int), k ≤ l.length → preSum (fun i => l.getD i 0) k = (l.take k).sum := fun k => by
        induction k with
        | zero => intro l _; simp [preSum]
        | succ k ih =>
          intro l hk
          rw [preSum, ih l (by omega), List.take_add_one, List.sum_append, List.getD_eq_getElem?_getD, List.getElem?_eq_getElem (by omega)]
          simp
      rw [List.size_toArray, ← hlen, all _ ns (Nat.le_refl _), List.take_length]
    rw [e]
    refine ⟨.int _, H, ?_, ⟨_, rfl⟩, q⟩
    refine (I.kept (t' := s.toks) (h' := s.heap.push { cls := .type "list_iterator", data := .fields #[.ref p, .int 0 0] }) fun b o e => Heap.get?_push_of_some _ e).turned (it := s.heap.objs.size) (t' := tk) (h' := h') (fun b o hb e => hk b o (by simpa using hb) e) I.fresh (Nat.ne_of_gt I.lt) (.inr I.sz) (fun x c e z => ?_) fun p' hp z => ?_
    · obtain ⟨v, q⟩ := I.cell x c e
      exact absurd (z ▸ q.lt) (Nat.lt_irrefl _)
    · exact absurd (z ▸ Heap.lt_size (I.pin p' hp).1) (Nat.lt_irrefl _)
theorem call_sorted : CallR X (.builtin "sorted") (fun xs H Q => ∃ (p : Addr) (ss : List Str), xs = [.ref p] ∧ SqL X.K H p (ss.map V.str) ∧ ss.length < 64 ∧ ∀ (l : Addr) (ss' : List Str), H l = none → ss'.Perm ss → sortedS ss' = true → Q (.ref l) (upd H l (.lst (ss'.map V.str)))) := by
  intro pins s σ H xs us Q I r h
  obtain ⟨p, ss, rfl, hq, hl, q⟩ := h
  obtain ⟨u, rfl, rx⟩ := vals1 r
  cases rx
  obtain ⟨its, rv, pl, hz⟩ := I.list hq
  have hlen := rv.length
  rw [List.length_map] at hlen
  refine sorted_strs pl.isList (strsAre_of rv) (by omega) fun out ss' a1 a2 a3 => ?_
  obtain ⟨e, he⟩ := sortedAll_at s.heap its out
  have hlen' : ss'.length = ss.length := a2.length_eq
  refine ⟨.ref (s.heap.objs.size + 1), _, I.laid (t' := s.toks) (o := .lst (ss'.map V.str)) (fun b o e => sortedAll_old e) (Nat.le_succ _) ⟨?_, out.toList, e, of_strsAre a1, ?_⟩, rfl, q _ ss' (I.hok.fresh (Nat.le_succ _)) a2 a3⟩
  · rw [List.length_map]
    exact Nat.le_of_lt (Nat.lt_of_lt_of_le (by omega : ss'.length < 64) (by decide))
  · simpa using he
def rJoin : V → List V → Hp → VK → Prop := fun x vs H Q => ∃ (z : Str) (l : Addr) (ss : List Str), x = .str z ∧ vs = [.ref l] ∧ SqL X.K H l (ss.map V.str) ∧ (ss.map (·.length)).sum + ss.length * z.length ≤ 16777216 ∧ Q (.str (Txt.join z ss)) H
theorem mt_join : MtM X "str.join" (rJoin (X := X)) := by
  intro pins s σ H x vs v us Q I rx rv h
  obtain ⟨z, l, ss, rfl, rfl, hq, hz, q⟩ := h
  obtain ⟨t, rfl⟩ := rx
  obtain ⟨u, rfl, ru⟩ := rv.one
  cases ru
  obtain ⟨its, r, pl, _⟩ := I.list hq
  exact join_list pl.isList (by simpa using strsAre_of r) hz fun t' k => ⟨.str _, H, I.tok _, ⟨t', rfl⟩, q⟩
end
end L2
set_option Elab.async false
set_option maxHeartbeats 4000000
namespace L2
open PySem PySem.Spec PyProof.Rows
mutual
inductive Sees (H : Hp) : V → PyData → Prop
  | non : Sees H .non .none
  | bl (b : Bool) : Sees H (.bl b) (.bool b)
  | int (i : Int) : Sees H (.int i) (.int i)
  | str (x : Str) : Sees H (.str x) (.str x)
  | lst {a : Addr} {vs : List V} {ds : List PyData} : H a = some (.lst vs) → SeesAll H vs ds → Sees H (.ref a) (.list ds)
  | tup {a : Addr} {vs : List V} {ds : List PyData} : H a = some (.tup vs) → SeesAll H vs ds → Sees H (.ref a) (.tuple ds)
inductive SeesAll (H : Hp) : List V → List PyData → Prop
  | nil : SeesAll H [] []
  | cons {v : V} {vs : List V} {d : PyData} {ds : List PyData} : Sees H v d → SeesAll H vs ds → SeesAll H (v :: vs) (d :: ds)
end
mutual
theorem Sees.reads {P : Program} {w : World} {H : Hp} {h : Heap} (ok : HOk P w H h) : ∀ {d : PyData} {v : V} {u : Value}, Sees H v d → RelV v u → ∃ as, Reads h u d as
  | _, _, _, .non, r => by cases r; exact ⟨_, .none⟩
  | _, _, _, .bl b, r => by cases r; exact ⟨_, .bool b⟩
  | _, _, _, .int i, r => by obtain ⟨t, rfl⟩ := r; exact ⟨_, .int i t⟩
  | _, _, _, .str x, r => by obtain ⟨t, rfl⟩ := r; exact ⟨_, .str x t⟩
  | _, _, _, .lst e q, r => by
    cases r
    obtain ⟨_, its, n, rv, g⟩ := ok _ _ e
    obtain ⟨as, ra⟩ := SeesAll.reads ok q rv
    exact ⟨_, .list g rfl rfl (by simpa using ra)⟩
  | _, _, _, .tup e q, r => by
    cases r
    obtain ⟨_, its, rv, o, g, hc, n, hd⟩ := ok _ _ e
    obtain ⟨as, ra⟩ := SeesAll.reads ok q rv
    exact ⟨_, .tuple g hc hd (by simpa using ra)⟩
theorem SeesAll.reads {P : Program} {w : World} {H : Hp} {h : Heap} (ok : HOk P w H h) : ∀ {ds : List PyData} {vs : List V} {us : List Value}, SeesAll H vs ds → Vals vs us → ∃ as, ReadsAll h us ds as
  | _, _, _, .nil, r => by cases r; exact ⟨_, .nil⟩
  | _, _, _, .cons a b, r => by
    cases r with
    | cons r1 r2 =>
      obtain ⟨_, x⟩ := Sees.reads ok a r1
      obtain ⟨_, y⟩ := SeesAll.reads ok b r2
      exact ⟨_, .cons x y⟩
end
mutual
theorem Sees.same {H H' : Hp} : ∀ {d : PyData} {v : V}, (∀ b o, H b = some o → (∃ xs, o = .lst xs ∨ o = .tup xs) → H' b = some o) → Sees H v d → Sees H' v d
  | _, _, _, .non => .non
  | _, _, _, .bl b => .bl b
  | _, _, _, .int i => .int i
  | _, _, _, .str x => .str x
  | _, _, k, .lst e q => .lst (k _ _ e ⟨_, .inl rfl⟩) (SeesAll.same k q)
  | _, _, k, .tup e q => .tup (k _ _ e ⟨_, .inr rfl⟩) (SeesAll.same k q)
theorem SeesAll.same {H H' : Hp} : ∀ {ds : List PyData} {vs : List V}, (∀ b o, H b = some o → (∃ xs, o = .lst xs ∨ o = .tup xs) → H' b = some o) → SeesAll H vs ds → SeesAll H' vs ds
  | _, _, _, .nil => .nil
  | _, _, k, .cons a b => .cons (Sees.same k a) (SeesAll.same k b)
end
theorem SeesAll.strs {H : Hp} : ∀ ss : List Str, SeesAll H (ss.map V.str) (ss.map PyData.str)
  | [] => .nil
  | s :: r => .cons (.str s) (SeesAll.strs r)
theorem SeesAll.append {H : Hp} : ∀ {vs ws : List V} {ds es : List PyData}, SeesAll H vs ds → SeesAll H ws es → SeesAll H (vs ++ ws) (ds ++ es)
  | _, _, _, _, .nil, q => q
  | _, _, _, _, .cons a b, q => .cons a (SeesAll.append b q)
theorem SeesAll.length {H : Hp} : ∀ {vs : List V} {ds : List PyData}, SeesAll H vs ds → vs.length = ds.length
  | _, _, .nil => rfl
  | _, _, .cons _ b => by rw [List.length_cons, List.length_cons, SeesAll.length b]
section
variable {X : Cx}
def rEqD (A : Around) (neg : Bool) : R2 := fun x y H Q => ∃ da db, Sees H x da ∧ Sees H y db ∧ da.canLay0 = true ∧ db.canLay0 = true ∧ A.units + min da.depth db.depth < cLine ∧ Q (.bl (if neg then !PyData.eqv da db else PyData.eqv da db)) H
theorem op_eqD : OpR X (compareOp .Eq) (rEqD X.A false) := by
  intro pins s σ H x y v u Q I rx ry h
  obtain ⟨da, db, sa, sb, la, lb, hu, q⟩ := h
  obtain ⟨_, ra⟩ := sa.reads I.hok rx
  obtain ⟨_, rb⟩ := sb.reads I.hok ry
  exact SeqAt.rcAt_reads ra rb la lb hu _ _ _ _ ⟨.bl _, H, I, rfl, q⟩
theorem op_neD : OpR X (compareOp .NotEq) (rEqD X.A true) := by
  intro pins s σ H x y v u Q I rx ry h
  obtain ⟨da, db, sa, sb, la, lb, hu, q⟩ := h
  obtain ⟨_, ra⟩ := sa.reads I.hok rx
  obtain ⟨_, rb⟩ := sb.reads I.hok ry
  exact SeqAt.compareNe_reads ra rb la lb hu ⟨.bl _, H, I, rfl, q⟩
end
def Itn (n : Nat) (val : Nat → V → Prop) : It := ⟨fun i _ => i < n, fun i H x H' => H' = H ∧ val i x, fun i _ => i = n⟩
theorem turn_walks {P : Program} {w : World} {K : PySem.W.Frag} {x : Str} {p : Pos} {I : Addr} {n : Nat} {Pv : Nat → Value → Prop} {St : Nat → Heap → Prop} {val : Nat → V → Prop}
    (W : ∀ A' : Around, A'.handled = none → Walks P w A' I [I] [I] n Pv St) (ho : ∀ i h, St i h → ∃ o, h.get? I = some o ∧ ∀ v, o.data ≠ .cell v) (hv : ∀ i u, Pv i u → ∃ v, RelV v u ∧ val i v)
    (hself : ∀ (A : Around) (i : Nat) (s : Shared) (Q : Value → Shared → Prop) (E : Value → Shared → Prop), St i s.heap → Q (.ref I) s → wpAny (model P w) A (pyIter (.ref I)) Q E s) :
    Turn P w K (.Name x p) (Itn n val) [I] I St where
  mem := by simp
  obj := fun i h st b hb => by
    have e : b = I := by simpa using hb
    subst e
    exact ho i h st
  keep := fun i h h' st k => (W { handled := none, depth := 0, frames := none, guards := none, units := 0 } rfl).frame i h h' st k
  item := by
    intro X hP hw hK hc i pins s σ H E J hf st hg
    subst hP hw hK
    obtain ⟨f0, f1, f2, f3, f4, f5⟩ := hf I (by simp)
    refine (W X.A (J.ok.hd hc)).item i s _ _ hg st fun v h' tk hPv st' kk => ?_
    obtain ⟨y, ry, vy⟩ := hv i v hPv
    have J1 : Inv X pins σ H { s with heap := h', toks := tk } := J.turned (fun b o hb e => kk b o (by simpa using hb) e) f0 f1 f3 f4 f5
    exact ⟨v, rfl, wpAny_pure ⟨y, H, J1, ry, ⟨rfl, vy⟩, st', fun b hb => (hf b hb).1⟩⟩
  done := by
    intro X hP hw hK hc i pins s σ H E J hf st hg
    subst hP hw hK
    obtain ⟨f0, f1, f2, f3, f4, f5⟩ := hf I (by simp)
    have e : i = n := hg
    subst e
    exact (W X.A (J.ok.hd hc)).done s _ _ st fun h' tk kk => ⟨rfl, J.turned (fun b o hb e => kk b o (by simpa using hb) e) f0 f1 f3 f4 f5⟩
  self := hself
theorem strIter_obj {h : Heap} {I : Addr} {n : String} {x : Str} {t : Tok} {i : Nat} (st : h.IsStrIter I n x t i) : ∃ o, h.get? I = some o ∧ ∀ v, o.data ≠ .cell v := by
  obtain ⟨o, e, _, d⟩ := st
  exact ⟨o, e, fun v z => by rw [d] at z; cases z⟩
section
variable {X : Cx}
def ItS (z : Str) : It := Itn z.cps.size fun i v => ∃ c, z.cps[i]? = some c ∧ v = .str ⟨#[c]⟩
def iStr (tl : TE) : TI := fun σ H R => tl σ H fun x H1 => ∃ z, x = .str z ∧ R (ItS z) H1
theorem signAt_V {z : Str} (i : Nat) (u : Value) (h : SignAt z i u) : ∃ v, RelV v u ∧ ∃ c, z.cps[i]? = some c ∧ v = .str ⟨#[c]⟩ := by
  obtain ⟨c, t, e, rfl⟩ := h
  exact ⟨.str ⟨#[c]⟩, ⟨t, rfl⟩, c, e, rfl⟩
theorem pi_str {l : Expr} {tl : TE} {x : Str} {p : Pos} (hl : PE X l tl) : PI X (.Name x p) l (iStr tl) := by
  intro pins s σ H R I h
  refine thn (hl pins s σ H _ I h) fun v s1 ⟨y, H1, I1, r1, q1⟩ => ?_
  obtain ⟨z, rfl, q⟩ := q1
  obtain ⟨t, rfl⟩ := r1
  have fin : ∀ (o : Obj), Inv X pins σ H1 { s1 with heap := s1.heap.push o } := fun o => I1.kept (t' := s1.toks) fun b o e => Heap.get?_push_of_some _ e
  have ff : ∀ b ∈ [s1.heap.objs.size], FpOk X pins H1 b := fun b hb => by
    have e : b = s1.heap.objs.size := by simpa using hb
    subst e
    exact I1.fpOk (Nat.le_refl _) I1.fresh
  cases ha : z.cps.all (· < 128)
  · refine wpAny_pyIter_wide ha ⟨s1.heap.objs.size, [s1.heap.objs.size], _, ItS z, H1, rfl, fin _, turn_walks (fun A' hA => Walks.strWide hA _ z t) (fun i h st => strIter_obj st) signAt_V (fun A i s Q E st h => wpAny_pyIter_striter_wide st h), ⟨_, Heap.get?_push_size _ rfl, rfl, rfl⟩, ff, q⟩
  · refine wpAny_pyIter_ascii ha ⟨s1.heap.objs.size, [s1.heap.objs.size], _, ItS z, H1, rfl, fin _, turn_walks (fun A' hA => Walks.strAscii hA _ z t) (fun i h st => strIter_obj st) signAt_V (fun A i s Q E st h => wpAny_pyIter_striter_ascii st h), ⟨_, Heap.get?_push_size _ rfl, rfl, rfl⟩, ff, q⟩
def rSlS : V → Option Int → Option Int → Hp → VK → Prop := fun x lo hi H Q => ∃ z : Str, x = .str z ∧ z.length ≤ sizeLine ∧ Q (.str (Txt.slice z lo hi)) H
theorem sl_str : SlR X rSlS := by
  intro pins s σ H x v vl vu lo hi sl Q I rx hs pl pu h
  obtain ⟨z, rfl, hz, q⟩ := h
  obtain ⟨t, rfl⟩ := rx
  refine ⟨"str", _, PySem.F.slot_str_getitem.lookup, typeIs_str _ _ _, ?_⟩
  obtain ⟨o, ho, hc, hd⟩ := hs
  have fin : ∀ t' k, EP X pins σ Q (.str (Txt.slice z lo hi) t') { s with toks := k } := fun t' k => ⟨.str _, H, I.tok _, ⟨t', rfl⟩, q⟩
  cases pl with
  | none =>
    cases pu with
    | none => exact wpAny_getItem_str_slice (l := none) (u := none) (st := none) ⟨o, ho, hc, hd⟩ rfl (post_val_or_str ⟨Nat.le_trans (Txt.slice_le z _ _) hz, fun t' k => fin t' k⟩)
    | int j tj => exact wpAny_getItem_str_slice (l := none) (u := some (j, tj)) (st := none) ⟨o, ho, hc, hd⟩ rfl (post_val_or_str ⟨Nat.le_trans (Txt.slice_le z _ _) hz, fun t' k => fin t' k⟩)
  | int i ti =>
    cases pu with
    | none => exact wpAny_getItem_str_slice (l := some (i, ti)) (u := none) (st := none) ⟨o, ho, hc, hd⟩ rfl (post_val_or_str ⟨Nat.le_trans (Txt.slice_le z _ _) hz, fun t' k => fin t' k⟩)
    | int j tj => exact wpAny_getItem_str_slice (l := some (i, ti)) (u := some (j, tj)) (st := none) ⟨o, ho, hc, hd⟩ rfl (post_val_or_str ⟨Nat.le_trans (Txt.slice_le z _ _) hz, fun t' k => fin t' k⟩)
end
open PySem.Builtin PySem.Builtin.Str in
theorem slice_codes (z : Str) (a b : Nat) (hab : a ≤ b) (hb : b ≤ z.length) : (Txt.slice z (some (a : Int)) (some (b : Int))).cps.toList = (z.cps.toList.drop a).take (b - a) := by
  unfold Txt.slice
  have e := StrLaws.sliced_plain z hab hb
  split
  · rename_i h
    rw [StrLaws.strSliceIndices_plain hab hb] at h
    simp only [List.length_map, List.length_range, Bool.and_eq_true, beq_iff_eq] at h
    have h2 : b - a = z.length := h.2
    have ha : a = 0 := by omega
    subst ha
    have hz : z.cps.toList.length = z.length := by simp [Str.length]
    rw [List.drop_zero, List.take_of_length_le (by omega)]
  · rw [e]
end L2
set_option Elab.async false
set_option maxHeartbeats 4000000
namespace L2
open PySem PySem.Spec PyProof.Rows
def relabelS (scope outer : Scope) : List (Str × NameKind) :=
  scope.names.map fun (n, k) => if (k == .free && outer.kind == .function && outer.names.lookup n == some .cell) then (n, .cell) else (n, k)
def compOk (outer scope : Scope) (N N' : List Str) (nl : Nat) (ix : List Nat) : Bool :=
  (scope.kind == .function && scope.names.all fun x => x.2 != .cell && (x.2 != .local || scope.names.lookup x.1 == some .local) && (x.2 != .free || outer.names.lookup x.1 == some .cell)) &&
  (N'.length == nl + ix.length && (List.range ix.length).all fun k => match ix[k]? with
    | none => false
    | some j => match N[j]? with
      | none => false
      | some x => N'[nl + k]? == some x && outer.names.lookup x == some .cell && (relabelS scope outer).lookup x == some .cell && decide ((x, NameKind.free) ∈ scope.names))
theorem comp_of {X : Cx} {outer scope : Scope} {N N' : List Str} {nl : Nat} {ix : List Nat} (h1 : X.env.scope = outer) (h2 : X.N = N) (h : compOk outer scope N N' nl ix = true) : CompScope X scope ∧ Capt X scope N' nl ix := by
  unfold compOk at h
  simp only [Bool.and_eq_true, List.all_eq_true, beq_iff_eq, bne_iff_ne, Bool.or_eq_true, ne_eq, List.mem_range] at h
  obtain ⟨⟨hk, ha⟩, hl, hb⟩ := h
  have kd : ∀ x, X.env.kindOf x = outer.names.lookup x := fun x => by rw [← h1]; rfl
  refine ⟨⟨hk, fun x hx => (ha x hx).1.1, fun x hx e => ?_, fun x hx e => ?_⟩, ⟨hl, fun k j e => ?_⟩⟩
  · rcases (ha x hx).1.2 with z | z
    · exact absurd e z
    · exact z
  · rcases (ha x hx).2 with z | z
    · exact absurd e z
    · rw [kd]; exact z
  · have hk' : k < ix.length := (List.getElem?_eq_some_iff.mp e).1
    have q := hb k hk'
    rw [e] at q
    simp only at q
    cases ex : N[j]? with
    | none => rw [ex] at q; simp at q
    | some x =>
      rw [ex] at q
      simp only [Bool.and_eq_true, beq_iff_eq, decide_eq_true_eq] at q
      obtain ⟨⟨⟨q1, q2⟩, q3⟩, q4⟩ := q
      refine ⟨x, by rw [h2]; exact ex, q1, by rw [kd]; exact q2, ?_, q4⟩
      have er : (relabel scope X.env).names = relabelS scope outer := by rw [← h1]; rfl
      rw [er]; exact q3
def Nx (n i : Nat) (p : Prop) : Prop := ∃ m', m' < n - i ∧ m' = n - (i + 1) ∧ i + 1 ≤ n ∧ p
theorem nx {n i : Nat} {p : Prop} (h : i < n) (q : p) : Nx n i p := ⟨n - (i + 1), by omega, rfl, h, q⟩
def CompTurn (nl : Nat) (ix : List Nat) (g : TG) (tf : TT) (te : TE) (σ : St) (D : Addr) (ys : List V) (H : Hp) (x : V) (nxt : List V → Hp → Prop) : Prop :=
  g x (capt nl ix σ) H fun σ4 H4 => (σ4.length = (capt nl ix σ).length ∧ σ4.drop nl = ix.map fun j => (σ[j]?).join) ∧ tf σ4 H4 fun b H5 =>
    if b = true then te σ4 H5 fun y H6 => H6 D = some (.lst ys) ∧ ys.length < sizeLine ∧ nxt (ys ++ [y]) (upd H6 D (.lst (ys ++ [y]))) else nxt ys H5
def CompW (nl : Nat) (ix : List Nat) (g : TG) (tf : TT) (te : TE) (σ : St) (J : It) (H1 : Hp) (D : Addr) (Q : VK) : Prop :=
  ∃ W : Nat → Nat → List V → Hp → Prop, (∃ m, W 0 m [] (upd H1 D (.lst []))) ∧
  ∀ i m ys H2, W i m ys H2 → H2 D = some (.lst ys) ∧ ((J.stop i H2 ∧ Q (.ref D) H2) ∨ (J.go i H2 ∧ ∀ x H3, J.yld i H2 x H3 → CompTurn nl ix g tf te σ D ys H3 x fun ys' H' => ∃ m', m' < m ∧ W (i + 1) m' ys' H'))
theorem lcomp_eq (nl : Nat) (ix : List Nat) (wi : TI) (g : TG) (tf : TT) (te : TE) (σ : St) (H : Hp) (Q : VK) (h : wi σ H fun J H1 => ∀ D, H1 D = none → CompW nl ix g tf te σ J H1 D Q) : tLComp nl ix wi g tf te σ H Q := h
section
variable {nl : Nat} {ix : List Nat} {g : TG} {tf : TT} {te : TE} {σ : St} {H1 : Hp} {D : Addr} {Q : VK} (Pv : Nat → List V → Hp → Prop)
theorem comp_n {J : It} {n : Nat} (h0 : Pv 0 [] (upd H1 D (.lst []))) (hD : ∀ i ys H, Pv i ys H → H D = some (.lst ys)) (go : ∀ i ys H, i < n → Pv i ys H → J.go i H) (stop : ∀ ys H, Pv n ys H → J.stop n H)
    (hs : ∀ i ys H x H', i < n → Pv i ys H → J.yld i H x H' → CompTurn nl ix g tf te σ D ys H' x fun ys' H' => Nx n i (Pv (i + 1) ys' H'))
    (hd : ∀ ys H, Pv n ys H → Q (.ref D) H) : CompW nl ix g tf te σ J H1 D Q := by
  refine ⟨fun i m ys H => m = n - i ∧ i ≤ n ∧ Pv i ys H, ⟨n, by simp, Nat.zero_le _, h0⟩, ?_⟩
  rintro i m ys H ⟨rfl, hi, p⟩
  refine ⟨hD i ys H p, ?_⟩
  by_cases hlt : i < n
  · exact .inr ⟨go i ys H hlt p, fun x H' y => hs i ys H x H' hlt p y⟩
  · have e : i = n := by omega
    subst e
    exact .inl ⟨stop ys H p, hd ys H p⟩
theorem comp_range {lo : Int} {n : Nat} (h0 : Pv 0 [] (upd H1 D (.lst []))) (hD : ∀ i ys H, Pv i ys H → H D = some (.lst ys))
    (hs : ∀ i ys H, i < n → Pv i ys H → CompTurn nl ix g tf te σ D ys H (.int (lo + i)) fun ys' H' => Nx n i (Pv (i + 1) ys' H')) (hd : ∀ ys H, Pv n ys H → Q (.ref D) H) : CompW nl ix g tf te σ (Itr lo n) H1 D Q := by
  refine comp_n (n := n) Pv h0 hD (fun _ _ _ hi _ => hi) (fun _ _ _ => Nat.le_refl _) (fun i ys H x H' hi p y => ?_) hd
  obtain ⟨e, y⟩ := y
  subst e y
  exact hs i ys H' hi p
theorem comp_list {K : PySem.W.Frag} {a : Addr} {xs : List V} (h0 : Pv 0 [] (upd H1 D (.lst []))) (hD : ∀ i ys H, Pv i ys H → H D = some (.lst ys)) (hl : ∀ i ys H, Pv i ys H → SqL K H a xs)
    (hs : ∀ i ys H x, xs[i]? = some x → Pv i ys H → CompTurn nl ix g tf te σ D ys H x fun ys' H' => Nx xs.length i (Pv (i + 1) ys' H')) (hd : ∀ ys H, Pv xs.length ys H → Q (.ref D) H) : CompW nl ix g tf te σ (Itl K a) H1 D Q := by
  refine comp_n (n := xs.length) Pv h0 hD (fun i ys H hi p => ⟨xs, xs[i], hl i ys H p, by simp [hi]⟩) (fun ys H p => ⟨xs, hl _ ys H p, Nat.le_refl _⟩) (fun i ys H x H' hi p y => ?_) hd
  obtain ⟨e, y⟩ := y
  subst e
  exact hs i ys H' x (y xs (hl i ys H' p)) p
theorem comp_str {z : Str} (h0 : Pv 0 [] (upd H1 D (.lst []))) (hD : ∀ i ys H, Pv i ys H → H D = some (.lst ys))
    (hs : ∀ i ys H c, z.cps[i]? = some c → Pv i ys H → CompTurn nl ix g tf te σ D ys H (.str ⟨#[c]⟩) fun ys' H' => Nx z.cps.size i (Pv (i + 1) ys' H')) (hd : ∀ ys H, Pv z.cps.size ys H → Q (.ref D) H) : CompW nl ix g tf te σ (ItS z) H1 D Q := by
  refine comp_n (n := z.cps.size) Pv h0 hD (fun _ _ _ hi _ => hi) (fun _ _ _ => rfl) (fun i ys H x H' hi p y => ?_) hd
  obtain ⟨e, c, ec, ex⟩ := y
  subst e ex
  exact hs i ys H' c ec p
end
end L2
namespace L2
open PySem PySem.Spec PyProof.Rows
section
variable {X : Cx} {K : PySem.W.Frag}
theorem ix_listK (hK : X.K = K) : IxR X (rIxL K) := by subst hK; exact ix_list
theorem call_lenK (hK : X.K = K) : CallR X (.builtin "len") (fun xs H Q => ∃ p ys, xs = [.ref p] ∧ (SqL K H p ys ∨ SqT K H p ys) ∧ Q (.int ys.length) H) := by subst hK; exact call_len_seq
theorem call_listK (hK : X.K = K) : CallR X (.type "list") (fun xs H Q => ∃ p ys, xs = [.ref p] ∧ (SqL K H p ys ∨ SqT K H p ys) ∧ ∀ l, H l = none → Q (.ref l) (upd H l (.lst ys))) := by subst hK; exact call_list_of
theorem pg_tupK {pos : Pos} {es : List Expr} {k : Nat} {t : TGs} {n : Nat} (hK : X.K = K) (hc : X.calm = true) (h : PGs X es t) (hn : (assignEach es X.env).length = n := by rfl) (hst : (assignEach es X.env).findIdx? (·.1) = none := by rfl) : PG X (.Tuple es k pos) (gTup K n t) := by
  subst hK
  exact pg_tup hc h hn hst
end
end L2
namespace L2
open PySem PySem.Spec PyProof.Rows
theorem turn_name {nl : Nat} {ix : List Nat} {te : TE} {σ : St} {D : Addr} {ys : List V} {H : Hp} {x : V} {nxt : List V → Hp → Prop} {i : Nat} (h1 : ((capt nl ix σ).set i (some x)).drop nl = ix.map fun j => (σ[j]?).join)
    (h : te ((capt nl ix σ).set i (some x)) H fun y H6 => H6 D = some (.lst ys) ∧ ys.length < sizeLine ∧ nxt (ys ++ [y]) (upd H6 D (.lst (ys ++ [y])))) : CompTurn nl ix (gName i) tYes te σ D ys H x nxt := by
  unfold CompTurn gName tYes
  dsimp only
  rw [if_pos rfl]
  exact ⟨⟨by simp, h1⟩, h⟩
end L2
set_option Elab.async false
set_option maxHeartbeats 4000000
namespace L2
open PySem PySem.Spec PyProof.Rows
section
variable {X : Cx}
theorem call_isinst : CallR X (.builtin "isinstance") (fun xs H Q => ∃ (x : V) (T : String) (t : Value) (b : Bool), xs = [x, .ty T] ∧ TyOf X.K H x t ∧ PySem.W.kitOne X.K t (.type T) = some b ∧ Q (.bl b) H) := by
  intro pins s σ H xs us Q I r h
  obtain ⟨x, T, t, b, rfl, ty, e, q⟩ := h
  obtain ⟨u, v, rfl, rx, ry⟩ := vals2 r
  cases ry
  exact isinst_ok I rx ty e fun tk => ⟨.bl b, H, I.tok _, rfl, q⟩
theorem kit_same (K : PySem.W.Frag) (n : String) : PySem.W.kitOne K (.type n) (.type n) = some true := by
  unfold PySem.W.kitOne
  rw [if_pos (by simp)]
end
end L2
set_option Elab.async false
set_option maxHeartbeats 4000000
namespace L2
open PySem PySem.Spec PyProof.Rows
def leS (a b : Str) : Prop := ltCps b.cps.toList a.cps.toList = false
theorem leS_iff {a b : Str} : leS a b ↔ a.cps.toList ≤ b.cps.toList := by
  unfold leS
  rw [ltCps_eq]
  constructor
  · intro h
    exact List.not_lt.mp (of_decide_eq_false h)
  · intro h
    exact decide_eq_false (List.not_lt.mpr h)
theorem leS_antisymm {a b : Str} (h1 : leS a b) (h2 : leS b a) : a = b := by
  have e := List.le_antisymm (leS_iff.mp h1) (leS_iff.mp h2)
  cases a; cases b
  simp only at e
  rw [Str.mk.injEq]
  exact Array.toList_inj.mp e
theorem leS_trans {a b c : Str} (h1 : leS a b) (h2 : leS b c) : leS a c := leS_iff.mpr (List.le_trans (leS_iff.mp h1) (leS_iff.mp h2))
theorem risingS_all : ∀ {l : List Str} {p : Str}, risingS p l = true → (∀ x ∈ l, leS p x) ∧ l.Pairwise leS
  | [], p, _ => ⟨(fun x hx => nomatch hx), List.Pairwise.nil⟩
  | y :: r, p, h => by
    have h' : (!ltCps y.cps.toList p.cps.toList && risingS y r) = true := h
    rw [Bool.and_eq_true, Bool.not_eq_true'] at h'
    obtain ⟨i1, i2⟩ := risingS_all h'.2
    have py : leS p y := h'.1
    refine ⟨fun x hx => ?_, List.Pairwise.cons i1 i2⟩
    rcases List.mem_cons.mp hx with rfl | hx
    · exact py
    · exact leS_trans py (i1 x hx)
theorem sortedS_pairwise : ∀ {l : List Str}, sortedS l = true → l.Pairwise leS
  | [], _ => List.Pairwise.nil
  | _ :: _, h => let ⟨a, b⟩ := risingS_all h; List.Pairwise.cons a b
theorem sorted_one : ∀ {l1 l2 : List Str}, l1.Pairwise leS → l2.Pairwise leS → l1.Perm l2 → l1 = l2
  | [], l2, _, _, p => (List.nil_perm.mp p).symm ▸ rfl
  | a :: r, [], _, _, p => absurd p.length_eq (by simp)
  | a :: r, b :: t, h1, h2, p => by
    have ab : leS a b := by
      rcases List.mem_cons.mp (p.mem_iff.mpr List.mem_cons_self : b ∈ a :: r) with e | hb
      · subst e; exact leS_iff.mpr (List.le_refl _)
      · exact (List.pairwise_cons.mp h1).1 b hb
    have ba : leS b a := by
      rcases List.mem_cons.mp (p.mem_iff.mp List.mem_cons_self : a ∈ b :: t) with e | ha
      · subst e; exact leS_iff.mpr (List.le_refl _)
      · exact (List.pairwise_cons.mp h2).1 a ha
    have e := leS_antisymm ab ba
    subst e
    rw [sorted_one (List.pairwise_cons.mp h1).2 (List.pairwise_cons.mp h2).2 p.cons_inv]
end L2
namespace L2
open PySem PySem.Spec PyProof.Rows
theorem turn_two {K : PySem.W.Frag} {nl : Nat} {ix : List Nat} {te : TE} {σ : St} {D : Addr} {ys : List V} {H : Hp} {x : V} {nxt : List V → Hp → Prop} {i j : Nat} (a : Addr) (v1 v2 : V) (hx : x = .ref a) (hs : SqT K H a [v1, v2])
    (h1 : (((capt nl ix σ).set i (some v1)).set j (some v2)).drop nl = ix.map fun j => (σ[j]?).join)
    (h : te (((capt nl ix σ).set i (some v1)).set j (some v2)) H fun y H6 => H6 D = some (.lst ys) ∧ ys.length < sizeLine ∧ nxt (ys ++ [y]) (upd H6 D (.lst (ys ++ [y])))) :
    CompTurn nl ix (gTup K 2 (gCons (gName i) (gCons (gName j) gNil))) tYes te σ D ys H x nxt := by
  subst hx
  unfold CompTurn gTup gCons gName gNil tYes
  dsimp only
  refine ⟨a, [v1, v2], rfl, hs, rfl, v1, [v2], rfl, v2, [], rfl, rfl, ⟨by simp, h1⟩, ?_⟩
  rw [if_pos rfl]
  exact h
end L2
set_option Elab.async false
set_option maxHeartbeats 4000000
namespace L2
open PySem PySem.Spec PyProof.Rows
open PySem.Builtin PySem.Builtin.Str in
theorem idx_to (j n : Nat) : strSliceIndices none (some (j : Int)) 1 n = strSliceIndices (some ((0 : Nat) : Int)) (some ((min j n : Nat) : Int)) 1 n := by
  unfold strSliceIndices
  have h1 : ¬ ((j : Int) < 0) := by omega
  have h2 : ¬ (((min j n : Nat) : Int) < 0) := by omega
  have h3 : ¬ (((0 : Nat) : Int) < 0) := by omega
  simp only [h1, h2, h3, if_false, show ((1 : Int) > 0) = True from by simp, if_true]
  congr 1 <;> omega
open PySem.Builtin PySem.Builtin.Str in
theorem idx_from (i n : Nat) : strSliceIndices (some (i : Int)) none 1 n = strSliceIndices (some ((min i n : Nat) : Int)) (some ((n : Nat) : Int)) 1 n := by
  unfold strSliceIndices
  have h1 : ¬ ((i : Int) < 0) := by omega
  have h2 : ¬ (((min i n : Nat) : Int) < 0) := by omega
  have h3 : ¬ (((n : Nat) : Int) < 0) := by omega
  simp only [h1, h2, h3, if_false, show ((1 : Int) > 0) = True from by simp, if_true]
  congr 1 <;> omega
theorem slice_to (z : Str) (j : Nat) : (Txt.slice z none (some (j : Int))).cps.toList = z.cps.toList.take j := by
  have e : Txt.slice z none (some (j : Int)) = Txt.slice z (some ((0 : Nat) : Int)) (some ((min j z.length : Nat) : Int)) := by
    unfold Txt.slice
    rw [idx_to]
  rw [e, slice_codes z 0 (min j z.length) (Nat.zero_le _) (Nat.min_le_right _ _), List.drop_zero, Nat.sub_zero]
  have hz : z.cps.toList.length = z.length := by simp [Str.length]
  by_cases h : j ≤ z.length
  · rw [Nat.min_eq_left h]
  · rw [Nat.min_eq_right (by omega), List.take_of_length_le (by omega), List.take_of_length_le (by omega)]
theorem slice_from (z : Str) (i : Nat) : (Txt.slice z (some (i : Int)) none).cps.toList = z.cps.toList.drop i := by
  have e : Txt.slice z (some (i : Int)) none = Txt.slice z (some ((min i z.length : Nat) : Int)) (some ((z.length : Nat) : Int)) := by
    unfold Txt.slice
    rw [idx_from]
  have hz : z.cps.toList.length = z.length := by simp [Str.length]
  rw [e, slice_codes z (min i z.length) z.length (Nat.min_le_right _ _) (Nat.le_refl _)]
  by_cases h : i ≤ z.length
  · rw [Nat.min_eq_left h, List.take_of_length_le (by rw [List.length_drop]; omega)]
  · rw [Nat.min_eq_right (by omega), Nat.sub_self, List.take_zero, List.drop_of_length_le (by omega)]
theorem pigeon {α : Type} [DecidableEq α] : ∀ (n : Nat) (g : Nat → α) (l : List α), (∀ i j, i < n → j < n → g i = g j → i = j) → (∀ i, i < n → g i ∈ l) → n ≤ l.length
  | 0, _, _, _, _ => Nat.zero_le _
  | n + 1, g, l, inj, mem => by
    have hm := mem n (Nat.lt_succ_self n)
    have ih := pigeon n g (l.erase (g n)) (fun i j hi hj e => inj i j (by omega) (by omega) e) fun i hi => by
      have ne : g i ≠ g n := fun e => by have := inj i n (by omega) (by omega) e; omega
      exact (List.mem_erase_of_ne ne).mpr (mem i (by omega))
    have hl := List.length_erase_of_mem hm
    have hp : 0 < l.length := List.length_pos_of_mem hm
    omega
end L2
set_option Elab.async false
set_option maxHeartbeats 4000000
set_option maxRecDepth 100000
namespace L2
open PySem PySem.Spec PyProof.Rows
section
variable {M : Model} {A : Around} {E : Value → Shared → Prop} {s : Shared}
theorem perm_eraseIdx {α : Type} : ∀ (xs : List α) (i : Nat) (x : α), xs[i]? = some x → (x :: xs.eraseIdx i).Perm xs
  | [], _, _, h => by simp at h
  | y :: r, 0, x, h => by simp at h; subst h; exact .rfl
  | y :: r, i + 1, x, h => by
    have h' : r[i]? = some x := by simpa using h
    rw [List.eraseIdx_cons_succ]
    exact (List.Perm.swap y x _).trans ((perm_eraseIdx r i x h').cons y)
theorem pickGo_perm {α : Type} (next : Nat → Nat) : ∀ (fuel k : Nat) (left : List α) (out : Array α), left.length = fuel → (pickOrder.go next fuel k left out).toList.Perm (out.toList ++ left)
  | 0, k, left, out, h => by
    have e : left = [] := List.length_eq_zero_iff.mp h
    subst e
    unfold pickOrder.go
    simp
  | fuel + 1, k, left, out, h => by
    unfold pickOrder.go
    have hp : 0 < left.length := by omega
    have hi : next k % left.length < left.length := Nat.mod_lt _ hp
    rw [List.getElem?_eq_getElem hi]
    dsimp only
    refine (pickGo_perm next fuel (k + 1) _ _ (by rw [List.length_eraseIdx_of_lt hi]; omega)).trans ?_
    rw [Array.toList_push, List.append_assoc]
    exact (perm_eraseIdx left _ _ (List.getElem?_eq_getElem hi)).append_left _
theorem pickOrder_perm {α : Type} (next : Nat → Nat) (xs : Array α) : (pickOrder next xs).toList.Perm xs.toList := by
  unfold pickOrder
  simpa using pickGo_perm next xs.size 0 xs.toList #[] (by simp)
end
structure TxAt (prog : Program) (w : World) (h : Heap) (a : Addr) (es : Array (Int × Value)) (ep : Nat) (t : SetTable) : Prop where
  get : h.get? a = some { cls := .type "set", dict := none, data := .set es ep t, slots := #[] }
  el : ElemsOf (PySem.strKind prog w) es.toList
  bd : es.size < scanBound
  fit : t.fits es.size = true
  led : t.led = !w.params.followText "set-order"
  pl : t.plain = false ∨ es = #[]
def txOf (es : Array (Int × Value)) : List Str := es.toList.map fun e => strOf e.2
def TxSet (prog : Program) (w : World) (h : Heap) (a : Addr) (ss : List Str) : Prop := ∃ es ep t, TxAt prog w h a es ep t ∧ txOf es = ss ∧ ss.Nodup
section
variable {prog : Program} {w : World} {h h' : Heap} {a : Addr} {es : Array (Int × Value)} {ep : Nat} {t : SetTable} {ss : List Str}
theorem TxAt.at' (x : TxAt prog w h a es ep t) (k : ∀ o, h.get? a = some o → h'.get? a = some o) : TxAt prog w h' a es ep t := ⟨k _ x.get, x.el, x.bd, x.fit, x.led, x.pl⟩
theorem TxSet.at' (x : TxSet prog w h a ss) (k : ∀ o, h.get? a = some o → h'.get? a = some o) : TxSet prog w h' a ss := let ⟨es, ep, t, y, r⟩ := x; ⟨es, ep, t, y.at' k, r⟩
theorem TxSet.len (x : TxSet prog w h a ss) : ss.length < scanBound := by
  obtain ⟨es, ep, t, y, e, n⟩ := x
  subst e
  simpa [txOf] using y.bd
section
variable {A : Around} {E : Value → Shared → Prop} {s : Shared}
theorem nodup_perm_snoc {α : Type} {l : List α} {x : α} {l' : List α} (hn : l.Nodup) (hx : x ∉ l) (p : l'.Perm (l ++ [x])) : l'.Nodup := by
  refine p.nodup_iff.mpr ?_
  rw [List.nodup_append]
  refine ⟨hn, by simp, fun a ha b hb e => ?_⟩
  rw [List.mem_singleton.mp hb] at e
  exact hx (e ▸ ha)
end
end
end L2
set_option Elab.async false
set_option maxHeartbeats 4000000
set_option maxRecDepth 100000
namespace L2
open PySem PySem.Spec PyProof.Rows
theorem slot_si_next : Slot "set_iterator" "__next__" "set_iterator.__next__" :=
  .of (owner := "set_iterator") (n := "__next__") (by rw [typeLookup_type, builtinLookup_eq_fast]; kernel_rfl) (by decide +kernel) (by decide +kernel) (by decide +kernel)
    (by first | exact .inl (by decide +kernel) | exact .inr (by decide +kernel)) (by rw [isSubtype_type]; kernel_rfl)
theorem entry_si_next : entryFor table "set_iterator.__next__" = some Builtin.«set_iterator.__next__» := entryFor_of_tree (by kernel_rfl)
theorem owner_si : Manifest.owners.lookup (String.ofList ['r', 'o', 't', 'a', 'r', 'e', 't', 'i', '_', 't', 'e', 's'].reverse) = some Manifest.sig_set_iterator := by kernel_rfl
theorem args_si_next (a : Value) : argsOk "set_iterator.__next__" ⟨[a], []⟩ := by
  unfold argsOk; rw [signature?_of (id := "set_iterator.__next__") (n := ['_', '_', 't', 'x', 'e', 'n', '_', '_']) (o := ['r', 'o', 't', 'a', 'r', 'e', 't', 'i', '_', 't', 'e', 's']) (by kernel_rfl) owner_si]; kernel_rfl
theorem slot_si_iter : Slot "set_iterator" "__iter__" "set_iterator.__iter__" :=
  .of (owner := "set_iterator") (n := "__iter__") (by rw [typeLookup_type, builtinLookup_eq_fast]; kernel_rfl) (by decide +kernel) (by decide +kernel) (by decide +kernel)
    (by first | exact .inl (by decide +kernel) | exact .inr (by decide +kernel)) (by rw [isSubtype_type]; kernel_rfl)
theorem entry_si_iter : entryFor table "set_iterator.__iter__" = some Builtin.«dict_keyiterator.__iter__» :=
  entryFor_alias (id' := "dict_keyiterator.__iter__") (by kernel_rfl) rfl (by decide +kernel) (by kernel_rfl)
theorem args_si_iter (a : Value) : argsOk "set_iterator.__iter__" ⟨[a], []⟩ := by
  unfold argsOk; rw [signature?_of (id := "set_iterator.__iter__") (n := ['_', '_', 'r', 'e', 't', 'i', '_', '_']) (o := ['r', 'o', 't', 'a', 'r', 'e', 't', 'i', '_', 't', 'e', 's']) (by kernel_rfl) owner_si]; kernel_rfl
def SIter (h : Heap) (it a : Addr) (first : Value) (i n ep : Nat) : Prop :=
  ∃ o, h.get? it = some o ∧ o.cls = .type "set_iterator" ∧ o.data = .fields #[first, .int i 0, .ref a, .int n 0, .int ep 0]
theorem SIter.typeIs {s : Shared} {it a : Addr} {first : Value} {i n ep : Nat} (x : SIter s.heap it a first i n ep) : s.TypeIs (.ref it) "set_iterator" := let ⟨o, ho, hc, _⟩ := x; ⟨o, ho, hc⟩
theorem SIter.at' {h h' : Heap} {it a : Addr} {first : Value} {i n ep : Nat} (x : SIter h it a first i n ep) (k : ∀ o, h.get? it = some o → h'.get? it = some o) : SIter h' it a first i n ep := let ⟨o, ho, r⟩ := x; ⟨o, k _ ho, r⟩
section
variable {prog : Program} {w : World} {A : Around} {E : Value → Shared → Prop} {s : Shared} {a I : Addr} {es : Array (Int × Value)} {ep : Nat} {t : SetTable}
def sFirst (w : World) (es : Array (Int × Value)) (t : SetTable) (T : Addr) (i : Nat) : Value :=
  if w.params.followText "set-order" = true then .int 0 0 else if es.size > 1 then .ref T else if i = 0 then .int 0 0 else .int ((t.place.getD 0 0 + 1 : Nat) : Int) 0
def sOrder (w : World) (a : Addr) (es : Array (Int × Value)) (ep : Nat) (ps : List Nat) : List (Int × Value) :=
  if w.params.followText "set-order" = true then (pickOrder (w.params.setOrder a ep) es).toList else if es.size > 1 then ps.filterMap fun p => es[p]? else es.toList
structure SSt (prog : Program) (w : World) (a I T : Addr) (es : Array (Int × Value)) (ep : Nat) (t : SetTable) (ps : List Nat) (i : Nat) (h : Heap) : Prop where
  set : TxAt prog w h a es ep t
  it : SIter h I a (sFirst w es t T i) i es.size ep
  tup : w.params.followText "set-order" = false → es.size > 1 → IsTup h T (ps.map fun (p : Nat) => Value.int p 0).toArray
theorem filterMap_of_perm (es : Array (Int × Value)) {ps : List Nat} (h : ps.Perm (List.range es.size)) : (ps.filterMap fun p => es[p]?).Perm es.toList := by
  have := h.filterMap fun p => es[p]?
  rwa [filterMap_getElem?_range] at this
theorem filterMap_at (es : Array (Int × Value)) : ∀ (ps : List Nat), (∀ p ∈ ps, p < es.size) → ∀ i : Nat, (ps.filterMap fun p => es[p]?)[i]? = (ps[i]?).bind fun p => es[p]?
  | [], _, i => by simp
  | p :: r, h, i => by
    have hp : p < es.size := h p List.mem_cons_self
    rw [List.filterMap_cons_some (b := es[p]) (by simp [hp])]
    cases i with
    | zero => simp [hp]
    | succ i =>
      rw [List.getElem?_cons_succ, List.getElem?_cons_succ]
      exact filterMap_at es r (fun q hq => h q (List.mem_cons_of_mem _ hq)) i
theorem below_one (j k : Nat) (hk : k ≤ j) : SetTable.below #[j] k = 0 := by
  unfold SetTable.below
  simp only [List.size_toArray, List.length_cons, List.length_nil, Nat.zero_add]
  unfold SetTable.below.go
  rw [if_pos (by decide : 0 < 1)]
  simp only
  have : (0 + 1) / 2 = 0 := by decide
  rw [this]
  have e : (#[j] : Array Nat).getD 0 k = j := rfl
  rw [e, if_neg (by omega)]
  rfl
theorem below_one' (j : Nat) : SetTable.below #[j] (j + 1) = 1 := by
  unfold SetTable.below
  simp only [List.size_toArray, List.length_cons, List.length_nil, Nat.zero_add]
  unfold SetTable.below.go
  rw [if_pos (by decide : 0 < 1)]
  simp only
  have : (0 + 1) / 2 = 0 := by decide
  rw [this]
  have e : (#[j] : Array Nat).getD 0 (j + 1) = j := rfl
  rw [e, if_pos (by omega)]
  rfl
theorem below_nil (k : Nat) : SetTable.below #[] k = 0 := rfl
theorem stop_end {Q : Option Value → Shared → Prop} {s₁ : Shared} (hh : A.handled = none) (hQ : ∀ h', (∀ b o, s₁.heap.get? b = some o → h'.get? b = some o) → Q none { s₁ with heap := h' }) :
    wpAny (model prog w) A.in1 (do raiseNew (← newExc (.type "StopIteration") [])) (fun fin s' => ∃ r, fin = Fin.done (.ret r) ∧ wpAny (model prog w) A (match Except.ok (ε := Value) (some r) with | .ok (some v) => pure (some v) | .ok none => unsupported "x" | .error e => throw e) Q E s')
      (fun e s' => wpAny (model prog w) A (do if ← isInstance e (.type "StopIteration") then pure none else throw e) Q E s') s₁ := by
  refine wpAny_bind ?_
  simp only [newExc, newTuple]
  refine wpAny_bind (wpAny_newObj_type ?_ (by size_fits))
  refine wpAny_bind (m := firstArgMember _ _) (wpAny_of_eq (a := Value.none) (by first | rfl | (simp only [firstArgMember]; rfl)) ?_)
  refine wpAny_newObj_type ?_ (by size_fits)
  simp only [raiseNew]
  refine wpAny_bind (wpAny_handled ?_)
  rw [show A.in1.handled = none from hh]
  refine wpAny_bind (wpAny_pure (wpAny_throw ?_))
  refine wpAny_bind (wpAny_isInstance (T := "StopIteration") (b := true) ⟨_, Heap.get?_push_size _ rfl, rfl⟩ isSubtype_stop ?_)
  exact wpAny_pure (hQ _ fun b o e => Heap.get?_push_of_some _ (Heap.get?_push_of_some _ e))
end
end L2
set_option Elab.async false
set_option maxHeartbeats 4000000
set_option maxRecDepth 100000
namespace L2
open PySem PySem.Spec PyProof.Rows
def nextFew (es : Array (Int × Value)) (t : SetTable) (slot : Nat) : Option (Value × Nat) :=
  match es[SetTable.below t.place slot]?, t.place[SetTable.below t.place slot]? with
      | some (_, x), some j => some (x, j + 1)
      | _, _ => none
def ledIf (b : Bool) : Sem Unit := do
  if b then unsupported "set:maker-not-led"
theorem setWalk_eq (a : Addr) : setWalk a = (do
    let (es, epoch, t) ← setState a
    if ← setsByText then return pickOrder ((← ask).params.setOrder a epoch) es
    if (!t.plain && decide (es.size > 1)) then return (← drawOrder es.size es.toList).toArray
    ledIf (!t.led && decide (es.size > 1)) >>= fun _ => pure es) := rfl
theorem setNext_eq (a : Addr) (slot given epochThen : Nat) : setNext a slot given epochThen = (do
    let (es, epoch, t) ← setState a
    if ← setsByText then
      if epoch != epochThen then unsupported "set_iterator.__next__:elements-changed"
      return ((← setWalk a)[given]?).map fun e => (e.2, slot)
    if (!t.plain && decide (es.size > 1)) then unsupported "set_iterator.__next__:the-table-is-plain-no-more"
    ledIf (!t.led && !es.isEmpty) >>= fun _ => pure (nextFew es t slot)) := rfl
section
variable {prog : Program} {w : World} {A : Around} {E : Value → Shared → Prop} {s : Shared} {a I T : Addr} {es : Array (Int × Value)} {ep : Nat} {t : SetTable} {ps : List Nat}
theorem wpAny_setsByText {Q : Bool → Shared → Prop} (h : Q (w.params.followText "set-order") s) : wpAny (model prog w) A setsByText Q E s := by
  unfold setsByText
  exact wpAny_bind (wpAny_askSetting (wpAny_pure h))
theorem setWalk_text {Q : Array (Int × Value) → Shared → Prop} (x : TxAt prog w s.heap a es ep t) (ht : w.params.followText "set-order" = true) (h : Q (pickOrder (w.params.setOrder a ep) es) s) : wpAny (model prog w) A (setWalk a) Q E s := by
  rw [setWalk_eq]
  refine wpAny_bind (wpAny_setState_of x.get rfl x.fit ?_)
  dsimp only
  refine wpAny_bind (wpAny_setsByText ?_)
  rw [ht]
  simp only [if_true]
  exact wpAny_bind (wpAny_askSetting (wpAny_pure h))
theorem setNext_text {Q : Option (Value × Nat) → Shared → Prop} {given : Nat} (x : TxAt prog w s.heap a es ep t) (ht : w.params.followText "set-order" = true) (h : Q (((pickOrder (w.params.setOrder a ep) es)[given]?).map fun e => (e.2, 0)) s) :
    wpAny (model prog w) A (setNext a 0 given ep) Q E s := by
  rw [setNext_eq]
  refine wpAny_bind (wpAny_setState_of x.get rfl x.fit ?_)
  dsimp only
  refine wpAny_bind (wpAny_setsByText ?_)
  rw [ht]
  simp only [if_true, bne_self_eq_false, Bool.false_eq_true, if_false]
  refine wpAny_bind (setWalk_text x ht (wpAny_pure h))
theorem setNext_few {Q : Option (Value × Nat) → Shared → Prop} {slot given : Nat} (x : TxAt prog w s.heap a es ep t) (ht : w.params.followText "set-order" = false) (hs : ¬ es.size > 1)
    (h : Q (nextFew es t slot) s) :
    wpAny (model prog w) A (setNext a slot given ep) Q E s := by
  rw [setNext_eq]
  refine wpAny_bind (wpAny_setState_of x.get rfl x.fit ?_)
  dsimp only
  refine wpAny_bind (wpAny_setsByText ?_)
  have hl : t.led = true := by rw [x.led, ht]; rfl
  rw [ht]
  simp only [Bool.false_eq_true, if_false, decide_eq_false hs, Bool.and_false, hl, Bool.not_true, Bool.false_and, ledIf]
  exact wpAny_bind (wpAny_pure (wpAny_pure h))
theorem place_few (x : TxAt prog w s.heap a es ep t) (hs : ¬ es.size > 1) : (es = #[] ∧ t.place = #[]) ∨ ∃ e j, es = #[e] ∧ t.place = #[j] := by
  have hp : t.place.size = es.size := by
    have := x.fit
    simp only [SetTable.fits, Bool.and_eq_true, beq_iff_eq] at this
    exact this.1
  by_cases h0 : es.size = 0
  · exact .inl ⟨Array.size_eq_zero_iff.mp h0, Array.size_eq_zero_iff.mp (by omega)⟩
  · have h1 : es.size = 1 := by omega
    obtain ⟨e, he⟩ := Array.size_eq_one_iff.mp h1
    obtain ⟨j, hj⟩ := Array.size_eq_one_iff.mp (hp.trans h1)
    exact .inr ⟨e, j, he, hj⟩
theorem order_perm (hps : ps.Perm (List.range es.size)) : (sOrder w a es ep ps).Perm es.toList := by
  unfold sOrder
  split
  · exact pickOrder_perm _ _
  · split
    · exact filterMap_of_perm es hps
    · exact .rfl
end
end L2
set_option Elab.async false
set_option maxHeartbeats 4000000
set_option maxRecDepth 100000
namespace L2
open PySem PySem.Spec PyProof.Rows
section
variable {prog : Program} {w : World} {A : Around} {E : Value → Shared → Prop} {s : Shared} {a I T : Addr} {es : Array (Int × Value)} {ep : Nat} {t : SetTable} {ps : List Nat} {i : Nat}
theorem sit_set {f x : Value} {n : Nat} {Q : Unit → Shared → Prop} (hit : SIter s.heap I a f i n ep) (h : ∀ h', SIter h' I a x i n ep → Heap.SameBut I s.heap h' → Q () { s with heap := h' }) : wpAny (model prog w) A (setField (.ref I) 0 x) Q E s := by
  obtain ⟨o, ho, hc, hd⟩ := hit
  refine wpAny_setField ho hd (by simp) (h _ ⟨_, Heap.get?_update_self _ ho (Obj.isFreed_of_fields (Obj.data_mapFields hd _)), (Obj.cls_mapFields ..).trans hc, by rw [Obj.data_mapFields hd]; simp⟩ (Heap.SameBut.update ..))
theorem sit_go {f : Value} {n : Nat} {Q : Unit → Shared → Prop} (hit : SIter s.heap I a f i n ep) (h : ∀ h', SIter h' I a f (i + 1) n ep → Heap.SameBut I s.heap h' → Q () { s with heap := h' }) : wpAny (model prog w) A (setField (.ref I) 1 (rawInt ((i : Int) + 1))) Q E s := by
  obtain ⟨o, ho, hc, hd⟩ := hit
  refine wpAny_setField ho hd (by simp) (h _ ⟨_, Heap.get?_update_self _ ho (Obj.isFreed_of_fields (Obj.data_mapFields hd _)), (Obj.cls_mapFields ..).trans hc, by rw [Obj.data_mapFields hd]; simp [rawInt]⟩ (Heap.SameBut.update ..))
theorem sit_off {f : Value} {n : Nat} {Q : Unit → Shared → Prop} (hit : SIter s.heap I a f i n ep) (h : ∀ h', Heap.SameBut I s.heap h' → Q () { s with heap := h' }) : wpAny (model prog w) A (setField (.ref I) 2 .none) Q E s := by
  obtain ⟨o, ho, hc, hd⟩ := hit
  exact wpAny_setField ho hd (by simp) (h _ (Heap.SameBut.update ..))
theorem SSt.next {s' : Heap} (hit : SSt prog w a I T es ep t ps i s') (hI : a ≠ I) (hT : T ≠ I) (i' : Nat) {h' : Heap} (he : SIter h' I a (sFirst w es t T i') i' es.size ep) (k : ∀ b o, b ≠ I → s'.get? b = some o → h'.get? b = some o) : SSt prog w a I T es ep t ps i' h' :=
  ⟨hit.set.at' fun o e => k a o hI e, he, fun h1 h2 => by
    obtain ⟨o, e, c⟩ := hit.tup h1 h2
    exact ⟨o, k T o hT e, c⟩⟩
theorem next_head {Q : Option Value → Shared → Prop} (hst : SSt prog w a I T es ep t ps i s.heap)
    (h : wpAny (model prog w) A.in1 (match sFirst w es t T i with
    | Value.int slot tok => do
      match ← setNext a slot.toNat (i : Int).toNat (ep : Int).toNat with
        | some (x, next) => do
          setField (Value.ref I) 0 (rawInt (next : Nat))
          setField (Value.ref I) 1 (rawInt ((i : Int) + 1))
          ret x
        | none => do
          setField (Value.ref I) 2 Value.none
          raiseNew (← newExc (Value.type "StopIteration") [])
    | _ => do
      let some places ← seqItems? (sFirst w es t T i) | unsupported "internal:set_iterator"
      match places[(i : Int).toNat]? with
          | some (Value.int place tok) => do
            let x ← setNextDrawn a place.toNat (ep : Int).toNat
            setField (Value.ref I) 1 (rawInt ((i : Int) + 1))
            ret x
          | some _ => unsupported "internal:set_iterator"
          | none => do
            setField (Value.ref I) 0 (rawInt 0)
            setField (Value.ref I) 2 Value.none
            raiseNew (← newExc (Value.type "StopIteration") []))
    (fun fin s' => ∃ v, fin = Fin.done (Flow.ret v) ∧ wpAny (model prog w) A (pure (some v)) Q E s')
    (fun e s' =>
      wpAny (model prog w) A
        (do
          if ← isInstance e (Value.type "StopIteration") then pure none else throw e)
        Q E s')
    s) : wpAny (model prog w) A (pyNext (.ref I)) Q E s := by
  obtain ⟨o, ho, hc, hd⟩ := id hst.it
  obtain ⟨oc, odict, odata, oslots⟩ := o
  simp only at hc hd
  subst hc hd
  unfold pyNext
  refine wpAny_bind (wpAny_attempt (wpAny_callSpecial?_slot (name := Str.ofString "__next__") hst.it.typeIs slot_si_next
    (wpAny_call_entry slot_si_next hst.it.typeIs entry_si_next ?_ (args_si_next _))))
  unfold Builtin.«set_iterator.__next__»
  refine wpAny_bind (wpAny_pure ?_)
  refine wpAny_bind (wpAny_fieldsOf ho rfl ?_)
  dsimp only
  refine wpAny_bind (wpAny_setEntries_of hst.set.get rfl hst.set.fit ?_)
  simp only [bne_self_eq_false, Bool.false_eq_true, if_false]
  exact h
theorem setNextDrawn_of {Q : Value → Shared → Prop} {p : Nat} {e : Int × Value} (x : TxAt prog w s.heap a es ep t) (hp : es[p]? = some e) (h : Q e.2 s) : wpAny (model prog w) A (setNextDrawn a p ep) Q E s := by
  unfold setNextDrawn
  refine wpAny_bind (wpAny_setState_of x.get rfl x.fit ?_)
  simp only [bne_self_eq_false, Bool.false_eq_true, if_false, hp]
  exact wpAny_pure h
theorem sb_but {h h' : Heap} (x : Heap.SameBut I h h') : ∀ b o, b ≠ I → h.get? b = some o → h'.get? b = some o := fun b o hb e => (x.2 b hb).trans e
theorem set_next_item {Q : Option Value → Shared → Prop} (hst : SSt prog w a I T es ep t ps i s.heap) (hps : ps.Perm (List.range es.size)) (hI : a ≠ I) (hT : T ≠ I) (hi : i < es.size)
    (hQ : ∀ v h' tk, (sOrder w a es ep ps)[i]?.map (·.2) = some v → SSt prog w a I T es ep t ps (i + 1) h' → (∀ b o, b ≠ I → s.heap.get? b = some o → h'.get? b = some o) → Q (some v) { s with heap := h', toks := tk }) :
    wpAny (model prog w) A (pyNext (.ref I)) Q E s := by
  refine next_head hst ?_
  have ol : (sOrder w a es ep ps).length = es.size := by rw [(order_perm (w := w) (a := a) (ep := ep) hps).length_eq, Array.length_toList]
  obtain ⟨e, he⟩ : ∃ e, (sOrder w a es ep ps)[i]? = some e := ⟨_, List.getElem?_eq_getElem (by omega)⟩
  have hit := hst.it
  rw [Int.toNat_natCast, Int.toNat_natCast]
  cases hb : w.params.followText "set-order" with
  | true =>
    have ef : ∀ j, sFirst w es t T j = .int 0 0 := fun j => by unfold sFirst; rw [if_pos hb]
    rw [ef i] at hit ⊢
    dsimp only
    rw [Int.toNat_zero]
    refine wpAny_bind (setNext_text hst.set hb ?_)
    have e2 : (pickOrder (w.params.setOrder a ep) es)[i]? = some e := by
      unfold sOrder at he
      rw [if_pos hb, Array.getElem?_toList] at he
      exact he
    rw [e2]
    dsimp only [Option.map]
    refine wpAny_bind (sit_set (x := .int 0 0) hit fun h1 it1 k1 => ?_)
    refine wpAny_bind (sit_go it1 fun h2 it2 k2 => ?_)
    have k12 := (k1.trans k2)
    exact wpAny_pure ⟨_, rfl, wpAny_pure (hQ e.2 h2 s.toks (by rw [he]; rfl) (hst.next hI hT (i + 1) (by rw [ef]; exact it2) (sb_but k12)) (sb_but k12))⟩
  | false =>
    by_cases hs : es.size > 1
    · have ef : ∀ j, sFirst w es t T j = .ref T := fun j => by unfold sFirst; rw [if_neg (by rw [hb]; exact Bool.false_ne_true), if_pos hs]
      rw [ef i] at hit ⊢
      dsimp only
      obtain ⟨oT, hoT, hcT, nT, hdT⟩ := hst.tup hb hs
      have hlt : i < ps.length := by rw [hps.length_eq, List.length_range]; exact hi
      refine wpAny_bind (wpAny_seqItems hoT hdT ?_)
      dsimp only
      have e1 : (ps.map fun (p : Nat) => Value.int p 0).toArray[i]? = some (.int ps[i] 0) := by simp [hlt]
      rw [e1]
      dsimp only
      rw [Int.toNat_natCast]
      have pl : ∀ p ∈ ps, p < es.size := fun p hp => List.mem_range.mp (hps.mem_iff.mp hp)
      have e2 : es[ps[i]]? = some e := by
        unfold sOrder at he
        rw [if_neg (by rw [hb]; exact Bool.false_ne_true), if_pos hs, filterMap_at es ps pl i, List.getElem?_eq_getElem hlt] at he
        exact he
      refine wpAny_bind (setNextDrawn_of hst.set e2 ?_)
      refine wpAny_bind (sit_go hit fun h2 it2 k2 => ?_)
      exact wpAny_pure ⟨_, rfl, wpAny_pure (hQ e.2 h2 s.toks (by rw [he]; rfl) (hst.next hI hT (i + 1) (by rw [ef]; exact it2) (sb_but k2)) (sb_but k2))⟩
    · rcases place_few hst.set hs with ⟨e0, _⟩ | ⟨e0, j, ee, ej⟩
      · subst e0; simp at hi
      have i0 : i = 0 := by rw [ee] at hi; simp at hi; exact hi
      subst i0
      have ef0 : sFirst w es t T 0 = .int 0 0 := by unfold sFirst; rw [if_neg (by rw [hb]; exact Bool.false_ne_true), if_neg hs, if_pos rfl]
      have ef1 : sFirst w es t T 1 = .int ((j + 1 : Nat) : Int) 0 := by unfold sFirst; rw [if_neg (by rw [hb]; exact Bool.false_ne_true), if_neg hs, if_neg (by decide), ej]; rfl
      rw [ef0] at hit ⊢
      dsimp only
      rw [Int.toNat_zero]
      refine wpAny_bind (setNext_few hst.set hb hs ?_)
      have e2 : e = e0 := by
        unfold sOrder at he
        rw [if_neg (by rw [hb]; exact Bool.false_ne_true), if_neg hs, ee] at he
        simpa using he.symm
      have em : nextFew es t 0 = some (e0.2, j + 1) := by
        unfold nextFew
        rw [ej, below_one j 0 (Nat.zero_le _), ee]; rfl
      rw [em]
      dsimp only
      refine wpAny_bind (sit_set (x := .int ((j + 1 : Nat) : Int) 0) hit fun h1 it1 k1 => ?_)
      refine wpAny_bind (sit_go it1 fun h2 it2 k2 => ?_)
      have k12 := (k1.trans k2)
      exact wpAny_pure ⟨_, rfl, wpAny_pure (hQ e0.2 h2 s.toks (by rw [he, e2]; rfl) (hst.next hI hT 1 (by rw [ef1]; exact it2) (sb_but k12)) (sb_but k12))⟩
theorem set_next_done {Q : Option Value → Shared → Prop} (hh : A.handled = none) (hst : SSt prog w a I T es ep t ps es.size s.heap) (hps : ps.Perm (List.range es.size))
    (hQ : ∀ h' tk, (∀ b o, b ≠ I → s.heap.get? b = some o → h'.get? b = some o) → Q none { s with heap := h', toks := tk }) :
    wpAny (model prog w) A (pyNext (.ref I)) Q E s := by
  refine next_head hst ?_
  have hit := hst.it
  have fin : ∀ {h1 : Heap}, Heap.SameBut I s.heap h1 → wpAny (model prog w) A.in1 (do raiseNew (← newExc (.type "StopIteration") [])) (fun fin s' => ∃ v, fin = Fin.done (Flow.ret v) ∧ wpAny (model prog w) A (pure (some v)) Q E s')
      (fun e s' => wpAny (model prog w) A (do if ← isInstance e (Value.type "StopIteration") then pure none else throw e) Q E s') { s with heap := h1 } := fun {h1} k1 =>
    stop_end (s₁ := { s with heap := h1 }) hh fun h' k => hQ h' s.toks fun b o hb e => k b o (sb_but k1 b o hb e)
  rw [Int.toNat_natCast, Int.toNat_natCast]
  cases hb : w.params.followText "set-order" with
  | true =>
    have ef : ∀ j, sFirst w es t T j = .int 0 0 := fun j => by unfold sFirst; rw [if_pos hb]
    rw [ef] at hit ⊢
    dsimp only
    rw [Int.toNat_zero]
    refine wpAny_bind (setNext_text hst.set hb ?_)
    have e2 : (pickOrder (w.params.setOrder a ep) es)[es.size]? = none := by
      have := (pickOrder_perm (w.params.setOrder a ep) es).length_eq
      rw [Array.length_toList, Array.length_toList] at this
      exact Array.getElem?_eq_none (by omega)
    rw [e2]
    dsimp only [Option.map]
    exact wpAny_bind (sit_off hit fun h1 k1 => fin k1)
  | false =>
    by_cases hs : es.size > 1
    · have ef : ∀ j, sFirst w es t T j = .ref T := fun j => by unfold sFirst; rw [if_neg (by rw [hb]; exact Bool.false_ne_true), if_pos hs]
      rw [ef] at hit ⊢
      dsimp only
      obtain ⟨oT, hoT, hcT, nT, hdT⟩ := hst.tup hb hs
      refine wpAny_bind (wpAny_seqItems hoT hdT ?_)
      dsimp only
      have e1 : (ps.map fun (p : Nat) => Value.int p 0).toArray[es.size]? = none := by
        have := hps.length_eq
        rw [List.length_range] at this
        simp [this]
      rw [e1]
      dsimp only
      refine wpAny_bind (sit_set (x := .int 0 0) hit fun h1 it1 k1 => ?_)
      exact wpAny_bind (sit_off it1 fun h2 k2 => fin (k1.trans k2))
    · rcases place_few hst.set hs with ⟨ee, ej⟩ | ⟨e0, j, ee, ej⟩
      · have ef0 : sFirst w es t T es.size = .int 0 0 := by unfold sFirst; rw [if_neg (by rw [hb]; exact Bool.false_ne_true), if_neg hs, ee, if_pos (by simp)]
        rw [ef0] at hit ⊢
        dsimp only
        rw [Int.toNat_zero]
        refine wpAny_bind (setNext_few hst.set hb hs ?_)
        have em : nextFew es t 0 = none := by
          unfold nextFew
          rw [ej, below_nil, ee]; rfl
        rw [em]
        dsimp only
        exact wpAny_bind (sit_off hit fun h1 k1 => fin k1)
      · have ef1 : sFirst w es t T es.size = .int ((j + 1 : Nat) : Int) 0 := by unfold sFirst; rw [if_neg (by rw [hb]; exact Bool.false_ne_true), if_neg hs, ee, if_neg (by simp), ej]; rfl
        rw [ef1] at hit ⊢
        dsimp only
        rw [Int.toNat_natCast]
        refine wpAny_bind (setNext_few hst.set hb hs ?_)
        have em : nextFew es t (j + 1) = none := by
          unfold nextFew
          rw [ej, below_one', ee]; rfl
        rw [em]
        dsimp only
        exact wpAny_bind (sit_off hit fun h1 k1 => fin k1)
theorem si_self {Q : Value → Shared → Prop} {f : Value} {n : Nat} (hit : SIter s.heap I a f i n ep) (h : Q (.ref I) s) : wpAny (model prog w) A (pyIter (.ref I)) Q E s := by
  refine wpAny_pyIter_slot hit.typeIs slot_si_iter (wpAny_call_entry slot_si_iter hit.typeIs entry_si_iter ?_ (args_si_iter _))
  show wpAny _ _ (ret (.ref I)) _ _ s
  exact wpAny_pure ⟨_, rfl, "set_iterator", _, hit.typeIs, slot_si_next.lookup, h⟩
theorem Walks.set (hh : A.handled = none) (hI : a ≠ I) (hT : T ≠ I) (hps : ps.Perm (List.range es.size)) :
    Walks prog w A I [I, a, T] [I] es.size (fun i v => (sOrder w a es ep ps)[i]?.map (·.2) = some v) (fun i h => SSt prog w a I T es ep t ps i h) where
  sub := fun b hb => by simp at hb; simp [hb]
  frame := fun i h h' st hk => ⟨st.set.at' fun o e => hk a (by simp) o e, st.it.at' fun o e => hk I (by simp) o e, fun h1 h2 => let ⟨o, e, c⟩ := st.tup h1 h2; ⟨o, hk T (by simp) o e, c⟩⟩
  item := fun i s Q E hi st hQ => set_next_item st hps hI hT hi fun v h' tk e st' k => hQ v h' tk e st' fun b o hb q => k b o (fun z => hb (by simp [z])) q
  done := fun s Q E st hQ => set_next_done hh st hps fun h' tk k => hQ h' tk fun b o hb q => k b o (fun z => hb (by simp [z])) q
  self := fun i s Q E st hQ => si_self st.it hQ
end
end L2
set_option Elab.async false
set_option maxHeartbeats 4000000
set_option maxRecDepth 100000
namespace L2
open PySem PySem.Spec PyProof.Rows PySem.W
section
variable {prog : Program} {w : World} {A : Around} {E : Value → Shared → Prop} {s : Shared} {a I T : Addr} {es : Array (Int × Value)} {ep : Nat} {t : SetTable} {ps : List Nat} {i : Nat}
end
end L2
set_option Elab.async false
set_option maxHeartbeats 4000000
set_option maxRecDepth 100000
namespace L2
open PySem PySem.Spec PyProof.Rows
section
variable {prog : Program} {w : World} {A : Around} {R : Result → Shared → Prop} {I : Addr} {fp wr : List Addr} {G : Array GenState → Array GenState → Prop} {n : Nat} {P : Nat → Value → Prop} {St : Nat → Shared → Prop}
theorem TxSet.nd {h : Heap} {a : Addr} {ss : List Str} (x : TxSet prog w h a ss) : ss.Nodup := let ⟨_, _, _, _, _, n⟩ := x; n
end
section
variable {prog : Program} {w : World} {A : Around} {E : Value → Shared → Prop} {s : Shared}
end
end L2
set_option Elab.async false
set_option linter.all false
set_option maxHeartbeats 4000000
set_option maxRecDepth 100000
namespace L2
open PySem PySem.Spec PyProof.Rows
section
variable {X : Cx}
end
section
variable {prog : Program} {w : World} {A : Around} {R : Result → Shared → Prop} {s : Shared}
end
section
variable {X : Cx}
end
end L2
set_option Elab.async false
set_option linter.all false
set_option maxHeartbeats 4000000
set_option maxRecDepth 100000
namespace L2
open PySem PySem.Spec PyProof.Rows PySem.W
section
variable {X : Cx} {pins : List (Addr × Obj)} {σ : St} {H : Hp} {s : Shared} {a : Addr} {o : Obj} {kvs : List (Key × V)}
end
section
variable {X : Cx} {tg : Expr}
end
def DSame (A : Around) (H : Hp) (ka kb : List (Key × V)) : Prop := ka.length = kb.length ∧ ∀ k v, (k, v) ∈ ka → ∃ y da db, valV kb k = some y ∧ Sees H v da ∧ Sees H y db ∧ da.canLay0 = true ∧ db.canLay0 = true ∧ A.units + 1 + min da.depth db.depth < cLine ∧ PyData.eqv da db = true
section
variable {X : Cx}
end
end L2
set_option Elab.async false
set_option linter.all false
set_option maxHeartbeats 4000000
set_option maxRecDepth 100000
namespace L2
open PySem PySem.Spec PyProof.Rows
section
variable {nl : Nat} {ix : List Nat} {g : TG} {tf : TT} {tk tv : TE} {σ : St} {H1 : Hp} {D : Addr} {Q : VK} (Pv : Nat → List (Key × V) → Hp → Prop)
end
theorem turn_test {nl : Nat} {ix : List Nat} {te : TE} {tf : TT} {σ : St} {D : Addr} {ys : List V} {H : Hp} {x : V} {nxt : List V → Hp → Prop} {i : Nat} (h1 : ((capt nl ix σ).set i (some x)).drop nl = ix.map fun j => (σ[j]?).join)
    (h : tf ((capt nl ix σ).set i (some x)) H fun b H5 => if b = true then te ((capt nl ix σ).set i (some x)) H5 fun y H6 => H6 D = some (.lst ys) ∧ ys.length < sizeLine ∧ nxt (ys ++ [y]) (upd H6 D (.lst (ys ++ [y]))) else nxt ys H5) : CompTurn nl ix (gName i) tf te σ D ys H x nxt := by
  unfold CompTurn gName
  dsimp only
  exact ⟨⟨by simp, h1⟩, h⟩
structure CountMap (H : Hp) (kvs : List (Key × V)) (ks ls : List Str) : Prop where
  nd : (kvs.map (·.1)).Nodup
  mem : ∀ q, q ∈ kvs.map (·.1) ↔ ∃ x, q = Sum.inr x ∧ (x ∈ ks ∨ x ∈ ls)
  val : ∀ x v, (Sum.inr x, v) ∈ kvs → ∃ t : Addr, v = .ref t ∧ H t = some (.tup [.int ((ks.count x : Nat) : Int), .int ((ls.count x : Nat) : Int)])
theorem valV_mem {kvs : List (Key × V)} {k : Key} {v : V} (h : valV kvs k = some v) : (k, v) ∈ kvs := by
  unfold valV at h
  cases e : kvs.find? fun kv => decide (kv.1 = k) with
  | none => rw [e] at h; cases h
  | some p =>
    rw [e] at h
    have h' : p.2 = v := by simpa using h
    have hp := List.find?_some e
    have hk : p.1 = k := by simpa using hp
    have := List.mem_of_find?_eq_some e
    obtain ⟨p1, p2⟩ := p
    simp only at h' hk
    subst h' hk
    exact this
theorem valV_none {kvs : List (Key × V)} {k : Key} (h : valV kvs k = none) : k ∉ kvs.map (·.1) := by
  intro hm
  obtain ⟨p, hp, e⟩ := List.mem_map.mp hm
  unfold valV at h
  rw [Option.map_eq_none_iff] at h
  have := List.find?_eq_none.mp h p hp
  simp [e] at this
theorem keys_put (kvs : List (Key × V)) (k : Key) (v : V) : ((putK kvs k v).map (·.1) = kvs.map (·.1) ∧ k ∈ kvs.map (·.1)) ∨ ((putK kvs k v).map (·.1) = kvs.map (·.1) ++ [k] ∧ k ∉ kvs.map (·.1)) := by
  cases e : valV kvs k with
  | none =>
    rw [putK_new v e]
    exact .inr ⟨by simp, valV_none e⟩
  | some y =>
    have hm := valV_mem e
    have hk : k ∈ kvs.map (·.1) := List.mem_map.mpr ⟨_, hm, rfl⟩
    refine .inl ⟨?_, hk⟩
    unfold putK
    have ha : (kvs.any fun kv => decide (kv.1 = k)) = true := by rw [valV_any, e]; rfl
    rw [if_pos ha, List.map_map]
    apply List.map_congr_left
    intro p _
    show (if p.1 = k then (p.1, v) else p).1 = p.1
    split <;> rfl
theorem nodup_valV {kvs : List (Key × V)} (h : (kvs.map (·.1)).Nodup) {k : Key} {v : V} (hm : (k, v) ∈ kvs) : valV kvs k = some v := by
  induction kvs with
  | nil => cases hm
  | cons p r ih =>
    rw [List.map_cons, List.nodup_cons] at h
    rcases List.mem_cons.mp hm with e | hm
    · subst e; exact valV_pos rfl
    · rw [valV_neg (fun e => h.1 (by rw [e]; exact List.mem_map.mpr ⟨_, hm, rfl⟩))]
      exact ih h.2 hm
theorem nodup_put {kvs : List (Key × V)} (h : (kvs.map (·.1)).Nodup) (k : Key) (v : V) : ((putK kvs k v).map (·.1)).Nodup := by
  rcases keys_put kvs k v with ⟨e, _⟩ | ⟨e, n⟩
  · rw [e]; exact h
  · rw [e, List.nodup_append]
    refine ⟨h, by simp, fun a ha b hb z => ?_⟩
    rw [List.mem_singleton.mp hb] at z
    exact n (z ▸ ha)
theorem mem_put {kvs : List (Key × V)} (h : (kvs.map (·.1)).Nodup) {k j : Key} {v u : V} (hm : (j, u) ∈ putK kvs k v) : (j = k ∧ u = v) ∨ (j ≠ k ∧ (j, u) ∈ kvs) := by
  have e := nodup_valV (nodup_put h k v) hm
  rw [valV_put] at e
  by_cases hj : j = k
  · rw [if_pos hj] at e
    exact .inl ⟨hj, (Option.some.inj e).symm⟩
  · rw [if_neg hj] at e
    exact .inr ⟨hj, valV_mem e⟩
theorem keys_put_mem (kvs : List (Key × V)) (k : Key) (v : V) (q : Key) : q ∈ (putK kvs k v).map (·.1) ↔ q = k ∨ q ∈ kvs.map (·.1) := by
  rcases keys_put kvs k v with ⟨e, hk⟩ | ⟨e, _⟩
  · rw [e]
    exact ⟨.inr, fun z => z.elim (fun z => z ▸ hk) id⟩
  · rw [e, List.mem_append, List.mem_singleton]
    exact ⟨fun z => z.elim .inr .inl, fun z => z.elim .inr .inl⟩
def KeepT (H H' : Hp) : Prop := ∀ b xs, H b = some (.tup xs) → H' b = some (.tup xs)
theorem KeepT.upd {H : Hp} {a : Addr} {o : HO} (h : ∀ xs, H a ≠ some (.tup xs)) : KeepT H (L2.upd H a o) := fun b xs e => by
  rw [upd_ne (show b ≠ a from fun z => by subst z; exact h xs e)]; exact e
theorem KeepT.trans {H H1 H2 : Hp} (a : KeepT H H1) (b : KeepT H1 H2) : KeepT H H2 := fun c xs e => b c xs (a c xs e)
theorem CountMap.on {H H' : Hp} {kvs : List (Key × V)} {ks ls : List Str} (c : CountMap H kvs ks ls) (k : KeepT H H') : CountMap H' kvs ks ls :=
  ⟨c.nd, c.mem, fun x v h => let ⟨t, e, q⟩ := c.val x v h; ⟨t, e, k _ _ q⟩⟩
theorem CountMap.nil (H : Hp) : CountMap H [] [] [] := ⟨List.nodup_nil, fun q => ⟨(fun h => nomatch h), fun ⟨x, _, h⟩ => h.elim (fun z => nomatch z) fun z => nomatch z⟩, fun x v h => nomatch h⟩
theorem CountMap.put {H H' : Hp} {kvs : List (Key × V)} {ks ls ks' ls' : List Str} {x : Str} {t : Addr} (c : CountMap H kvs ks ls) (k : KeepT H H') (hm : ∀ y, (y ∈ ks' ∨ y ∈ ls') ↔ (y = x ∨ y ∈ ks ∨ y ∈ ls))
    (ho : ∀ y, y ≠ x → ks'.count y = ks.count y ∧ ls'.count y = ls.count y) (ht : H' t = some (.tup [.int ((ks'.count x : Nat) : Int), .int ((ls'.count x : Nat) : Int)])) : CountMap H' (putK kvs (Sum.inr x) (.ref t)) ks' ls' where
  nd := nodup_put c.nd _ _
  mem := fun q => by
    rw [keys_put_mem, c.mem]
    constructor
    · rintro (e | ⟨y, e, h⟩)
      · exact ⟨x, e, (hm x).mpr (.inl rfl)⟩
      · exact ⟨y, e, (hm y).mpr (.inr h)⟩
    · rintro ⟨y, e, h⟩
      rcases (hm y).mp h with z | z
      · exact .inl (by rw [e, z])
      · exact .inr ⟨y, e, z⟩
  val := fun y v h => by
    rcases mem_put c.nd h with ⟨e, ev⟩ | ⟨e, h⟩
    · cases e
      exact ⟨t, ev, ht⟩
    · have ne : y ≠ x := fun z => e (by rw [z])
      obtain ⟨t', e', q⟩ := c.val y v h
      obtain ⟨h1, h2⟩ := ho y ne
      rw [h1, h2]
      exact ⟨t', e', k _ _ q⟩
theorem CountMap.get {H : Hp} {kvs : List (Key × V)} {ks ls : List Str} (c : CountMap H kvs ks ls) (x : Str) {t0 : Addr} (h0 : H t0 = some (.tup [.int 0, .int 0])) :
    ∃ t : Addr, (valV kvs (Sum.inr x)).getD (.ref t0) = .ref t ∧ H t = some (.tup [.int ((ks.count x : Nat) : Int), .int ((ls.count x : Nat) : Int)]) := by
  cases e : valV kvs (Sum.inr x) with
  | some v =>
    obtain ⟨t, e', q⟩ := c.val x v (valV_mem e)
    exact ⟨t, e', q⟩
  | none =>
    have hn := valV_none e
    have hx : ¬ (x ∈ ks ∨ x ∈ ls) := fun z => hn ((c.mem _).mpr ⟨x, rfl, z⟩)
    have h1 : ks.count x = 0 := List.count_eq_zero.mpr fun z => hx (.inl z)
    have h2 : ls.count x = 0 := List.count_eq_zero.mpr fun z => hx (.inr z)
    exact ⟨t0, rfl, by rw [h1, h2]; exact h0⟩
theorem CountMap.same {A : Around} {H : Hp} {ka kb : List (Key × V)} {ks ls ks' ls' : List Str} (a : CountMap H ka ks ls) (b : CountMap H kb ks' ls') (hk : ∀ x, ks.count x = ks'.count x) (hl : ∀ x, ls.count x = ls'.count x) (hu : A.units + 1 + 1 < cLine) : DSame A H ka kb := by
  have m1 : ∀ x, x ∈ ks ↔ x ∈ ks' := fun x => by rw [← List.count_pos_iff, ← List.count_pos_iff, hk]
  have m2 : ∀ x, x ∈ ls ↔ x ∈ ls' := fun x => by rw [← List.count_pos_iff, ← List.count_pos_iff, hl]
  have hm : ∀ q, q ∈ ka.map (·.1) ↔ q ∈ kb.map (·.1) := fun q => by
    rw [a.mem, b.mem]
    exact ⟨fun ⟨x, e, h⟩ => ⟨x, e, h.elim (fun z => .inl ((m1 x).mp z)) fun z => .inr ((m2 x).mp z)⟩, fun ⟨x, e, h⟩ => ⟨x, e, h.elim (fun z => .inl ((m1 x).mpr z)) fun z => .inr ((m2 x).mpr z)⟩⟩
  refine ⟨?_, fun k v h => ?_⟩
  · have p : (ka.map (·.1)).Perm (kb.map (·.1)) := (List.perm_ext_iff_of_nodup a.nd b.nd).mpr hm
    have := p.length_eq
    simpa using this
  · have hk1 : k ∈ ka.map (·.1) := List.mem_map.mpr ⟨_, h, rfl⟩
    obtain ⟨x, e, _⟩ := (a.mem k).mp hk1
    subst e
    obtain ⟨p, hp, e⟩ := List.mem_map.mp ((hm _).mp hk1)
    obtain ⟨p1, y⟩ := p
    simp only at e
    subst e
    obtain ⟨t, ev, ht⟩ := a.val x v h
    obtain ⟨t', ey, ht'⟩ := b.val x y hp
    subst ev ey
    rw [← hk x, ← hl x] at ht'
    refine ⟨_, .tuple [.int ((ks.count x : Nat) : Int), .int ((ls.count x : Nat) : Int)], .tuple [.int ((ks.count x : Nat) : Int), .int ((ls.count x : Nat) : Int)], nodup_valV b.nd hp, .tup ht (.cons (.int _) (.cons (.int _) .nil)), .tup ht' (.cons (.int _) (.cons (.int _) .nil)), rfl, rfl, ?_, ?_⟩
    · exact hu
    · simp [PyData.eqv, PyData.eqvAll]
end L2
set_option Elab.async false
set_option linter.all false
set_option maxHeartbeats 4000000
set_option maxRecDepth 100000
namespace L2
open PySem PySem.Spec PyProof.Rows
def tCut (t : TS) : TS := fun D σ H => ∃ N : St → Hp → Prop, (∀ σ' H', N σ' H' → D.nx σ' H') ∧ t { D with nx := N } σ H
theorem ps_cut {X : Cx} {st : Stmt} {t : TS} (h : PS X st t) : PS X st (tCut t) := by
  intro pins s σ H D I hw
  obtain ⟨N, hN, q⟩ := hw
  refine thn (h pins s σ H _ I q) fun f s1 q1 => ?_
  cases f with
  | next => obtain ⟨σ', H', I', n⟩ := q1; exact ⟨σ', H', I', hN _ _ n⟩
  | brk => exact q1
  | cont => exact q1
  | ret u => exact q1
theorem app_codes (a b : Str) : (a ++ b).cps.toList = a.cps.toList ++ b.cps.toList := by
  show (a.cps ++ b.cps).toList = _
  simp
theorem join_codes : ∀ ss : List Str, (Txt.join (Str.ofString "") ss).cps.toList = (ss.map (·.cps.toList)).flatten := by
  intro ss
  show (Builtin.Str.glued (PySem.Str.ofString "") ss).cps.toList = _
  rw [StrLaws.glued_eq_join]
  have e0 : (Str.ofString "").cps.toList = [] := by decide
  induction ss with
  | nil => rfl
  | cons a r ih =>
    cases r with
    | nil => simp [Str.join]
    | cons b r' =>
      have : Str.join (Str.ofString "") (a :: b :: r') = a ++ Str.ofString "" ++ Str.join (Str.ofString "") (b :: r') := rfl
      rw [this, app_codes, app_codes, e0, List.append_nil, ih]
      simp
end L2
set_option Elab.async false
set_option linter.all false
set_option maxHeartbeats 4000000
set_option maxRecDepth 100000
namespace L2
open PySem PySem.Spec PyProof.Rows
section
variable {X : Cx} {outer scope : Scope} {N N' : List Str} {nl : Nat} {ix : List Nat} {tg iter : Expr} {ifs : List Expr} {pos : Pos} {wi : TI} {g : TG} {tf : TT}
theorem pe_lc {elt : Expr} {te : TE} (h1 : X.env.scope = outer) (h2 : X.N = N) (hc : X.calm = true) (hi : PI X tg iter wi)
    (hg : ∀ C fp s₀ H₀, PG (X.comp scope N' C fp s₀ H₀) tg g) (hf : ∀ C fp s₀ H₀, PIf (X.comp scope N' C fp s₀ H₀) ifs tf) (he : ∀ C fp s₀ H₀, PE (X.comp scope N' C fp s₀ H₀) elt te)
    (hck : compOk outer scope N N' nl ix = true := by decide +kernel) (hs : ∀ x, foldedSetIterable iter X.env x = pure x := by intro _; rfl) : PE X (.ListComp elt [⟨tg, iter, ifs, 0⟩] scope pos) (tLComp nl ix wi g tf te) :=
  let ⟨S, Cp⟩ := comp_of h1 h2 hck
  pe_lcomp hc S Cp hi hg hf he hs
end
end L2
set_option Elab.async false
set_option linter.all false
set_option maxHeartbeats 4000000
set_option maxRecDepth 100000
namespace L2
open PySem PySem.Spec PyProof.Rows
section
variable {X : Cx} {pins : List (Addr × Obj)} {σ : St} {H : Hp} {s : Shared} {h' : Heap}
theorem Inv.turnedL {t' : Nat} {fp : List Addr} (I : Inv X pins σ H s) (k : ∀ b o, b ∉ fp → s.heap.get? b = some o → h'.get? b = some o) (hf : ∀ b ∈ fp, FpOk X pins H b) : Inv X pins σ H { s with heap := h', toks := t' } := by
  have nit : ∀ b u, H b = some u → b ∉ fp := fun b u e z => by have := (hf b z).1; rw [e] at this; cases this
  refine I.step (g' := s.gens) (d' := s.drawn) (ch := fp) (fun b hb => ?_) (fun b o _ _ hc e _ => k b o hc e) (fun b o _ _ hc e _ => ⟨o.slots, k b o hc e⟩) (fun _ _ _ _ n => n)
    (fun b o hc e => ⟨o, k b o hc e⟩) (fun _ _ e => e) (fun _ _ _ e => e) (fun b ps e => ⟨#[], by rw [e]; simp⟩) (fun m hm => ?_) (fun b u e => ?_) I.bare
  · obtain ⟨f0, f1, f2, f3, f4, f5⟩ := hf b hb
    exact ⟨f3, f1, f4, f5⟩
  · obtain ⟨o, es, ep, ho, r⟩ := hm
    exact ⟨o, es, ep, k _ o (fun z => (hf _ z).2.1 rfl) ho, r⟩
  · refine (I.hok b u e).stay (fun c v hc q => k c v ?_ q) (fun _ q => q) fun _ _ q => q
    rcases hc with z | z
    · rw [z]; exact nit b u e
    · exact nit c _ z
theorem Inv.turnedNew {t' : Nat} {fp : List Addr} {a : Addr} {o : HO} (I : Inv X pins σ H s) (k : ∀ b o, b ∉ fp → s.heap.get? b = some o → h'.get? b = some o) (hf : ∀ b ∈ fp, FpOk X pins H b) (hp : s.heap.objs.size ≤ a) (new : ObjOk X.prog X.w (upd H a o) h' a o) :
    Inv X pins σ (upd H a o) { s with heap := h', toks := t' } := by
  have ha : H a = none := I.hok.fresh hp
  have nit : ∀ b u, H b = some u → b ∉ fp := fun b u e z => by have := (hf b z).1; rw [e] at this; cases this
  have up : ∀ {b u}, H b = some u → upd H a o b = some u := fun {b u} e => by rw [upd_ne (ne_of_none e ha)]; exact e
  refine I.step (g' := s.gens) (d' := s.drawn) (ch := fp) (fun b hb => ?_) (fun b o _ _ hc e _ => k b o hc e) (fun b o _ _ hc e _ => ⟨o.slots, k b o hc e⟩) (fun b ob _ e n => ?_)
    (fun b o hc e => ⟨o, k b o hc e⟩) (fun _ _ e => up e) (fun _ _ _ e => up e) (fun b ps e => ⟨#[], by rw [up e]; simp⟩) (fun m hm => ?_) (fun b u e => ?_) I.bare
  · obtain ⟨f0, f1, f2, f3, f4, f5⟩ := hf b hb
    exact ⟨f3, f1, f4, f5⟩
  · rw [upd_ne (Nat.ne_of_lt (Nat.lt_of_lt_of_le (Heap.lt_size e) hp))]; exact n
  · obtain ⟨o, es, ep, ho, r⟩ := hm
    exact ⟨o, es, ep, k _ o (fun z => (hf _ z).2.1 rfl) ho, r⟩
  · by_cases hb : b = a
    · subst hb; rw [upd_same] at e; cases e; exact new
    · rw [upd_ne hb] at e
      refine (I.hok b u e).stay (fun c v hc q => k c v ?_ q) (fun _ q => up q) fun _ _ q => up q
      rcases hc with z | z
      · rw [z]; exact nit b u e
      · exact nit c _ z
end
def ItE (K : PySem.W.Frag) (a : Addr) : It :=
  ⟨fun i H => ∃ xs x, SqL K H a xs ∧ xs[i]? = some x, fun i H x H' => ∃ T v, x = .ref T ∧ H T = none ∧ H' = upd H T (.tup [.int (i : Int), v]) ∧ ∀ xs, SqL K H a xs → xs[i]? = some v, fun i H => ∃ xs, SqL K H a xs ∧ xs.length ≤ i⟩
theorem turn_enum {P : Program} {w : World} {K : PySem.W.Frag} {es : List Expr} {kk : Nat} {tp : Pos} (a e it : Addr) (hei : e ≠ it) : Turn P w K (.Tuple es kk tp) (ItE K a) [e, it] e (fun i h => (∃ old, IsEnum h e it (i : Int) old) ∧ h.IsListIter it a i) where
  mem := by simp
  obj := fun i h st b hb => by
    obtain ⟨⟨old, he⟩, hi⟩ := st
    rcases List.mem_cons.mp hb with z | hb
    · rw [z]; exact ⟨_, he, fun v z => by cases z⟩
    · rw [List.mem_singleton.mp hb]
      obtain ⟨o, e, c, d⟩ := hi
      exact ⟨o, e, fun v z => by rw [d] at z; cases z⟩
  keep := fun i h h' st k => ⟨let ⟨old, he⟩ := st.1; ⟨old, k e (by simp) _ he⟩, st.2.at fun o e => k it (by simp) o e⟩
  item := by
    intro X hP hw hK hc i pins s σ H E I hf st hg
    subst hP hw hK
    obtain ⟨xs, x, hq, hx⟩ := hg
    obtain ⟨its, rv, p, hz⟩ := I.list hq
    obtain ⟨u, hu, ru⟩ := rv.get hx
    obtain ⟨⟨old, he⟩, hit⟩ := st
    refine wpAny_pyNext_enum_item he hit p.isList (x := u) (by simpa using hu) hei fun h' ho hit' hT hsz k => ?_
    have hh : ∀ b o, b ∉ [e, it] → s.heap.get? b = some o → h'.get? b = some o := fun b o hb q => k b o (fun z => hb (by simp [z])) (fun z => hb (by simp [z])) q
    refine ⟨_, rfl, wpAny_letOwnedTupleGo_enum ho fun h2 he2 hs2 => ?_⟩
    have eT : s.heap.objs.size ≠ e := Nat.ne_of_gt (Heap.lt_size he)
    have hT2 : h2.get? s.heap.objs.size = some { cls := .type "tuple", data := .seq #[.int i s.toks, u] } := (hs2.2 _ eT).trans hT
    have hh2 : ∀ b o, b ∉ [e, it] → s.heap.get? b = some o → h2.get? b = some o := fun b o hb q => (hs2.2 b (fun z => hb (by simp [z]))).trans (hh b o hb q)
    have I2 := I.turnedNew (t' := s.toks + 1) (h' := h2) (o := .tup [.int (i : Int), x]) hh2 hf (Nat.le_refl _) ⟨by show 2 ≤ sizeLine; decide, [.int i s.toks, u], .cons ⟨_, rfl⟩ (.cons ru .nil), _, hT2, rfl, _, rfl⟩
    have fr : H s.heap.objs.size = none := I.fresh
    refine ⟨.ref s.heap.objs.size, _, I2, rfl, ⟨_, x, rfl, fr, rfl, fun ys hy => by rw [I.list_inj hy hq]; exact hx⟩, ⟨⟨_, by simpa using he2⟩, hit'.at fun o q => (hs2.2 it (Ne.symm hei)).trans q⟩, fun b hb => ?_⟩
    have hlt : b < s.heap.objs.size := by
      rcases List.mem_cons.mp hb with z | hb
      · rw [z]; exact Heap.lt_size he
      · rw [List.mem_singleton.mp hb]; obtain ⟨o, q, _⟩ := hit; exact Heap.lt_size q
    rw [upd_ne (Nat.ne_of_lt hlt)]
    exact (hf b hb).1
  done := by
    intro X hP hw hK hc i pins s σ H E I hf st hg
    subst hP hw hK
    obtain ⟨xs, hq, hx⟩ := hg
    obtain ⟨its, rv, p, hz⟩ := I.list hq
    obtain ⟨⟨old, he⟩, hit⟩ := st
    have hl := rv.length
    exact wpAny_pyNext_enum_end (I.ok.hd hc) he hit p.isList (by simp; omega) fun h' eb => ⟨rfl, I.turnedL (t' := s.toks) (fun b o hb q => eb b o (fun z => hb (by simp [z])) q) hf⟩
  self := fun _ _ _ _ _ st h => let ⟨⟨_, he⟩, _⟩ := st; wpAny_pyIter_enum he h
def iEnum (K : PySem.W.Frag) (ta : TA) : TI := fun σ H R => ta σ H fun vs H1 => ∃ a, vs = [.ref a] ∧ (∃ xs, SqL K H1 a xs) ∧ R (ItE K a) H1
section
variable {X : Cx}
theorem boot_enumerate : bootBuiltins "enumerate" = some (.type "enumerate") := by decide +kernel
theorem pi_enum {a : Expr} {ta : TA} {p pos : Pos} {es : List Expr} {kk : Nat} {tp : Pos} (hg : Gl X "enumerate") (hm : X.mg "enumerate" = none) (ha : PA X [a] ta) (hs : starEach [a] X.env = [(false, eval a X.env)] := by rfl) : PI X (.Tuple es kk tp) (.Call (.Name "enumerate" p) [a] [] pos) (iEnum X.K ta) := by
  intro pins s σ H R I h
  refine Call_ (ld_blt I hg hm boot_enumerate (PyProof.Rows.callWith_type1 (thn (ha pos pins s σ H _ I h) fun us s1 ⟨vs, H1, I1, r1, q1⟩ => ?_) hs rfl))
  obtain ⟨a, e, ⟨xs, hq⟩, q⟩ := q1
  subst e
  obtain ⟨u, rfl, ru⟩ := vals1 r1
  cases ru
  obtain ⟨its, rv, p, hz⟩ := I1.list hq
  refine call_enumerate_list p.isList fun h' he hi hsz k => ?_
  have I2 : Inv X pins σ H1 { s1 with heap := h' } := I1.kept (t' := s1.toks) k
  refine wpAny_pyIter_enum he ⟨s1.heap.objs.size + 1, [s1.heap.objs.size + 1, s1.heap.objs.size], _, ItE X.K a, H1, rfl, I2, turn_enum a _ _ (Nat.succ_ne_self _), ⟨⟨_, he⟩, hi⟩, fun b hb => ?_, q⟩
  rcases List.mem_cons.mp hb with z | hb
  · rw [z]; exact I1.fpOk (Nat.le_succ _) (I1.hok.fresh (Nat.le_succ _))
  · rw [List.mem_singleton.mp hb]; exact I1.fpOk (Nat.le_refl _) I1.fresh
end
theorem for_enum {K : PySem.W.Frag} {a : Addr} {xs : List V} {g : TG} {tb : TS} {D : Ends} {σ : St} {H : Hp} (Pv : Nat → St → Hp → Prop) (h0 : Pv 0 σ H) (hl : ∀ i σ H, i ≤ xs.length → Pv i σ H → SqL K H a xs)
    (hs : ∀ i x σ H T, xs[i]? = some x → Pv i σ H → H T = none → g (.ref T) σ (upd H T (.tup [.int (i : Int), x])) fun σ2 H2 => tb { D with nx := Pv (i + 1), ct := Pv (i + 1), bk := D.nx } σ2 H2) (hd : ∀ σ H, Pv xs.length σ H → D.nx σ H) :
    ∃ W : Nat → Nat → St → Hp → Prop, (∃ m, W 0 m σ H) ∧ ∀ i m σ H, W i m σ H →
      ((ItE K a).stop i H ∧ D.nx σ H) ∨ ((ItE K a).go i H ∧ ∃ N : St → Hp → Prop, (∀ σ' H', N σ' H' → ∃ m', m' < m ∧ W (i + 1) m' σ' H') ∧ ∀ x H', (ItE K a).yld i H x H' → g x σ H' fun σ2 H2 => tb { D with nx := N, ct := N, bk := D.nx } σ2 H2) := by
  refine ⟨fun i m σ H => m = xs.length - i ∧ i ≤ xs.length ∧ Pv i σ H, ⟨xs.length, by simp, Nat.zero_le _, h0⟩, ?_⟩
  rintro i m σ H ⟨rfl, hi, p⟩
  have q := hl i σ H hi p
  by_cases hlt : i < xs.length
  · refine .inr ⟨⟨xs, xs[i], q, by simp [hlt]⟩, Pv (i + 1), fun σ' H' p' => ⟨xs.length - (i + 1), by omega, rfl, hlt, p'⟩, fun x H' y => ?_⟩
    obtain ⟨T, v, ex, hT, eH, hv⟩ := y
    subst ex eH
    exact hs i v σ H T (hv xs q) p hT
  · have e : i = xs.length := by omega
    subst e
    exact .inl ⟨⟨xs, q, Nat.le_refl _⟩, hd σ H p⟩
end L2
set_option Elab.async false
set_option linter.all false
set_option maxHeartbeats 4000000
set_option maxRecDepth 100000
namespace L2
open PySem PySem.Spec PyProof.Rows
section
variable {prog : Program} {w : World} {A : Around} {E : Value → Shared → Prop} {s : Shared}
end
section
variable {X : Cx}
variable {o e : Expr} {es : List Expr} {to : TE} {t : TA} {name : Str} {apos cpos : Pos} {T id : String} {r : V → List V → Hp → VK → Prop} {ty : V → Hp → Prop}
end
end L2
set_option Elab.async false
set_option linter.all false
set_option maxHeartbeats 4000000
set_option maxRecDepth 100000
namespace L2
open PySem PySem.Spec PyProof.Rows
section
variable {X : Cx} {K : PySem.W.Frag} {P : Program} {w : World}
theorem op_in_seqK (hK : X.K = K) : OpR X (compareOp .In) (rIn K false) := by subst hK; exact op_in_seq
end
end L2
set_option Elab.async false
set_option linter.all false
set_option maxHeartbeats 4000000
set_option maxRecDepth 100000
namespace L2
open PySem PySem.Spec PyProof.Rows
section
variable {X : Cx}
theorem ps_setC0 {i : Nat} {x : Str} {pos' spos : Pos} {elt tg iter : Expr} {ifs : List Expr} {scope : Scope} {pos : Pos} {N' : List Str} {nl : Nat} {ix : List Nat} {wi : TI} {g : TG} {tf : TT} {te : TE} (hN : X.N.Nodup) (hi' : X.N[i]? = some x) (hx : Loc X.env.scope x)
    (hc : X.calm = true) (S : CompScope X scope) (Cp : Capt X scope N' nl ix) (hi : PI X tg iter wi)
    (hg : ∀ C fp s₀ H₀, PG (X.comp scope N' C fp s₀ H₀) tg g) (hf : ∀ C fp s₀ H₀, PIf (X.comp scope N' C fp s₀ H₀) ifs tf) (he : ∀ C fp s₀ H₀, PE (X.comp scope N' C fp s₀ H₀) elt te)
    (hsw : swapsWith (.ListComp elt [⟨tg, iter, ifs, 0⟩] scope pos) (some (.Name x pos')) spos.line X.env = pure true)
    (hs : ∀ x, foldedSetIterable iter X.env x = pure x) (hfn : X.fn x = true ∨ X.env.scope.names.lookup x = some .local) : PS X (.Assign [.Name x pos'] (.ListComp elt [⟨tg, iter, ifs, 0⟩] scope pos) spos) (tAsg (tLComp nl ix wi g tf te) (gName i)) := by
  intro pins s σ H D I h
  rw [exec_Assign_Name_used _ _ _ _ hsw]
  refine wpAny_bind (wpAny_standAt (wpAny_bind ?_))
  show wpAny _ X.A (do let _ ← comprehension (.ListComp elt [⟨tg, iter, ifs, 0⟩] scope pos) scope X.env _ (newList []) false (eval iter X.env) (some (assign (.Name x pos') X.env))) _ _ s
  refine wpAny_bind (wpAny_mono (wpAny_comprehension_free (use := some (assign (.Name x pos') X.env)) (cl := clOf X.env scope.names []) (Q := fun _ s' => ∃ σ' H', Inv X pins σ' H' s' ∧ D.nx σ' H') rfl hs (closure_of (S.cells I.ok)) S.kind S.loc ?_) (fun _ s' hq => wpAny_pure (wpAny_pure hq)) fun _ _ e => e)
  refine thn (hi pins s σ H _ I h) fun v s1 h1 => thn h1 fun itv s2 h2 => ?_
  obtain ⟨it, fp, tn, J, H2, rfl, I2, T, st2, f2, h2⟩ := h2
  obtain ⟨W, ⟨m0, w0⟩, turn⟩ := h2 s2.heap.objs.size I2.fresh
  refine wpAny_newObj_type (wpAny_newFunctionEnv S.nocell (by intro y hy; simp at hy) (fun h₁ hns₁ hsb₁ => ?_) S.kind)
  dsimp only at hns₁ hsb₁ ⊢
  have fpo : ∀ b ∈ fp, b < s2.heap.objs.size := fun b hb => by
    obtain ⟨o, e, _⟩ := T.obj 0 _ st2 b hb
    exact Heap.lt_size e
  have I3 : Inv X pins σ (upd H2 s2.heap.objs.size (.lst [])) { s2 with heap := s2.heap.push { cls := .type "list", data := .seq ([] : List Value).toArray }, toks := s2.toks } := I2.lnew .nil (Nat.zero_le _)
  have hD : (upd H2 s2.heap.objs.size (.lst [])) s2.heap.objs.size = some (.lst []) := upd_same
  have f3 : ∀ b ∈ fp, FpOk X pins (upd H2 s2.heap.objs.size (.lst [])) b := fun b hb => by
    refine ⟨?_, (f2 b hb).2⟩
    rw [upd_ne (Nat.ne_of_lt (fpo b hb))]
    exact (f2 b hb).1
  generalize hS3 : s2.heap.push { cls := .type "list", dict := none, data := .seq ([] : List Value).toArray } = g3 at hns₁ hsb₁ I3 ⊢
  have sz3 : g3.objs.size = s2.heap.objs.size + 1 := by rw [← hS3, Heap.size_push]
  have fpo3 : ∀ b ∈ fp, b < ({ s2 with heap := g3, toks := s2.toks } : Shared).heap.objs.size := fun b hb => by
    show b < g3.objs.size
    rw [sz3]
    exact Nat.lt_succ_of_lt (fpo b hb)
  have old : ∀ b o, g3.get? b = some o → h₁.get? b = some o := fun b o e => hsb₁.extBut b o (Nat.ne_of_lt (Heap.lt_size e)) (Heap.get?_push_of_some _ e)
  have I4 := capt_inv (tk := s2.toks + ([] : List (Str × Value)).length) S Cp I3 f3 fpo3 hns₁ old
  generalize hX : X.comp scope N' g3.objs.size fp { s2 with heap := g3, toks := s2.toks } (upd H2 s2.heap.objs.size (.lst [])) = X' at *
  have hPr : X'.prog = X.prog := by rw [← hX]; rfl
  have hWr : X'.w = X.w := by rw [← hX]; rfl
  have hKr : X'.K = X.K := by rw [← hX]; rfl
  have hAr : X'.A = X.A := by rw [← hX]; rfl
  have hCa : X'.calm = true := by rw [← hX]; exact hc
  have hXe : X'.xe = fun _ _ => False := by rw [← hX]; rfl
  have hEx : X'.ex = fp := by rw [← hX]; rfl
  have hPn : X'.pn = [] := by rw [← hX]; rfl
  have hLo : X'.env.locals = g3.objs.size := by rw [← hX]; rfl
  have hEn : X'.env = compEnvC scope (clOf X.env scope.names []) g3.objs.size X.env := by rw [← hX]; rfl
  have hg' := hg g3.objs.size fp { s2 with heap := g3, toks := s2.toks } (upd H2 s2.heap.objs.size (.lst []))
  have hf' := hf g3.objs.size fp { s2 with heap := g3, toks := s2.toks } (upd H2 s2.heap.objs.size (.lst []))
  have he' := he g3.objs.size fp { s2 with heap := g3, toks := s2.toks } (upd H2 s2.heap.objs.size (.lst []))
  rw [hX] at hg' hf' he'
  have I4' : Inv X' [] (capt nl ix σ) (upd H2 s2.heap.objs.size (.lst [])) { s2 with heap := h₁, toks := s2.toks + ([] : List (Str × Value)).length } := I4
  have back : ∀ {H' : Hp} {σ' : St} {pins' : List (Addr × Obj)} {s' : Shared} {h' : Heap}, Inv X' pins' σ' H' s' → Heap.SameBut g3.objs.size s'.heap h' → Inv X pins σ H' { s' with heap := h' } := fun I' sb => by
    subst hX
    exact comp_back I3 f3 I' sb
  have stat : ∀ {H' : Hp}, (∀ b ∈ fp, H' b = none) → ∀ b ∈ fp, FpOk X' [] H' b := fun hn b hb => by
    refine ⟨hn b hb, ?_, ?_, .inl (by rw [hEx]; exact hb), ?_, fun p hp => by rw [hPn] at hp; cases hp⟩
    · rw [hLo]; exact Nat.ne_of_lt (fpo3 b hb)
    · exact I4'.ok.exfs b (by rw [hEx]; exact hb)
    · exact (I4'.ok.exf b (by rw [hEx]; exact hb)).2
  have loop : codeAny (model X.prog X.w) X.A (.compLoop (.ListComp elt [⟨tg, iter, ifs, 0⟩] scope pos) 0 (.ref it) (.ref s2.heap.objs.size) X'.env)
      (compPost (model X.prog X.w) X.A X.xe (some (assign (.Name x pos') X.env)) (fun _ s' => ∃ σ' H', Inv X pins σ' H' s' ∧ D.nx σ' H') (.ref s2.heap.objs.size) g3.objs.size) { s2 with heap := h₁, toks := s2.toks + ([] : List (Str × Value)).length } := by
    rw [← hPr, ← hWr, ← hAr]
    refine compLoop_L (fun n s' => ∃ i ys H', Inv X' [] (capt nl ix σ) H' s' ∧ tn i s'.heap ∧ (∀ b ∈ fp, H' b = none) ∧ W i n ys H') ?_ m0
      ⟨0, [], _, I4', T.keep _ _ _ st2 (fun b hb o e => old b o (by rw [← hS3]; exact Heap.get?_push_of_some _ e)), fun b hb => (f3 b hb).1, w0⟩
    rintro n s5 ⟨i, ys, H5, I5, st5, fr5, w5⟩
    obtain ⟨hD5, alt⟩ := turn i n ys H5 w5
    rcases alt with ⟨stop, qn⟩ | ⟨go, step⟩
    · rw [hPr, hWr]
      refine thn (T.done X' hPr hWr hKr hCa i [] s5 _ H5 _ I5 (stat fr5) st5 stop) fun r s6 ⟨hr, I6⟩ => ?_
      subst hr
      obtain ⟨m, hn, _⟩ := I6.loc
      rw [hLo] at hn
      have I7 : Inv X pins σ H5 s6 := back I6 (Heap.SameBut.refl _ _)
      have nC : H5 g3.objs.size = none := by
        have := I6.free
        rw [hLo] at this
        exact this
      have fC : FpOk X pins H5 g3.objs.size := I3.fpOk (Nat.le_refl _) nC
      show wpAny _ _ (assign (.Name x pos') X.env (.ref s2.heap.objs.size)) _ _ _
      refine wpAny_assign_Name (store_ok2 I7 hN hi' hx (v := .ref s2.heap.objs.size) rfl (fun s8 I8 ⟨a8, sb8, ha8⟩ => ?_) hfn)
      have nCa : g3.objs.size ≠ a8 := by
        rcases ha8 with z | z
        · rw [z]; exact fC.2.1
        · exact fun q => fC.2.2.2.2.1 x a8 z q.symm
      refine ⟨m, hn.sameBut sb8 nCa, fun h' sb => ⟨_, H5, ?_, qn⟩⟩
      exact I8.turnedL (t' := s8.toks) (fp := [g3.objs.size]) (fun b o hb e => (sb.2 b (fun z => hb (by rw [z]; exact List.mem_singleton.mpr rfl))).trans e) (fun b hb => by rw [List.mem_singleton.mp hb]; exact fC)
    · have it5 := T.item X' hPr hWr hKr hCa i [] s5 _ H5 (fun _ _ => False) I5 (stat fr5) st5 go
      rw [← hPr, ← hWr] at it5
      refine thn it5 fun r s6 ⟨u, hr, h6⟩ => ?_
      subst hr
      refine thn h6 fun _ s7 ⟨x, H7, I7, r7, y7, st7, fr7⟩ => ?_
      have I7' := I7.pinned (stat fr7) (T.obj _ _ st7)
      have g7 := hg' _ s7 _ H7 x u _ I7' r7 (step x H7 y7)
      rw [hXe] at g7
      refine thn g7 fun _ s8 ⟨σ8, H8, I8, ⟨hl8, hd8⟩, q8⟩ => ?_
      have f8 := hf' _ s8 σ8 H8 _ I8 q8
      rw [hXe] at f8
      refine thn f8 fun ok s9 ⟨H9, I9, q9⟩ => ?_
      have again : ∀ {H10 : Hp} {s10 : Shared} {ys' : List V}, Inv X' ([] ++ pinsAt fp s7.heap) σ8 H10 s10 → (∃ m', m' < n ∧ W (i + 1) m' ys' H10) → ∃ m, m < n ∧ ∃ i ys H', Inv X' [] (capt nl ix σ) H' s10 ∧ tn i s10.heap ∧ (∀ b ∈ fp, H' b = none) ∧ W i m ys H' := fun {H10 s10 ys'} I10 ⟨m', hm, w'⟩ => by
        refine ⟨m', hm, i + 1, ys', H10, capt_weak I10.unpinned hl8 hd8, T.keep _ _ _ st7 fun b hb o e => (I10.pin (b, o) (List.mem_append_right _ (List.mem_append_right _ (mem_pinsAt hb e)))).1, fun b hb => ?_, w'⟩
        obtain ⟨o, e, d⟩ := T.obj _ _ st7 b hb
        exact (I10.pin (b, o) (List.mem_append_right _ (List.mem_append_right _ (mem_pinsAt hb e)))).2.1
      cases ok with
      | false =>
        rw [if_neg Bool.false_ne_true] at q9 ⊢
        exact again I9 q9
      | true =>
        rw [if_pos rfl] at q9 ⊢
        have e9 := he' _ s9 σ8 H9 _ I9 q9
        rw [hXe] at e9
        refine thn e9 fun xv s10 ⟨y, H10, I10, r10, hD10, hz, mw⟩ => ?_
        have a10 := mt_append (X := X') _ s10 σ8 H10 (.ref s2.heap.objs.size) [y] _ [xv] (fun _ H' => H' = upd H10 s2.heap.objs.size (.lst (ys ++ [y]))) I10 rfl (.cons r10 .nil) ⟨_, ys, y, rfl, rfl, hD10, hz, rfl⟩
        rw [hXe] at a10
        refine thn a10 fun _ s11 ⟨_, H11, I11, _, e11⟩ => ?_
        subst e11
        exact again I11 mw
  rw [hEn] at loop
  exact codeAny_compStart_list loop (T.self _ 0 _ _ _ (T.keep _ _ _ st2 (fun b hb o e => old b o (by rw [← hS3]; exact Heap.get?_push_of_some _ e))) loop)
theorem ps_setC {i : Nat} {x : Str} {pos' spos : Pos} {elt tg iter : Expr} {ifs : List Expr} {outer scope : Scope} {pos : Pos} {N N' : List Str} {nl : Nat} {ix : List Nat} {wi : TI} {g : TG} {tf : TT} {te : TE} (hN : X.N.Nodup) (hi' : X.N[i]? = some x) (hx : Loc X.env.scope x)
    (h1 : X.env.scope = outer) (h2 : X.N = N) (hc : X.calm = true) (hi : PI X tg iter wi)
    (hg : ∀ C fp s₀ H₀, PG (X.comp scope N' C fp s₀ H₀) tg g) (hf : ∀ C fp s₀ H₀, PIf (X.comp scope N' C fp s₀ H₀) ifs tf) (he : ∀ C fp s₀ H₀, PE (X.comp scope N' C fp s₀ H₀) elt te)
    (hsw : swapsWith (.ListComp elt [⟨tg, iter, ifs, 0⟩] scope pos) (some (.Name x pos')) spos.line X.env = pure true := by rfl)
    (hck : compOk outer scope N N' nl ix = true := by decide +kernel) (hs : ∀ x, foldedSetIterable iter X.env x = pure x := by intro _; rfl) (hfn : X.fn x = true ∨ X.env.scope.names.lookup x = some .local := by first | exact .inl rfl | exact .inr rfl | assumption) :
    PS X (.Assign [.Name x pos'] (.ListComp elt [⟨tg, iter, ifs, 0⟩] scope pos) spos) (tAsg (tLComp nl ix wi g tf te) (gName i)) :=
  let ⟨S, Cp⟩ := comp_of h1 h2 hck
  ps_setC0 hN hi' hx hc S Cp hi hg hf he hsw hs hfn
end
end L2
set_option Elab.async false
set_option linter.all false
set_option maxHeartbeats 4000000
set_option maxRecDepth 100000
namespace L2
open PySem PySem.Spec PyProof.Rows
section
variable {X : Cx} {K : PySem.W.Frag} {P : Program} {w : World}
end
end L2
set_option Elab.async false
set_option linter.all false
set_option maxHeartbeats 4000000
set_option maxRecDepth 100000
namespace L2
open PySem PySem.Spec PyProof.Rows
section
variable {X : Cx}
end
end L2
set_option Elab.async false
set_option linter.all false
set_option maxHeartbeats 4000000
set_option maxRecDepth 100000
namespace L2
open PySem PySem.Spec PyProof.Rows
section
variable {prog : Program} {w : World} {A : Around} {E : Value → Shared → Prop}
end
section
variable {X : Cx}
end
end L2
set_option Elab.async false
set_option linter.all false
set_option maxHeartbeats 4000000
set_option maxRecDepth 100000
namespace L2
open PySem PySem.Spec PyProof.Rows
abbrev dc2 (kx vx t1 i1 t2 i2 : Expr) (scope : Scope) (pos : Pos) : Expr := .DictComp kx vx [⟨t1, i1, [], 0⟩, ⟨t2, i2, [], 0⟩] scope pos
theorem compTurn_dict2a (kx vx t1 i1 t2 i2 : Expr) (scope : Scope) (pos : Pos) (it : Value) (D : Addr) (env : Env) :
    compTurn (dc2 kx vx t1 i1 t2 i2 scope pos) 0 it (.ref D) env = (do
      standAt i1.pos
      match ← pyNext it with
      | none => pure (.done .next)
      | some v =>
        letOwnedTupleGo t1 it v
        assign t1 env v
        let mut ok := true
        for c in ([] : List Expr) do
          if ok then ok ← isTrue c env (eval c env)
        if ok then
          let x ← eval i2 env
          standAt i2.pos
          let x ← foldedSetIterable i2 env x
          let _ ← runOwn (.compStart (dc2 kx vx t1 i1 t2 i2 scope pos) 1 (← holding [x] (pyIter x)) (.ref D) env) env
        again (.compLoop (dc2 kx vx t1 i1 t2 i2 scope pos) 0 it (.ref D) env)) := by rfl
theorem compTurn_dict2b (kx vx t1 i1 t2 i2 : Expr) (scope : Scope) (pos : Pos) (it : Value) (D : Addr) (env : Env) :
    compTurn (dc2 kx vx t1 i1 t2 i2 scope pos) 1 it (.ref D) env = (do
      standAt i2.pos
      match ← pyNext it with
      | none => pure (.done .next)
      | some v =>
        letOwnedTupleGo t2 it v
        assign t2 env v
        let mut ok := true
        for c in ([] : List Expr) do
          if ok then ok ← isTrue c env (eval c env)
        if ok then
          (do
            let kv ← eval kx env
            let vv ← holding [kv] (eval vx env)
            standAt { kx.pos with endLine := vx.pos.endLine, endCol := vx.pos.endCol }
            holding [kv, vv] (dictSet D kv vv))
        again (.compLoop (dc2 kx vx t1 i1 t2 i2 scope pos) 1 it (.ref D) env)) := by rfl
section
variable {prog : Program} {w : World} {A : Around} {R : Result → Shared → Prop} {s : Shared}
theorem compLoop_D2a {kx vx t1 i1 t2 i2 : Expr} {scope : Scope} {pos : Pos} {it : Value} {D : Addr} {env : Env} (hs2 : ∀ x, foldedSetIterable i2 env x = pure x) (I : Nat → Shared → Prop)
    (turn : ∀ n s, I n s → wpAny (model prog w) A (pyNext it) (fun r s₁ => match r with
      | none => R (.ok .next) s₁
      | some v => wpAny (model prog w) A (letOwnedTupleGo t1 it v) (fun _ s₁' => wpAny (model prog w) A (assign t1 env v) (fun _ s₂ =>
          wpAny (model prog w) A (eval i2 env) (fun x s₃ => wpAny (model prog w) A (pyIter x) (fun it2 s₄ =>
            codeAny (model prog w) A (.compStart (dc2 kx vx t1 i1 t2 i2 scope pos) 1 it2 (.ref D) env) (fun r s₅ => match r with | .ok _ => ∃ m, m < n ∧ I m s₅ | .error _ => False) s₄) (fun _ _ => False) s₃) (fun _ _ => False) s₂) (fun _ _ => False) s₁') (fun _ _ => False) s₁) (fun _ _ => False) s)
    (n : Nat) (h : I n s) :
    codeAny (model prog w) A (.compLoop (dc2 kx vx t1 i1 t2 i2 scope pos) 0 it (.ref D) env) R s := by
  have no : ∀ {E : Value → Shared → Prop} (x : Value) (s : Shared), False → E x s := fun _ _ z => z.elim
  refine codeAny_loop rfl I (fun n s hI => ?_) n h
  show wpAny _ A ((compTurn (dc2 kx vx t1 i1 t2 i2 scope pos) 0 it (.ref D) env).onRaise (fun x => do noteFrame x env; theTreesLotGoes x)) _ _ s
  refine wpAny_noted ?_
  rw [compTurn_dict2a]
  refine wpAny_bind (wpAny_standAt (wpAny_bind (wpAny_mono (turn n s hI) (fun r s₁ h₁ => ?_) no)))
  cases r with
  | none => exact wpAny_pure h₁
  | some v =>
    refine wpAny_bind (wpAny_mono h₁ (fun _ s₁' h₁' => wpAny_bind (wpAny_mono h₁' (fun _ s₂ h₂ => wpAny_bind (wpAny_tests_nil ?_)) no)) no)
    refine wpAny_bind (wpAny_mono h₂ (fun x s₃ h₃ => wpAny_bind (wpAny_standAt (wpAny_bind (wpAny_of_eq (hs2 x) (wpAny_bind (wpAny_holding (wpAny_mono h₃ (fun it2 s₄ h₄ => ?_) no))))))) no)
    refine wpAny_bind (wpAny_runOwn (codeAny_mono h₄ fun r s₅ h₅ => ?_))
    cases r with
    | ok f => exact wpAny_pure ⟨rfl, h₅⟩
    | error e => exact h₅.elim
theorem compLoop_D2b {kx vx t1 i1 t2 i2 : Expr} {scope : Scope} {pos : Pos} {it : Value} {D : Addr} {env : Env} (I : Nat → Shared → Prop)
    (turn : ∀ n s, I n s → wpAny (model prog w) A (pyNext it) (fun r s₁ => match r with
      | none => R (.ok .next) s₁
      | some v => wpAny (model prog w) A (letOwnedTupleGo t2 it v) (fun _ s₁' => wpAny (model prog w) A (assign t2 env v) (fun _ s₃ =>
            wpAny (model prog w) A (eval kx env) (fun kv s₄ => wpAny (model prog w) A (eval vx env) (fun vv s₅ =>
              wpAny (model prog w) A (dictSet D kv vv) (fun _ s₆ => ∃ m, m < n ∧ I m s₆) (fun _ _ => False) s₅) (fun _ _ => False) s₄) (fun _ _ => False) s₃) (fun _ _ => False) s₁') (fun _ _ => False) s₁) (fun _ _ => False) s)
    (n : Nat) (h : I n s) :
    codeAny (model prog w) A (.compLoop (dc2 kx vx t1 i1 t2 i2 scope pos) 1 it (.ref D) env) R s := by
  have no : ∀ {E : Value → Shared → Prop} (x : Value) (s : Shared), False → E x s := fun _ _ z => z.elim
  refine codeAny_loop rfl I (fun n s hI => ?_) n h
  show wpAny _ A ((compTurn (dc2 kx vx t1 i1 t2 i2 scope pos) 1 it (.ref D) env).onRaise (fun x => do noteFrame x env; theTreesLotGoes x)) _ _ s
  refine wpAny_noted ?_
  rw [compTurn_dict2b]
  refine wpAny_bind (wpAny_standAt (wpAny_bind (wpAny_mono (turn n s hI) (fun r s₁ h₁ => ?_) no)))
  cases r with
  | none => exact wpAny_pure h₁
  | some v =>
    refine wpAny_bind (wpAny_mono h₁ (fun _ s₁' h₁' => wpAny_bind (wpAny_mono h₁' (fun _ s₃ h₃ => wpAny_bind (wpAny_tests_nil ?_)) no)) no)
    exact wpAny_bind (wpAny_bind (wpAny_mono h₃ (fun kv s₄ h₄ => wpAny_bind (wpAny_holding (wpAny_mono h₄ (fun vv s₅ h₅ => wpAny_bind (wpAny_standAt (wpAny_holding (wpAny_mono h₅ (fun _ s₆ h₆ => wpAny_pure ⟨rfl, h₆⟩) no)))) no))) no))
theorem compStart_D2b {kx vx t1 i1 t2 i2 : Expr} {scope : Scope} {pos : Pos} {it acc : Value} {env : Env}
    (h0 : codeAny (model prog w) A (.compLoop (dc2 kx vx t1 i1 t2 i2 scope pos) 1 it acc env) R s)
    (h : wpAny (model prog w) A (pyIter it) (fun it' s' => codeAny (model prog w) A (.compLoop (dc2 kx vx t1 i1 t2 i2 scope pos) 1 it' acc env) R s')
      (notedBy (model prog w) A env fun x s' => R (.error x) s') s) :
    codeAny (model prog w) A (.compStart (dc2 kx vx t1 i1 t2 i2 scope pos) 1 it acc env) R s := by
  refine codeAny_of_tree ?_
  show wpAny _ A ((compStart (dc2 kx vx t1 i1 t2 i2 scope pos) 1 it acc env).onRaise (fun x => do noteFrame x env; standAt theWindowsPlace)) _ _ s
  refine wpAny_notedAt ?_
  unfold compStart
  show wpAny _ A (ask >>= _) _ _ s
  refine wpAny_bind (wpAny_askSetting (wpAny_ite ?_))
  split
  · first
      | exact wpAny_bind (wpAny_pure (wpAny_pure (And.intro rfl h0)))
      | exact wpAny_pure (And.intro rfl h0)
  · first
      | exact wpAny_bind (wpAny_rule (wpAny_bind (wpAny_standAt (wpAny_bind (wpAny_mono h (fun it' s' h' => wpAny_pure (And.intro rfl h')) fun _ _ x => x)))))
      | (refine wpAny_bind (wpAny_rule ?_); show wpAny _ _ (standAt i2.pos >>= _) _ _ s; exact wpAny_bind (wpAny_standAt (wpAny_bind (wpAny_mono h (fun it' s' h' => wpAny_pure (And.intro rfl h')) fun _ _ x => x))))
end
def tDComp2 (nl : Nat) (ix : List Nat) (wi : TI) (g : TG) (wi2 : TI) (g2 : TG) (tk tv : TE) : TE := fun σ H Q => wi σ H fun J H1 => ∀ D, H1 D = none → ∃ W : Nat → Nat → List (Key × V) → Hp → Prop, (∃ m, W 0 m [] (upd H1 D (.dK []))) ∧
  ∀ i m ys H2, W i m ys H2 → H2 D = some (.dK ys) ∧ ((J.stop i H2 ∧ Q (.ref D) H2) ∨ (J.go i H2 ∧ ∀ x H3, J.yld i H2 x H3 → g x (capt nl ix σ) H3 fun σ4 H4 => (σ4.length = (capt nl ix σ).length ∧ σ4.drop nl = ix.map fun j => (σ[j]?).join) ∧
    wi2 σ4 H4 fun J2 H5 => ∃ W2 : Nat → Nat → List (Key × V) → Hp → Prop, (∃ m2, W2 0 m2 ys H5) ∧
      ∀ i2 m2 ys2 H6, W2 i2 m2 ys2 H6 → H6 D = some (.dK ys2) ∧ ((J2.stop i2 H6 ∧ ∃ m', m' < m ∧ W (i + 1) m' ys2 H6) ∨ (J2.go i2 H6 ∧ ∀ x2 H7, J2.yld i2 H6 x2 H7 → g2 x2 σ4 H7 fun σ8 H8 => (σ8.length = σ4.length ∧ ∀ (j : Nat) (v : V), σ4[j]? = some (some v) → σ8[j]? = some (some v)) ∧
        tk σ8 H8 fun z H9 => tv σ8 H9 fun y H10 => ∃ k : Key, z = kV k ∧ H10 D = some (.dK ys2) ∧ ys2.length < sizeLine ∧ ∃ m', m' < m2 ∧ W2 (i2 + 1) m' (putK ys2 k y) (upd H10 D (.dK (putK ys2 k y)))))))
section
variable {X : Cx}
theorem pe_dcomp2 {kx vx tg iter tg2 iter2 : Expr} {scope : Scope} {pos : Pos} {N' : List Str} {nl : Nat} {ix : List Nat} {wi wi2 : TI} {g g2 : TG} {tk tv : TE} (hc : X.calm = true) (S : CompScope X scope) (Cp : Capt X scope N' nl ix) (hi : PI X tg iter wi)
    (hg : ∀ C fp s₀ H₀, PG (X.comp scope N' C fp s₀ H₀) tg g) (hi2 : ∀ C fp s₀ H₀, PI (X.comp scope N' C fp s₀ H₀) tg2 iter2 wi2) (hg2 : ∀ C fp s₀ H₀, PG (X.comp scope N' C fp s₀ H₀) tg2 g2)
    (hk : ∀ C fp s₀ H₀, PE (X.comp scope N' C fp s₀ H₀) kx tk) (hv : ∀ C fp s₀ H₀, PE (X.comp scope N' C fp s₀ H₀) vx tv)
    (hs : ∀ x, foldedSetIterable iter X.env x = pure x := by intro _; rfl) (hs2 : ∀ C fp s₀ H₀ x, foldedSetIterable iter2 (X.comp scope N' C fp s₀ H₀).env x = pure x := by intro _ _ _ _ _; rfl) : PE X (dc2 kx vx tg iter tg2 iter2 scope pos) (tDComp2 nl ix wi g wi2 g2 tk tv) := by
  intro pins s σ H Q I h
  rw [arm_eval_DictComp]
  refine wpAny_comprehension_free (use := none) (cl := clOf X.env scope.names []) rfl hs (closure_of (S.cells I.ok)) S.kind S.loc ?_
  refine thn (hi pins s σ H _ I h) fun v s1 h1 => thn h1 fun itv s2 h2 => ?_
  obtain ⟨it, fp, tn, J, H2, rfl, I2, T, st2, f2, h2⟩ := h2
  obtain ⟨W, ⟨m0, w0⟩, turn⟩ := h2 s2.heap.objs.size I2.fresh
  refine wpAny_newObj_type (wpAny_newFunctionEnv S.nocell (by intro y hy; simp at hy) (fun h₁ hns₁ hsb₁ => ?_) S.kind)
  dsimp only at hns₁ hsb₁ ⊢
  have fpo : ∀ b ∈ fp, b < s2.heap.objs.size := fun b hb => by
    obtain ⟨o, e, _⟩ := T.obj 0 _ st2 b hb
    exact Heap.lt_size e
  have I3 : Inv X pins σ (upd H2 s2.heap.objs.size (.dK [])) { s2 with heap := s2.heap.push { cls := .type "dict", data := .dict #[] }, toks := s2.toks } := I2.laid (a := s2.heap.objs.size) (o := .dK []) (t' := s2.toks) (fun _ _ q => Heap.get?_push_of_some _ q) (Nat.le_refl _) (dk_empty s2.heap I2.big)
  have hD : (upd H2 s2.heap.objs.size (.dK [])) s2.heap.objs.size = some (.dK []) := upd_same
  have f3 : ∀ b ∈ fp, FpOk X pins (upd H2 s2.heap.objs.size (.dK [])) b := fun b hb => by
    refine ⟨?_, (f2 b hb).2⟩
    rw [upd_ne (Nat.ne_of_lt (fpo b hb))]
    exact (f2 b hb).1
  generalize hS3 : s2.heap.push { cls := .type "dict", dict := none, data := .dict #[] } = g3 at hns₁ hsb₁ I3 ⊢
  have sz3 : g3.objs.size = s2.heap.objs.size + 1 := by rw [← hS3, Heap.size_push]
  have fpo3 : ∀ b ∈ fp, b < ({ s2 with heap := g3, toks := s2.toks } : Shared).heap.objs.size := fun b hb => by
    show b < g3.objs.size
    rw [sz3]
    exact Nat.lt_succ_of_lt (fpo b hb)
  have old : ∀ b o, g3.get? b = some o → h₁.get? b = some o := fun b o e => hsb₁.extBut b o (Nat.ne_of_lt (Heap.lt_size e)) (Heap.get?_push_of_some _ e)
  have I4 := capt_inv (tk := s2.toks + ([] : List (Str × Value)).length) S Cp I3 f3 fpo3 hns₁ old
  generalize hX : X.comp scope N' g3.objs.size fp { s2 with heap := g3, toks := s2.toks } (upd H2 s2.heap.objs.size (.dK [])) = X' at *
  have hPr : X'.prog = X.prog := by rw [← hX]; rfl
  have hWr : X'.w = X.w := by rw [← hX]; rfl
  have hKr : X'.K = X.K := by rw [← hX]; rfl
  have hAr : X'.A = X.A := by rw [← hX]; rfl
  have hCa : X'.calm = true := by rw [← hX]; exact hc
  have hXe : X'.xe = fun _ _ => False := by rw [← hX]; rfl
  have hEx : X'.ex = fp := by rw [← hX]; rfl
  have hPn : X'.pn = [] := by rw [← hX]; rfl
  have hLo : X'.env.locals = g3.objs.size := by rw [← hX]; rfl
  have hEn : X'.env = compEnvC scope (clOf X.env scope.names []) g3.objs.size X.env := by rw [← hX]; rfl
  have hg' := hg g3.objs.size fp { s2 with heap := g3, toks := s2.toks } (upd H2 s2.heap.objs.size (.dK []))
  have hi2' := hi2 g3.objs.size fp { s2 with heap := g3, toks := s2.toks } (upd H2 s2.heap.objs.size (.dK []))
  have hg2' := hg2 g3.objs.size fp { s2 with heap := g3, toks := s2.toks } (upd H2 s2.heap.objs.size (.dK []))
  have hk' := hk g3.objs.size fp { s2 with heap := g3, toks := s2.toks } (upd H2 s2.heap.objs.size (.dK []))
  have hv' := hv g3.objs.size fp { s2 with heap := g3, toks := s2.toks } (upd H2 s2.heap.objs.size (.dK []))
  have hs2' := hs2 g3.objs.size fp { s2 with heap := g3, toks := s2.toks } (upd H2 s2.heap.objs.size (.dK []))
  rw [hX] at hg' hi2' hg2' hk' hv' hs2'
  have I4' : Inv X' [] (capt nl ix σ) (upd H2 s2.heap.objs.size (.dK [])) { s2 with heap := h₁, toks := s2.toks + ([] : List (Str × Value)).length } := I4
  have back : ∀ {H' : Hp} {σ' : St} {pins' : List (Addr × Obj)} {s' : Shared} {h' : Heap}, Inv X' pins' σ' H' s' → Heap.SameBut g3.objs.size s'.heap h' → Inv X pins σ H' { s' with heap := h' } := fun I' sb => by
    subst hX
    exact comp_back I3 f3 I' sb
  have stat : ∀ {H' : Hp}, (∀ b ∈ fp, H' b = none) → ∀ b ∈ fp, FpOk X' [] H' b := fun hn b hb => by
    refine ⟨hn b hb, ?_, ?_, .inl (by rw [hEx]; exact hb), ?_, fun p hp => by rw [hPn] at hp; cases hp⟩
    · rw [hLo]; exact Nat.ne_of_lt (fpo3 b hb)
    · exact I4'.ok.exfs b (by rw [hEx]; exact hb)
    · exact (I4'.ok.exf b (by rw [hEx]; exact hb)).2
  have loop : codeAny (model X.prog X.w) X.A (.compLoop (dc2 kx vx tg iter tg2 iter2 scope pos) 0 (.ref it) (.ref s2.heap.objs.size) X'.env)
      (compPost (model X.prog X.w) X.A X.xe none (EP X pins σ Q) (.ref s2.heap.objs.size) g3.objs.size) { s2 with heap := h₁, toks := s2.toks + ([] : List (Str × Value)).length } := by
    rw [← hPr, ← hWr, ← hAr]
    refine compLoop_D2a hs2' (fun n s' => ∃ i ys H', Inv X' [] (capt nl ix σ) H' s' ∧ tn i s'.heap ∧ (∀ b ∈ fp, H' b = none) ∧ W i n ys H') ?_ m0
      ⟨0, [], _, I4', T.keep _ _ _ st2 (fun b hb o e => old b o (by rw [← hS3]; exact Heap.get?_push_of_some _ e)), fun b hb => (f3 b hb).1, w0⟩
    rintro n s5 ⟨i, ys, H5, I5, st5, fr5, w5⟩
    obtain ⟨hD5, alt⟩ := turn i n ys H5 w5
    rcases alt with ⟨stop, qn⟩ | ⟨go, step⟩
    · rw [hPr, hWr]
      refine thn (T.done X' hPr hWr hKr hCa i [] s5 _ H5 _ I5 (stat fr5) st5 stop) fun r s6 ⟨hr, I6⟩ => ?_
      subst hr
      obtain ⟨m, hn, _⟩ := I6.loc
      rw [hLo] at hn
      exact ⟨m, hn, fun h' sb => ⟨.ref s2.heap.objs.size, H5, back I6 sb, rfl, qn⟩⟩
    · have it5 := T.item X' hPr hWr hKr hCa i [] s5 _ H5 (fun _ _ => False) I5 (stat fr5) st5 go
      rw [← hPr, ← hWr] at it5
      refine thn it5 fun r s6 ⟨u, hr, h6⟩ => ?_
      subst hr
      refine thn h6 fun _ s7 ⟨x, H7, I7, r7, y7, st7, fr7⟩ => ?_
      have I7' := I7.pinned (stat fr7) (T.obj _ _ st7)
      have g7 := hg' _ s7 _ H7 x u _ I7' r7 (step x H7 y7)
      rw [hXe] at g7
      refine thn g7 fun _ s8 ⟨σ8, H8, I8, ⟨hl8, hd8⟩, q8⟩ => ?_
      have again : ∀ {H10 : Hp} {s10 : Shared} {ys' : List (Key × V)}, Inv X' ([] ++ pinsAt fp s7.heap) σ8 H10 s10 → (∃ m', m' < n ∧ W (i + 1) m' ys' H10) → ∃ m, m < n ∧ ∃ i ys H', Inv X' [] (capt nl ix σ) H' s10 ∧ tn i s10.heap ∧ (∀ b ∈ fp, H' b = none) ∧ W i m ys H' := fun {H10 s10 ys'} I10 ⟨m', hm, w'⟩ => by
        refine ⟨m', hm, i + 1, ys', H10, capt_weak I10.unpinned hl8 hd8, T.keep _ _ _ st7 fun b hb o e => (I10.pin (b, o) (List.mem_append_right _ (List.mem_append_right _ (mem_pinsAt hb e)))).1, fun b hb => ?_, w'⟩
        obtain ⟨o, e, d⟩ := T.obj _ _ st7 b hb
        exact (I10.pin (b, o) (List.mem_append_right _ (List.mem_append_right _ (mem_pinsAt hb e)))).2.1
      have p8 := hi2' _ s8 σ8 H8 _ I8 q8
      rw [hXe] at p8
      refine thn p8 fun v2 s9 p9 => thn p9 fun itv2 s10 p10 => ?_
      obtain ⟨it2, fp2, tn2, J2, H10, rfl, I10, T2, st10, f10, W2, ⟨m2, w2⟩, turn2⟩ := p10
      have stat2 : ∀ {H' : Hp}, (∀ b ∈ fp2, H' b = none) → ∀ b ∈ fp2, FpOk X' ([] ++ pinsAt fp s7.heap) H' b := fun hn b hb => ⟨hn b hb, (f10 b hb).2⟩
      have loop2 : codeAny (model X'.prog X'.w) X'.A (.compLoop (dc2 kx vx tg iter tg2 iter2 scope pos) 1 (.ref it2) (.ref s2.heap.objs.size) X'.env)
          (fun r s₅ => match r with | .ok _ => ∃ m, m < n ∧ ∃ i ys H', Inv X' [] (capt nl ix σ) H' s₅ ∧ tn i s₅.heap ∧ (∀ b ∈ fp, H' b = none) ∧ W i m ys H' | .error _ => False) s10 := by
        refine compLoop_D2b (fun n2 s' => ∃ i2 ys2 H', Inv X' ([] ++ pinsAt fp s7.heap) σ8 H' s' ∧ tn2 i2 s'.heap ∧ (∀ b ∈ fp2, H' b = none) ∧ W2 i2 n2 ys2 H') ?_ m2 ⟨0, ys, H10, I10, st10, fun b hb => (f10 b hb).1, w2⟩
        rintro n2 s11 ⟨i2, ys2, H11, I11, st11, fr11, w11⟩
        obtain ⟨hD11, alt2⟩ := turn2 i2 n2 ys2 H11 w11
        rcases alt2 with ⟨stop2, qn2⟩ | ⟨go2, step2⟩
        · refine thn (T2.done X' rfl rfl rfl hCa i2 _ s11 _ H11 _ I11 (stat2 fr11) st11 stop2) fun r s12 ⟨hr, I12⟩ => ?_
          subst hr
          exact again I12 qn2
        · have it11 := T2.item X' rfl rfl rfl hCa i2 _ s11 _ H11 (fun _ _ => False) I11 (stat2 fr11) st11 go2
          refine thn it11 fun r s12 ⟨u2, hr, h12⟩ => ?_
          subst hr
          refine thn h12 fun _ s13 ⟨x2, H13, I13, r13, y13, st13, fr13⟩ => ?_
          have I13' := I13.pinned (stat2 fr13) (T2.obj _ _ st13)
          have g13 := hg2' _ s13 _ H13 x2 u2 _ I13' r13 (step2 x2 H13 y13)
          rw [hXe] at g13
          refine thn g13 fun _ s14 ⟨σ14, H14, I14, ⟨hl14, hd14⟩, q14⟩ => ?_
          have again2 : ∀ {H17 : Hp} {s17 : Shared} {ys' : List (Key × V)}, Inv X' ([] ++ pinsAt fp s7.heap ++ pinsAt fp2 s13.heap) σ14 H17 s17 → (∃ m', m' < n2 ∧ W2 (i2 + 1) m' ys' H17) → ∃ m, m < n2 ∧ ∃ i2 ys2 H', Inv X' ([] ++ pinsAt fp s7.heap) σ8 H' s17 ∧ tn2 i2 s17.heap ∧ (∀ b ∈ fp2, H' b = none) ∧ W2 i2 m ys2 H' := fun {H17 s17 ys'} I17 ⟨m', hm, w'⟩ => by
            refine ⟨m', hm, i2 + 1, ys', H17, (I17.unpinned).weak hl14.symm (fun j v e => hd14 j v e), T2.keep _ _ _ st13 fun b hb o e => (I17.pin (b, o) (List.mem_append_right _ (List.mem_append_right _ (mem_pinsAt hb e)))).1, fun b hb => ?_, w'⟩
            obtain ⟨o, e, d⟩ := T2.obj _ _ st13 b hb
            exact (I17.pin (b, o) (List.mem_append_right _ (List.mem_append_right _ (mem_pinsAt hb e)))).2.1
          have e9 := hk' _ s14 σ14 H14 _ I14 q14
          rw [hXe] at e9
          refine thn e9 fun zv s15 ⟨z, H15, I15, r15, q15⟩ => ?_
          have e10 := hv' _ s15 σ14 H15 _ I15 q15
          rw [hXe] at e10
          refine thn e10 fun xv s16 ⟨y, H16, I16, r16, k, ez, hD16, hz, mw⟩ => ?_
          subst ez
          obtain ⟨z1, hd, vs, rel, dd⟩ := dk_of I16.hok hD16
          refine wpAny_dictSet_pairs (kV_is r15) dd (hsz := by rw [← rel.length]; exact z1) fun h' dd' hs => ?_
          have heo : ∃ q, h'.get? s2.heap.objs.size = some q := let ⟨q, _, _, hq, _⟩ := dd'; ⟨q, hq⟩
          have hl : (putK ys2 k y).length ≤ sizeLine := by have := length_putK ys2 k y; omega
          exact again2 (d_write I16 (by rw [hD16]; exact True.intro) hs heo (dk_new hl hd (rel.put k r16) dd')) mw
      exact compStart_D2b loop2 (T2.self _ 0 _ _ _ st10 loop2)
  rw [hEn] at loop
  exact codeAny_compStart_dict loop (T.self _ 0 _ _ _ (T.keep _ _ _ st2 (fun b hb o e => old b o (by rw [← hS3]; exact Heap.get?_push_of_some _ e))) loop)
theorem pe_dc2 {kx vx tg iter tg2 iter2 : Expr} {outer scope : Scope} {pos : Pos} {N N' : List Str} {nl : Nat} {ix : List Nat} {wi wi2 : TI} {g g2 : TG} {tk tv : TE} (h1 : X.env.scope = outer) (h2 : X.N = N) (hc : X.calm = true) (hi : PI X tg iter wi)
    (hg : ∀ C fp s₀ H₀, PG (X.comp scope N' C fp s₀ H₀) tg g) (hi2 : ∀ C fp s₀ H₀, PI (X.comp scope N' C fp s₀ H₀) tg2 iter2 wi2) (hg2 : ∀ C fp s₀ H₀, PG (X.comp scope N' C fp s₀ H₀) tg2 g2)
    (hk : ∀ C fp s₀ H₀, PE (X.comp scope N' C fp s₀ H₀) kx tk) (hv : ∀ C fp s₀ H₀, PE (X.comp scope N' C fp s₀ H₀) vx tv)
    (hck : compOk outer scope N N' nl ix = true := by decide +kernel) (hs : ∀ x, foldedSetIterable iter X.env x = pure x := by intro _; rfl) (hs2 : ∀ C fp s₀ H₀ x, foldedSetIterable iter2 (X.comp scope N' C fp s₀ H₀).env x = pure x := by intro _ _ _ _ _; rfl) :
    PE X (.DictComp kx vx [⟨tg, iter, [], 0⟩, ⟨tg2, iter2, [], 0⟩] scope pos) (tDComp2 nl ix wi g wi2 g2 tk tv) :=
  let ⟨S, Cp⟩ := comp_of h1 h2 hck
  pe_dcomp2 hc S Cp hi hg hi2 hg2 hk hv hs hs2
end
end L2
set_option Elab.async false
set_option linter.all false
set_option maxHeartbeats 4000000
set_option maxRecDepth 100000
namespace L2
open PySem PySem.Spec PyProof.Rows
section
variable {X : Cx} {tg : Expr}
theorem pi_listK {K : PySem.W.Frag} {l : Expr} {tl : TE} (hK : X.K = K) (hl : PE X l tl) : PI X tg l (iList K tl) := by
  subst hK
  exact pi_list hl
def relab (sc outer : Scope) : Scope := { sc with names := relabelS sc outer }
theorem comp_scope {outer sc : Scope} {N' : List Str} {C : Addr} {fp : List Addr} {s₀ : Shared} {H₀ : Hp} (h1 : X.env.scope = outer) : (X.comp sc N' C fp s₀ H₀).env.scope = relab sc outer := by
  subst h1
  rfl
end
def DTurn2 (nl : Nat) (ix : List Nat) (g : TG) (wi2 : TI) (g2 : TG) (tk tv : TE) (σ : St) (D : Addr) (ys : List (Key × V)) (H3 : Hp) (x : V) (nxt : List (Key × V) → Hp → Prop) : Prop :=
  g x (capt nl ix σ) H3 fun σ4 H4 => (σ4.length = (capt nl ix σ).length ∧ σ4.drop nl = ix.map fun j => (σ[j]?).join) ∧
    wi2 σ4 H4 fun J2 H5 => ∃ W2 : Nat → Nat → List (Key × V) → Hp → Prop, (∃ m2, W2 0 m2 ys H5) ∧
      ∀ i2 m2 ys2 H6, W2 i2 m2 ys2 H6 → H6 D = some (.dK ys2) ∧ ((J2.stop i2 H6 ∧ nxt ys2 H6) ∨ (J2.go i2 H6 ∧ ∀ x2 H7, J2.yld i2 H6 x2 H7 → g2 x2 σ4 H7 fun σ8 H8 => (σ8.length = σ4.length ∧ ∀ (j : Nat) (v : V), σ4[j]? = some (some v) → σ8[j]? = some (some v)) ∧
        tk σ8 H8 fun z H9 => tv σ8 H9 fun y H10 => ∃ k : Key, z = kV k ∧ H10 D = some (.dK ys2) ∧ ys2.length < sizeLine ∧ ∃ m', m' < m2 ∧ W2 (i2 + 1) m' (putK ys2 k y) (upd H10 D (.dK (putK ys2 k y)))))
theorem dcomp2_list {K : PySem.W.Frag} {nl : Nat} {ix : List Nat} {tl : TE} {g : TG} {wi2 : TI} {g2 : TG} {tk tv : TE} {σ : St} {H : Hp} {Q : VK}
    (h : tl σ H fun x H1 => ∃ a xs, x = .ref a ∧ SqL K H1 a xs ∧ ∀ D, H1 D = none → ∃ Pv : Nat → List (Key × V) → Hp → Prop, Pv 0 [] (upd H1 D (.dK [])) ∧ (∀ i ys H, Pv i ys H → H D = some (.dK ys)) ∧ (∀ i ys H, Pv i ys H → SqL K H a xs) ∧
      (∀ i ys H x, xs[i]? = some x → Pv i ys H → DTurn2 nl ix g wi2 g2 tk tv σ D ys H x fun ys' H' => Nx xs.length i (Pv (i + 1) ys' H')) ∧ ∀ ys H, Pv xs.length ys H → Q (.ref D) H)
    (hm : ∀ {R R' : V → Hp → Prop}, (∀ x H, R x H → R' x H) → tl σ H R → tl σ H R') : tDComp2 nl ix (iList K tl) g wi2 g2 tk tv σ H Q := by
  unfold tDComp2 iList
  refine hm (fun x H1 h1 => ?_) h
  obtain ⟨a, xs, rfl, hq, h1⟩ := h1
  refine ⟨a, rfl, ⟨xs, hq⟩, fun D nD => ?_⟩
  obtain ⟨Pv, h0, hD, hl, hs, hd⟩ := h1 D nD
  refine ⟨fun i m ys H => m = xs.length - i ∧ i ≤ xs.length ∧ Pv i ys H, ⟨xs.length, by simp, Nat.zero_le _, h0⟩, ?_⟩
  rintro i m ys H ⟨rfl, hi, p⟩
  refine ⟨hD i ys H p, ?_⟩
  by_cases hlt : i < xs.length
  · refine .inr ⟨⟨xs, xs[i], hl i ys H p, by simp [hlt]⟩, fun x H' y => ?_⟩
    obtain ⟨e, y⟩ := y
    subst e
    exact hs i ys H' x (y xs (hl i ys H' p)) p
  · have e : i = xs.length := by omega
    subst e
    exact .inl ⟨⟨xs, hl _ ys H p, Nat.le_refl _⟩, hd ys H p⟩
theorem dturn2_list {K : PySem.W.Frag} {nl : Nat} {ix : List Nat} {σ : St} {D : Addr} {H : Hp} {ys : List (Key × V)} {nxt : List (Key × V) → Hp → Prop} {tl : TE} {i2 : Nat} {tk tv : TE} {g : TG} {x : V}
    (h : g x (capt nl ix σ) H fun σ4 H4 => (σ4.length = (capt nl ix σ).length ∧ σ4.drop nl = ix.map fun j => (σ[j]?).join) ∧ tl σ4 H4 fun u H5 => ∃ a xs, u = .ref a ∧ SqL K H5 a xs ∧ σ4[i2]? = some none ∧
      ∃ Pv : Nat → List (Key × V) → Hp → Prop, Pv 0 ys H5 ∧ (∀ i ys H, Pv i ys H → H D = some (.dK ys)) ∧ (∀ i ys H, Pv i ys H → SqL K H a xs) ∧
        (∀ i ys H z, xs[i]? = some z → Pv i ys H → tk (σ4.set i2 (some z)) H fun z' H9 => tv (σ4.set i2 (some z)) H9 fun y H10 => ∃ k : Key, z' = kV k ∧ H10 D = some (.dK ys) ∧ ys.length < sizeLine ∧ Pv (i + 1) (putK ys k y) (upd H10 D (.dK (putK ys k y)))) ∧ ∀ ys H, Pv xs.length ys H → nxt ys H)
    (hm : ∀ {σ H} {R R' : V → Hp → Prop}, (∀ x H, R x H → R' x H) → tl σ H R → tl σ H R') (hg : ∀ {x σ H} {R R' : St → Hp → Prop}, (∀ σ H, R σ H → R' σ H) → g x σ H R → g x σ H R') (hk : ∀ {σ H} {R R' : V → Hp → Prop}, (∀ x H, R x H → R' x H) → tk σ H R → tk σ H R') (hv : ∀ {σ H} {R R' : V → Hp → Prop}, (∀ x H, R x H → R' x H) → tv σ H R → tv σ H R') :
    DTurn2 nl ix g (iList K tl) (gName i2) tk tv σ D ys H x nxt := by
  unfold DTurn2
  refine hg (fun σ4 H4 h4 => ?_) h
  obtain ⟨hcap, h4⟩ := h4
  refine ⟨hcap, ?_⟩
  unfold iList
  refine hm (fun u H5 h5 => ?_) h4
  obtain ⟨a, xs, rfl, hq, hno, Pv, h0, hD, hl, hs, hd⟩ := h5
  refine ⟨a, rfl, ⟨xs, hq⟩, fun i m ys H => m = xs.length - i ∧ i ≤ xs.length ∧ Pv i ys H, ⟨xs.length, by simp, Nat.zero_le _, h0⟩, ?_⟩
  rintro i m ys H ⟨rfl, hi, p⟩
  refine ⟨hD i ys H p, ?_⟩
  by_cases hlt : i < xs.length
  · refine .inr ⟨⟨xs, xs[i], hl i ys H p, by simp [hlt]⟩, fun z H' y => ?_⟩
    obtain ⟨e, y⟩ := y
    subst e
    unfold gName
    refine ⟨⟨by simp, fun j v e => ?_⟩, ?_⟩
    · by_cases hj : j = i2
      · subst hj
        rw [hno] at e
        cases e
      · rw [List.getElem?_set_ne (Ne.symm hj)]
        exact e
    · have q := hs i ys H' z (y xs (hl i ys H' p)) p
      refine hk ?_ q
      intro zz H9 q
      refine hv ?_ q
      rintro yy H10 ⟨k, e1, e2, e3, e4⟩
      exact ⟨k, e1, e2, e3, xs.length - (i + 1), by omega, rfl, hlt, e4⟩
  · have e : i = xs.length := by omega
    subst e
    exact .inl ⟨⟨xs, hl _ ys H p, Nat.le_refl _⟩, hd ys H p⟩
end L2
set_option Elab.async false
set_option linter.all false
set_option maxRecDepth 100000
set_option maxHeartbeats 4000000
namespace K7
open PySem L2 PyProof.Rows
def top (i : Nat) : Stmt := PySem.Challenge.pw_keyrooms_k44_without_needless_keys.main.body.getD i (.Pass ⟨0, 0, 0, 0⟩)
abbrev sKind : Stmt := top 7
abbrev sKinds : Stmt := top 8
abbrev sLocks : Stmt := top 9
abbrev sRoom : Stmt := top 10
abbrev sHouse : Stmt := top 11
abbrev sReq : Stmt := top 12
abbrev sPool : Stmt := top 16
abbrev sTake : Stmt := top 17
abbrev sMade : Stmt := top 18
abbrev sSome : Stmt := top 19
abbrev sDrawn : Stmt := top 20
abbrev sLaw : Stmt := top 25
abbrev st_without_needless : Stmt := top 14
abbrev st__law_copy : Stmt := top 21
abbrev st__law_due : Stmt := top 22
abbrev st__law_is_house : Stmt := top 23
abbrev st__law_marked : Stmt := top 24
def IsPool (o : HO) (c : Int) : Prop := ∃ a f : Int, o = .lst [.int a, .int f, .int c]
def spTake : Sp := fun vs H Q _ => ∃ (p : Addr) (n c : Int) (o : HO), vs = [.ref p, .int n] ∧ H p = some o ∧ IsPool o c ∧ 0 < n ∧ n ≤ 1000000 ∧ 0 ≤ c ∧ c < 1000000 ∧
  ∀ (r c' : Int) (o' : HO), 0 ≤ r → r < n → c ≤ c' → c' ≤ c + 1 → IsPool o' c' → Q (.int r) (upd H p o')
section
variable {P : Program} {w : World} {K : PySem.W.Frag} {mg : Str → Option Value} {base : Heap}
theorem scTake : FnScope ["pool", "many", "found", "step", "mark"] ["pool", "many"] (defScope sTake) := ⟨rfl, rfl, rfl, by decide +kernel, rfl, by decide +kernel, by decide +kernel⟩
theorem ok_take {f : Addr} {fd : FuncData} (F : Fun K "_law_take" "_law_take" sTake f fd) : FnOk P w K mg base CX0 1 f fd ["pool", "many"] spTake := by
  refine F.ok scTake (fun vs H Q E h => ?_) (fun cdv A outer s H vs Q E hr h => ?_)
  · obtain ⟨p, n, c, o, rfl, _⟩ := h
    rfl
  · obtain ⟨p, n, c, o, rfl, hp, ⟨a, f', rfl⟩, hn, hn2, hc, hc2, k⟩ := h
    refine ⟨_, pss_cons (ps_if (pt_cmpR op_eq (pe_ix ix_list (pv 0) pe_int (fun _ _ => rfl)) pe_int (nomark _))
        (pss_cons (ps_set (i := 2) scTake.nd rfl (Or.inl rfl) (pe_op op_mod (pe_ix ix_list (pv 0) pe_int (fun _ _ => rfl)) (pv 1)))
        (pss_cons (ps_asg (pe_op op_fdiv (pe_ix ix_list (pv 0) pe_int (fun _ _ => rfl)) (pv 1)) (pg_sub (pv 0) pe_int set_list))
        (pss_one (ps_ret (pv 2))))) pss_nil)
      (pss_cons (ps_asg (pe_op op_add (pe_ix ix_list (pv 0) pe_int (fun _ _ => rfl)) pe_int) (pg_sub (pv 0) pe_int set_list))
      (pss_cons (ps_set (i := 3) scTake.nd rfl (Or.inl rfl) (pe_ix ix_list (pv 0) pe_int (fun _ _ => rfl)))
      (pss_cons (ps_set (i := 4) scTake.nd rfl (Or.inl rfl) (pe_op op_mul (pe_op op_add (pe_op op_mod (pe_ix ix_list (pv 0) pe_int (fun _ _ => rfl)) pe_int) pe_int) (pe_op op_add (pe_op op_mul pe_int (pv 3)) pe_int)))
      (pss_cons (ps_set (i := 4) scTake.nd rfl (Or.inl rfl) (pe_op op_add (pv 4) (pe_op op_mul (pe_op op_mul pe_int (pv 3)) (pv 3))))
      (pss_cons (ps_set (i := 4) scTake.nd rfl (Or.inl rfl) (pe_op op_mod (pe_op op_mul (pv 4) (pv 4)) pe_int))
      (pss_one (ps_ret (pe_op op_mod (pe_op op_fdiv (pe_op op_mod (pe_op op_mul (pv 4) (pe_op op_add (pv 4) pe_int)) pe_int) pe_int) (pv 1))))))))), ?_⟩
    refine ⟨_, rfl, p, _, 1, .int f', rfl, rfl, SqL.of hp, rfl, rfl, _, rfl, ?_⟩
    refine ite2 (fun _ => ?_) (fun _ => ?_)
    · refine ⟨_, rfl, p, _, 0, .int a, rfl, rfl, SqL.of hp, rfl, _, rfl, a, n, rfl, rfl, hn, ?_⟩
      refine ⟨_, rfl, p, _, 0, .int a, rfl, rfl, SqL.of hp, rfl, _, rfl, a, n, rfl, rfl, ⟨hn, by omega⟩, ?_⟩
      refine ⟨_, rfl, p, _, 0, 0, rfl, rfl, hp, rfl, ?_⟩
      refine ⟨_, rfl, ?_⟩
      exact k (a % n) c _ (Int.emod_nonneg _ (by omega)) (Int.emod_lt_of_pos _ hn) (Int.le_refl _) (by omega) ⟨a / n, f', rfl⟩
    · refine ⟨_, rfl, p, _, 2, .int c, rfl, rfl, SqL.of hp, rfl, c, 1, rfl, rfl, ?_⟩
      refine ⟨_, rfl, p, _, 2, 2, rfl, rfl, hp, rfl, ?_⟩
      have hp1 : (upd H p (.lst [V.int a, V.int f', V.int (c + 1)])) p = some (.lst [V.int a, V.int f', V.int (c + 1)]) := upd_same
      refine ⟨_, rfl, p, _, 2, .int (c + 1), rfl, rfl, SqL.of hp1, rfl, ?_⟩
      have b0 : 0 ≤ a % 9999999551 := Int.emod_nonneg _ (by decide)
      have b1 : a % 9999999551 < 9999999551 := Int.emod_lt_of_pos _ (by decide)
      refine ⟨_, rfl, p, _, 0, .int a, rfl, rfl, SqL.of hp1, rfl, a, 9999999551, rfl, rfl, (by show (0 : Int) < 9999999551; decide), _, _, rfl, rfl, ?_⟩
      refine ⟨_, rfl, 43, c + 1, rfl, rfl, .inl ⟨by decide, by decide⟩, _, 73, rfl, rfl, _, _, rfl, rfl, .inl ⟨by omega, by omega⟩, ?_⟩
      refine ⟨_, rfl, _, rfl, 3581, c + 1, rfl, rfl, .inl ⟨by decide, by decide⟩, _, rfl, _, c + 1, rfl, rfl, .inl ⟨by omega, by omega⟩, _, _, rfl, rfl, ?_⟩
      generalize hx : a % 9999999551 + 1019 = x at *
      generalize hy : 43 * (c + 1) + 73 = y at *
      have x0 : 0 ≤ x := by omega
      have x1 : x ≤ 9999999551 + 1019 := by omega
      have y0 : 0 ≤ y := by omega
      have y1 : y ≤ 43000100 := by omega
      have m0 : 0 ≤ x * y := Int.mul_nonneg x0 y0
      have m1 : x * y ≤ (9999999551 + 1019) * 43000100 := Int.mul_le_mul x1 y1 y0 (by decide)
      have z0 : 0 ≤ 3581 * (c + 1) * (c + 1) := Int.mul_nonneg (by omega) (by omega)
      have z1 : 3581 * (c + 1) * (c + 1) ≤ 3581000000 * 1000000 := Int.mul_le_mul (by omega) (by omega) (by omega) (by decide)
      generalize hm : x * y + 3581 * (c + 1) * (c + 1) = m at *
      refine ⟨_, rfl, _, rfl, m, m, congrArg V.int hm, congrArg V.int hm, .inl ⟨by omega, by omega⟩, _, _, rfl, rfl, (by show (0 : Int) < 99999999581; decide), ?_⟩
      have c0 : 0 ≤ m * m % 99999999581 := Int.emod_nonneg _ (by decide)
      have c1 : m * m % 99999999581 < 99999999581 := Int.emod_lt_of_pos _ (by decide)
      generalize hq : m * m % 99999999581 = q at *
      refine ⟨_, rfl, _, rfl, q, 59, congrArg V.int hq, rfl, q, _, congrArg V.int hq, rfl, .inl ⟨by omega, by omega⟩, _, _, rfl, rfl, (by show (0 : Int) < 99999999877; decide), _, _, rfl, rfl, ⟨by decide, by decide⟩, _, rfl, _, n, rfl, rfl, hn, ?_⟩
      exact k _ (c + 1) _ (Int.emod_nonneg _ (by omega)) (Int.emod_lt_of_pos _ hn) (by omega) (Int.le_refl _) ⟨a, f', rfl⟩
end
end K7
set_option Elab.async false
set_option linter.all false
set_option maxRecDepth 100000
set_option maxHeartbeats 4000000
namespace K7
open PySem L2 PyProof.Rows
structure Cal (K : PySem.W.Frag) (mg : Str → Option Value) (x : Str) (ps : List Str) (f : Addr) (fd : FuncData) : Prop where
  mg : mg x = some (.ref f)
  kp : PySem.W.keepIn K (.ref f) = true
  b : Binds K fd ps []
def But (p : Addr) (H H' : Hp) : Prop := ∀ b u, b ≠ p → H b = some u → H' b = some u
theorem But.refl (p : Addr) (H : Hp) : But p H H := fun _ _ _ e => e
theorem But.trans {p : Addr} {H H1 H2 : Hp} (a : But p H H1) (b : But p H1 H2) : But p H H2 := fun c u n e => b c u n (a c u n e)
theorem But.upd {p : Addr} {H : Hp} {o : HO} : But p H (upd H p o) := fun b u n e => by rw [upd_ne n]; exact e
theorem But.new {p q : Addr} {H H1 : Hp} {o : HO} (a : But p H H1) (n : H q = none) : But p H (L2.upd H1 q o) := fun b u hb e => by rw [upd_ne (ne_of_none e n)]; exact a b u hb e
theorem But.free {p q : Addr} {H H' : Hp} (a : But p H H') (n : q ≠ p) (e : H' q = none) : H q = none := by
  cases h : H q with
  | none => rfl
  | some u => rw [a q u n h] at e; cases e
def PoolAt (H : Hp) (p : Addr) (c : Int) : Prop := ∃ o, H p = some o ∧ IsPool o c
def spSome : Sp := fun vs H Q _ => ∃ (p q : Addr) (n : Nat) (c : Int) (ks : List Str), vs = [.ref p, .ref q, .int n] ∧ PoolAt H p c ∧ H q = some (.lst (ks.map V.str)) ∧ ks ≠ [] ∧ ks.length ≤ 1000 ∧ n ≤ 1000 ∧ 0 ≤ c ∧ c + n < 1000000 ∧
  ∀ (l : Addr) (ss : List Str) (c' : Int) (H' : Hp), H l = none → ss.length = n → (∀ x ∈ ss, x ∈ ks) → H' l = some (.lst (ss.map V.str)) → PoolAt H' p c' → c ≤ c' → c' ≤ c + n → But p H H' → Q (.ref l) H'
section
variable {P : Program} {w : World} {K : PySem.W.Frag} {mg : Str → Option Value} {base : Heap}
theorem scSome : FnScope ["pool", "kinds", "many"] ["pool", "kinds", "many"] (defScope sSome) := ⟨rfl, rfl, rfl, by decide +kernel, rfl, by decide +kernel, by decide +kernel⟩
def compScope (e : Expr) : Scope := match e with
  | .ListComp _ _ s _ => s
  | .DictComp _ _ _ s _ => s
  | _ => { kind := .function, names := [], isGenerator := false, isCoroutine := false }
def retExpr (s : Stmt) : Expr := match s with
  | .Return (some e) _ => e
  | _ => .Name "" ⟨0, 0, 0, 0⟩
abbrev someComp : Expr := retExpr ((defBody sSome).getD 0 (.Pass ⟨0, 0, 0, 0⟩))
theorem ckSome : compOk (defScope sSome) (compScope someComp) ["pool", "kinds", "many"] ["k", "kinds", "pool"] 1 [1, 0] = true := by decide +kernel
theorem nd1 : ((["k", "kinds", "pool"] : List Str)).Nodup := by decide +kernel
theorem ok_some {f fT : Addr} {fd fdT : FuncData} (F : Fun K "_law_some" "_law_some" sSome f fd) (FT : Fun K "_law_take" "_law_take" sTake fT fdT) (cT : Cal K mg "_law_take" ["pool", "many"] fT fdT) (mR : mg "range" = none) (mL : mg "len" = none) :
    FnOk P w K mg base CX0 2 f fd ["pool", "kinds", "many"] spSome := by
  have GT : FnOk P w K mg base CX0 1 fT fdT ["pool", "many"] spTake := ok_take FT
  refine F.ok scSome (fun vs H Q E h => ?_) (fun cdv A outer s H vs Q E hr h => ?_)
  · obtain ⟨p, q, n, c, ks, rfl, _⟩ := h
    rfl
  · obtain ⟨p, q, n, c, ks, rfl, ⟨o, hp, hpo⟩, hq, hk, hkl, hn, hc, hcn, k⟩ := h
    obtain ⟨S, Cp⟩ := comp_of (X := (cxOf CX0 P w K mg base ["pool", "kinds", "many"] "_law_some" (defScope sSome) f cdv A outer s H E).nox) (outer := defScope sSome) (N := ["pool", "kinds", "many"]) rfl rfl ckSome
    refine ⟨_, pss_one (ps_ret (pe_lcomp (tg := .Name "k" _) rfl S Cp (pi_range1 rfl mR (pa_cons (pv 2) pa_nil))
      (fun C fp s₀ H₀ => pg_name (i := 0) nd1 rfl (Or.inl rfl) (.inr rfl)) (fun C fp s₀ H₀ => pif_nil)
      (fun C fp s₀ H₀ => pe_ix (ix_listK (K := K) rfl) (pv 1) (pe_call GT hr rfl cT.mg cT.kp cT.b .nil pass0 (pa_cons (pv 2) (pa_cons (pe_callB (call_lenK (K := K) rfl) rfl mL PySem.boot_len (pa_cons (pv 1) pa_nil)) pa_nil))) (fun _ _ => rfl)))), ?_⟩
    refine lcomp_eq _ _ _ _ _ _ _ _ _ ?_
    refine ⟨_, rfl, (n : Int), rfl, by omega, by omega, ?_⟩
    intro D hD
    have npD : p ≠ D := ne_of_none hp hD
    have nqD : q ≠ D := ne_of_none hq hD
    have npq : p ≠ q := by
      obtain ⟨a, f', rfl⟩ := hpo
      refine ne_of hp hq fun e => ?_
      injection e with e
      cases ks with
      | nil => exact hk rfl
      | cons z r => rw [List.map_cons] at e; injection e with e1; cases e1
    rw [Int.toNat_natCast]
    refine comp_range (fun i ys H2 => ∃ (ss : List Str) (c' : Int), ys = ss.map V.str ∧ ss.length = i ∧ (∀ x ∈ ss, x ∈ ks) ∧ H2 D = some (.lst ys) ∧ PoolAt H2 p c' ∧ c ≤ c' ∧ c' ≤ c + i ∧ But p H H2) ?_ (fun i ys H2 ⟨_, _, _, _, _, z, _⟩ => z) ?_ ?_
    · refine ⟨[], c, rfl, rfl, (fun x hx => nomatch hx), upd_same, ⟨o, by rw [upd_ne npD]; exact hp, hpo⟩, Int.le_refl _, by omega, (But.refl p H).new hD⟩
    · rintro i ys H2 hi ⟨ss, c', rfl, hl, hm, hD2, ⟨o2, hp2, hpo2⟩, h1, h2, hb⟩
      have hq2 := hb q _ (Ne.symm npq) hq
      refine turn_name rfl ?_
      refine ⟨_, rfl, _, rfl, _, rfl, q, _, rfl, .inl (SqL.of hq2), p, _, c', o2, rfl, hp2, hpo2, ?_, ?_, by omega, by omega, fun r c2 o3 r0 r1 h3 h4 hpo3 => ?_⟩
      · rw [List.length_map]
        cases ks with
        | nil => exact absurd rfl hk
        | cons z r => rw [List.length_cons]; omega
      · rw [List.length_map]; omega
      · rw [List.length_map] at r1
        obtain ⟨j, rfl⟩ : ∃ j : Nat, r = (j : Int) := ⟨r.toNat, by omega⟩
        have hj : j < ks.length := by omega
        refine ⟨q, _, _, .str ks[j], rfl, rfl, SqL.of (by rw [upd_ne (Ne.symm npq)]; exact hq2), atI_nat (by rw [List.getElem?_map, List.getElem?_eq_getElem hj]; rfl), ?_⟩
        refine ⟨by rw [upd_ne (Ne.symm npD)]; exact hD2, by rw [List.length_map]; exact small1000 (by omega), nx hi ?_⟩
        refine ⟨ss ++ [ks[j]], c2, by simp, by simp [hl], fun x hx => ?_, upd_same, ⟨o3, by rw [upd_ne npD, upd_same], hpo3⟩, by omega, by omega, ?_⟩
        · rcases List.mem_append.mp hx with hx | hx
          · exact hm x hx
          · rw [List.mem_singleton.mp hx]; exact List.getElem_mem hj
        · exact (hb.trans But.upd).new hD
    · rintro ys H2 ⟨ss, c', rfl, hl, hm, hD2, hp2, h1, h2, hb⟩
      exact k D ss c' H2 hD hl hm hD2 hp2 h1 h2 hb
end
end K7
set_option Elab.async false
set_option linter.all false
set_option maxRecDepth 100000
set_option maxHeartbeats 4000000
namespace K7
open PySem L2 PyProof.Rows
def spPool (K : PySem.W.Frag) : Sp := fun vs H Q _ => ∃ (a : Addr) (k : Nat) (ns : List Int), vs = [.ref a, .int k] ∧ SqL K H a (ns.map V.int) ∧ k ≤ 100 ∧ ns.length ≤ 63 ∧
  ∀ (l : Addr) (c : Int) (o : HO), H l = none → IsPool o c → 0 ≤ c → c ≤ 5300 → Q (.ref l) (upd H l o)
section
variable {P : Program} {w : World} {K : PySem.W.Frag} {mg : Str → Option Value} {base : Heap}
theorem scPool : FnScope ["script", "k", "cell"] ["script", "k"] (defScope sPool) := ⟨rfl, rfl, rfl, by decide +kernel, rfl, by decide +kernel, by decide +kernel⟩
theorem ok_pool {f : Addr} {fd : FuncData} (F : Fun K "_law_pool" "_law_pool" sPool f fd) (mL : mg "len" = none) : FnOk P w K mg base CX0 1 f fd ["script", "k"] (spPool K) := by
  refine F.ok scPool (fun vs H Q E h => ?_) (fun cdv A outer s H vs Q E hr h => ?_)
  · obtain ⟨a, k, ns, rfl, _⟩ := h
    rfl
  · obtain ⟨a, k, ns, rfl, hS, hk, hn, q⟩ := h
    refine ⟨_, pss_cons (ps_set (i := 2) scPool.nd rfl (Or.inl rfl) pe_int)
      (pss_cons (ps_if (pt_cmpR op_lt (pv 1) (pe_callB call_len_seq rfl mL PySem.boot_len (pa_cons (pv 0) pa_nil)) (nomark _))
        (pss_one (ps_set (i := 2) scPool.nd rfl (Or.inl rfl) (pe_ix ix_list (pv 0) (pv 1) (fun _ _ => rfl)))) pss_nil)
      (pss_cons (ps_if (pt_cmpR op_ge (pv 2) (pe_op op_pow pe_int pe_int) (nomark _))
        (pss_one (ps_ret (pe_lst (pa_cons (pe_op op_sub (pv 2) (pe_op op_pow pe_int pe_int)) (pa_cons pe_int (pa_cons pe_int pa_nil)))))) pss_nil)
      (pss_one (ps_ret (pe_lst (pa_cons (pv 2) (pa_cons pe_int (pa_cons (pe_op op_mul pe_int (pv 1)) pa_nil)))))))), ?_⟩
    refine ⟨_, rfl, _, rfl, a, _, rfl, .inl hS, _, _, rfl, rfl, _, rfl, ?_⟩
    refine ite2 (fun hlt => ?_) (fun _ => ?_)
    · have hlt' : k < ns.length := by
        have z := of_decide_eq_true hlt
        rw [List.length_map] at z
        omega
      refine ⟨_, rfl, _, rfl, a, _, _, .int ns[k], rfl, rfl, hS, atI_nat (by rw [List.getElem?_map, List.getElem?_eq_getElem hlt']; rfl), ?_⟩
      refine ⟨_, rfl, 10, 18, rfl, rfl, ⟨by decide, by decide, by decide⟩, _, _, rfl, rfl, _, rfl, ite2 (fun _ => ?_) (fun _ => ?_)⟩
      · refine ⟨_, rfl, 10, 18, rfl, rfl, ⟨by decide, by decide, by decide⟩, _, _, rfl, rfl, (by show 3 ≤ sizeLine; decide), fun l hl => ?_⟩
        exact q l 0 _ hl ⟨_, 1, rfl⟩ (by decide) (by decide)
      · refine ⟨_, rfl, _, rfl, 53, k, rfl, rfl, .inl ⟨by decide, by decide⟩, (by show 3 ≤ sizeLine; decide), fun l hl => ?_⟩
        exact q l (53 * k) _ hl ⟨_, 0, rfl⟩ (by omega) (by omega)
    · refine ⟨_, rfl, 10, 18, rfl, rfl, ⟨by decide, by decide, by decide⟩, _, _, rfl, rfl, _, rfl, ite2 (fun _ => ?_) (fun _ => ?_)⟩
      · refine ⟨_, rfl, 10, 18, rfl, rfl, ⟨by decide, by decide, by decide⟩, _, _, rfl, rfl, (by show 3 ≤ sizeLine; decide), fun l hl => ?_⟩
        exact q l 0 _ hl ⟨_, 1, rfl⟩ (by decide) (by decide)
      · refine ⟨_, rfl, _, rfl, 53, k, rfl, rfl, .inl ⟨by decide, by decide⟩, (by show 3 ≤ sizeLine; decide), fun l hl => ?_⟩
        exact q l (53 * k) _ hl ⟨_, 0, rfl⟩ (by omega) (by omega)
end
end K7
set_option Elab.async false
set_option linter.all false
set_option maxRecDepth 100000
set_option maxHeartbeats 4000000
namespace K7
open PySem L2 PyProof.Rows
def KindOk (z : Str) : Prop := 1 ≤ z.length ∧ z.length ≤ 4 ∧ ∀ c ∈ z.cps.toList, 97 ≤ c ∧ c ≤ 122
def spKind : Sp := fun vs H Q _ => ∃ z : Str, vs = [.str z] ∧ KindOk z ∧ ∀ H', Same H H' → Q (.bl true) H'
abbrev lettersS : Str := "abcdefghijklmnopqrstuvwxyz"
theorem in_letters (c : Nat) (h1 : 97 ≤ c) (h2 : c ≤ 122) : (!(Builtin.Str.occurrences lettersS ⟨#[c]⟩ 0 lettersS.length 1).isEmpty) = true := by
  have all : ∀ k : _root_.Fin 26, (!(Builtin.Str.occurrences lettersS ⟨#[97 + k.val]⟩ 0 lettersS.length 1).isEmpty) = true := by decide +kernel
  have e := all ⟨c - 97, by omega⟩
  have e2 : 97 + (c - 97) = c := by omega
  simp only [e2] at e
  exact e
section
variable {P : Program} {w : World} {K : PySem.W.Frag} {mg : Str → Option Value} {base : Heap}
structure Glb (mg : Str → Option Value) : Prop where
  isi : mg "isinstance" = none
  str : mg "str" = none
  len : mg "len" = none
  all : mg "all" = none
  letters : ∃ t, mg "LETTERS" = some (.str lettersS t)
  most : ∃ t, mg "MOST_LETTERS" = some (.int 4 t)
theorem scKind : FnScope ["thing"] ["thing"] (defScope sKind) := ⟨rfl, rfl, rfl, by decide +kernel, rfl, by decide +kernel, by decide +kernel⟩
def firstArg (e : Expr) : Expr := match e with
  | .Call _ (a :: _) _ _ => a
  | e => e
abbrev kindComp : Expr := firstArg (retExpr ((defBody sKind).getD 1 (.Pass ⟨0, 0, 0, 0⟩)))
theorem ckKind : compOk (defScope sKind) (compScope kindComp) ["thing"] ["sign"] 1 [] = true := by decide +kernel
theorem nd2 : (["sign"] : List Str).Nodup := by decide +kernel
theorem ok_kind {f : Addr} {fd : FuncData} (F : Fun K "is_kind" "is_kind" sKind f fd) (G : Glb mg) : FnOk P w K mg base CX0 1 f fd ["thing"] spKind := by
  obtain ⟨tl, hL⟩ := G.letters
  obtain ⟨tm, hM⟩ := G.most
  refine F.ok scKind (fun vs H Q E h => ?_) (fun cdv A outer s H vs Q E hr h => ?_)
  · obtain ⟨z, rfl, _⟩ := h
    rfl
  · obtain ⟨z, rfl, ⟨z1, z2, z3⟩, k⟩ := h
    obtain ⟨S, Cp⟩ := comp_of (X := (cxOf CX0 P w K mg base ["thing"] "is_kind" (defScope sKind) f cdv A outer s H E).nox) (outer := defScope sKind) (N := ["thing"]) rfl rfl ckKind
    refine ⟨_, pss_cons (ps_if (PW.pt (pw_or (pt_not (pt_val (pe_callB call_isinst rfl G.isi (by decide +kernel) (pa_cons (pv 0) (pa_cons (pe_bltn (v := .ty "str") (u := .type "str") rfl G.str (by decide +kernel) rfl) pa_nil)))))
          (pw_or1 (pt_not (pt_chain op_le op_le pe_int (pe_callB call_len_str rfl G.len PySem.boot_len (pa_cons (pv 0) pa_nil)) (pe_glob (v := .int 4) rfl hM ⟨tm, rfl⟩))))))
        (pss_one (ps_ret pe_bl)) pss_nil)
      (pss_one (ps_ret (pe_callB (call_all rfl) rfl G.all (by decide +kernel) (pa_cons (pe_lcomp (tg := .Name "sign" _) rfl S Cp (pi_str (pv 0))
        (fun C fp s₀ H₀ => pg_name (i := 0) nd2 rfl (Or.inl rfl) (.inr rfl)) (fun C fp s₀ H₀ => pif_nil)
        (fun C fp s₀ H₀ => pe_cmpR op_in_str (pv 0) (pe_glob (v := .str lettersS) rfl hL ⟨tl, rfl⟩) (by with_unfolding_all rfl))) pa_nil)))), ?_⟩
    have zs : z.length ≤ sizeLine := Nat.le_of_lt (small1000 (by omega))
    refine ⟨_, rfl, _, _, _, true, rfl, .str z, kit_same K _, true, rfl, ?_⟩
    refine iteF ?_
    refine ⟨_, rfl, z, rfl, zs, 1, _, rfl, rfl, true, congrArg V.bl (decide_eq_true (by omega)), ?_⟩
    refine iteT ?_
    refine ⟨_, 4, rfl, rfl, true, congrArg V.bl (decide_eq_true (by omega)), ?_⟩
    refine iteF ?_
    dsimp only [tNext, tRet, tCB, tCons, tNil]
    refine lcomp_eq _ _ _ _ _ _ _ _ _ ?_
    refine ⟨_, rfl, z, rfl, ?_⟩
    intro D hD
    refine comp_str (fun i ys H2 => ys = (List.replicate i true).map V.bl ∧ H2 D = some (.lst ys) ∧ Same H H2) ⟨rfl, upd_same, fun b u e => by rw [upd_ne (ne_of_none e hD)]; exact e⟩ (fun i ys H2 ⟨_, h, _⟩ => h) ?_ ?_
    · rintro i ys H2 c hc ⟨rfl, hD2, sm⟩
      have hi : i < z.cps.size := (Array.getElem?_eq_some_iff.mp hc).1
      have hz : z.length = z.cps.size := rfl
      have hm : c ∈ z.cps.toList := by
        have := Array.mem_of_getElem? hc
        simpa using this
      refine turn_name rfl ?_
      refine ⟨_, rfl, _, _, rfl, rfl, hD2, by rw [List.length_map, List.length_replicate]; exact small1000 (by omega), nx hi ⟨?_, upd_same, fun b u e => ?_⟩⟩
      · rw [in_letters c (z3 c hm).1 (z3 c hm).2, List.replicate_succ', List.map_append]
        rfl
      · rw [upd_ne (ne_of_none e hD)]
        exact sm b u e
    · rintro ys H2 ⟨rfl, hD2, sm⟩
      refine ⟨D, List.replicate z.cps.size true, rfl, SqL.of hD2, ?_⟩
      have e : (List.replicate z.cps.size true).all id = true := by simp
      rw [e]
      exact k H2 sm
end
end K7
set_option Elab.async false
set_option linter.all false
set_option maxRecDepth 100000
set_option maxHeartbeats 4000000
namespace K7
open PySem L2 PyProof.Rows
def spKinds : Sp := fun vs H Q _ => ∃ (a : Addr) (ks : List Str), vs = [.ref a] ∧ H a = some (.lst (ks.map V.str)) ∧ (∀ k ∈ ks, KindOk k) ∧ ks.length ≤ 1000 ∧ ∀ H', Same H H' → Q (.bl true) H'
def lastPart (e : Expr) : Expr := match e with
  | .BoolOp _ es _ => es.getLastD e
  | e => e
section
variable {P : Program} {w : World} {K : PySem.W.Frag} {mg : Str → Option Value} {base : Heap}
theorem scKinds : FnScope ["thing"] ["thing"] (defScope sKinds) := ⟨rfl, rfl, rfl, by decide +kernel, rfl, by decide +kernel, by decide +kernel⟩
abbrev kindsComp : Expr := firstArg (lastPart (retExpr ((defBody sKinds).getD 0 (.Pass ⟨0, 0, 0, 0⟩))))
theorem ckKinds : compOk (defScope sKinds) (compScope kindsComp) ["thing"] ["kind"] 1 [] = true := by decide +kernel
theorem nd3 : (["kind"] : List Str).Nodup := by decide +kernel
theorem ok_kinds {f fK : Addr} {fd fdK : FuncData} (F : Fun K "are_kinds" "are_kinds" sKinds f fd) (FK : Fun K "is_kind" "is_kind" sKind fK fdK) (cK : Cal K mg "is_kind" ["thing"] fK fdK) (G : Glb mg) (mLi : mg "list" = none) : FnOk P w K mg base CX0 2 f fd ["thing"] spKinds := by
  have GK : FnOk P w K mg base CX0 1 fK fdK ["thing"] spKind := ok_kind FK G
  refine F.ok scKinds (fun vs H Q E h => ?_) (fun cdv A outer s H vs Q E hr h => ?_)
  · obtain ⟨a, ks, rfl, _⟩ := h
    rfl
  · obtain ⟨a, ks, rfl, ha, hk, hl, k⟩ := h
    obtain ⟨S, Cp⟩ := comp_of (X := (cxOf CX0 P w K mg base ["thing"] "are_kinds" (defScope sKinds) f cdv A outer s H E).nox) (outer := defScope sKinds) (N := ["thing"]) rfl rfl ckKinds
    refine ⟨_, pss_one (ps_ret (pe_and (pe_callB call_isinst rfl G.isi (by decide +kernel) (pa_cons (pv 0) (pa_cons (pe_bltn (v := .ty "list") (u := .type "list") rfl mLi (by decide +kernel) rfl) pa_nil)))
      (pe_one (pe_callB (call_all rfl) rfl G.all (by decide +kernel) (pa_cons (pe_lcomp (tg := .Name "kind" _) rfl S Cp (pi_list (pv 0))
        (fun C fp s₀ H₀ => pg_name (i := 0) nd3 rfl (Or.inl rfl) (.inr rfl)) (fun C fp s₀ H₀ => pif_nil)
        (fun C fp s₀ H₀ => pe_call GK hr rfl cK.mg cK.kp cK.b .nil pass0 (pa_cons (pv 0) pa_nil))) pa_nil))))), ?_⟩
    refine ⟨_, rfl, _, _, _, true, rfl, .lst ha, kit_same K _, true, rfl, ?_⟩
    refine iteT ?_
    dsimp only [tNext, tRet, tCB, tCons, tNil]
    refine lcomp_eq _ _ _ _ _ _ _ _ _ ?_
    refine ⟨_, rfl, a, rfl, ⟨_, SqL.of ha⟩, ?_⟩
    intro D hD
    refine comp_list (xs := ks.map V.str) (fun i ys H2 => ys = (List.replicate i true).map V.bl ∧ i ≤ 1000 ∧ H2 D = some (.lst ys) ∧ Same H H2) ⟨rfl, by decide, upd_same, fun b u e => by rw [upd_ne (ne_of_none e hD)]; exact e⟩ (fun i ys H2 ⟨_, _, h, _⟩ => h) (fun i ys H2 ⟨_, _, _, sm⟩ => SqL.of (sm a _ ha)) ?_ ?_
    · rintro i ys H2 x hx ⟨rfl, hi0, hD2, sm⟩
      have hi : i < (ks.map V.str).length := (List.getElem?_eq_some_iff.mp hx).1
      have hi' := hi
      rw [List.length_map] at hi'
      rw [List.getElem?_map, List.getElem?_eq_getElem hi'] at hx
      cases hx
      refine turn_name rfl ?_
      refine ⟨_, rfl, ks[i], rfl, hk _ (List.getElem_mem hi'), fun H3 sm3 => ?_⟩
      refine ⟨sm3 D _ hD2, by rw [List.length_map, List.length_replicate]; exact small1000 (by omega), nx hi ⟨?_, by omega, upd_same, fun b u e => ?_⟩⟩
      · rw [List.replicate_succ', List.map_append]
        rfl
      · rw [upd_ne (ne_of_none e hD)]
        exact sm3 b u (sm b u e)
    · rintro ys H2 ⟨rfl, _, hD2, sm⟩
      refine ⟨D, List.replicate (ks.map V.str).length true, rfl, SqL.of hD2, ?_⟩
      have e : (List.replicate (ks.map V.str).length true).all id = true := by simp
      rw [e]
      exact k H2 sm
end
end K7
set_option Elab.async false
set_option linter.all false
set_option maxRecDepth 100000
set_option maxHeartbeats 4000000
namespace K7
open PySem L2 PyProof.Rows
def spLocks : Sp := fun vs H Q _ => ∃ (a : Addr) (ks : List Str), vs = [.ref a] ∧ H a = some (.lst (ks.map V.str)) ∧ (∀ k ∈ ks, KindOk k) ∧ 1 ≤ ks.length ∧ ks.length ≤ 4 ∧ ks.Pairwise leS ∧ ∀ H', Same H H' → Q (.bl true) H'
theorem strs_lay {ks : List Str} (h : ∀ k ∈ ks, KindOk k) : PyData.canLayAll0 (ks.map PyData.str) = true := by
  induction ks with
  | nil => rfl
  | cons z r ih =>
    have hz := h z List.mem_cons_self
    have hs : PyData.strOk z = true := by
      unfold PyData.strOk
      rw [← Array.all_toList, List.all_eq_true]
      intro c hc
      exact decide_eq_true (by have := hz.2.2 c hc; omega)
    rw [List.map_cons]
    simp only [PyData.canLayAll0, PyData.canLay0, hs, Bool.true_and]
    exact ih fun k hk => h k (List.mem_cons_of_mem _ hk)
theorem strs_eqv : ∀ ks : List Str, PyData.eqvAll (ks.map PyData.str) (ks.map PyData.str) = true
  | [] => rfl
  | z :: r => by
    rw [List.map_cons]
    simp only [PyData.eqvAll, PyData.eqv, beq_self_eq_true, Bool.true_and]
    exact strs_eqv r
theorem strs_depth : ∀ ks : List Str, PyData.depthAll (ks.map PyData.str) = 0
  | [] => rfl
  | z :: r => by
    rw [List.map_cons]
    simp only [PyData.depthAll, PyData.depth, strs_depth r]
    rfl
section
variable {P : Program} {w : World} {K : PySem.W.Frag} {mg : Str → Option Value} {base : Heap}
theorem scLocks : FnScope ["thing"] ["thing"] (defScope sLocks) := ⟨rfl, rfl, rfl, by decide +kernel, rfl, by decide +kernel, by decide +kernel⟩
theorem ok_locks {f fK : Addr} {fd fdK : FuncData} (F : Fun K "are_locks" "are_locks" sLocks f fd) (GK : FnOk P w K mg base CX0 2 fK fdK ["thing"] spKinds) (cK : Cal K mg "are_kinds" ["thing"] fK fdK) (mLe : mg "len" = none) (mSo : mg "sorted" = none) (hM : ∃ t, mg "MOST_LOCKS" = some (.int 4 t)) :
    FnOk P w K mg base CX0 3 f fd ["thing"] spLocks := by
  obtain ⟨tm, hM⟩ := hM
  refine F.ok scLocks (fun vs H Q E h => ?_) (fun cdv A outer s H vs Q E hr h => ?_)
  · obtain ⟨a, ks, rfl, _⟩ := h
    rfl
  · obtain ⟨a, ks, rfl, ha, hk, h1, h4, hs, k⟩ := h
    have hu := hu_of hr
    refine ⟨_, pss_one (ps_ret (pe_and (pe_call GK hr rfl cK.mg cK.kp cK.b .nil pass0 (pa_cons (pv 0) pa_nil))
      (pe_and (pe_chain op_le op_le pe_int (pe_callB call_len_seq rfl mLe PySem.boot_len (pa_cons (pv 0) pa_nil)) (pe_glob (v := .int 4) rfl hM ⟨tm, rfl⟩))
      (pe_one (pe_cmpR op_eqD (pv 0) (pe_callB call_sorted rfl mSo boot_sorted (pa_cons (pv 0) pa_nil)) (nomark _)))))), ?_⟩
    refine ⟨_, rfl, a, ks, rfl, ha, hk, by omega, fun H1 s1 => ⟨true, rfl, ?_⟩⟩
    refine iteT ?_
    have ha1 := s1 a _ ha
    refine ⟨_, rfl, a, _, rfl, .inl (SqL.of ha1), 1, _, rfl, rfl, true, congrArg V.bl (decide_eq_true (by rw [List.length_map]; omega)), ?_⟩
    refine iteT ?_
    refine ⟨_, 4, rfl, rfl, true, congrArg V.bl (decide_eq_true (by rw [List.length_map]; omega)), ?_⟩
    refine iteT ?_
    refine ⟨_, rfl, _, rfl, a, ks, rfl, SqL.of ha1, by omega, fun l ss hl hp hs' => ?_⟩
    have e : ss = ks := sorted_one (sortedS_pairwise hs') hs hp
    subst e
    have ne : a ≠ l := ne_of_none ha1 hl
    refine ⟨.list (ss.map PyData.str), .list (ss.map PyData.str), .lst (by rw [upd_ne ne]; exact ha1) (SeesAll.strs ss), .lst upd_same (SeesAll.strs ss), strs_lay hk, strs_lay hk, ?_, ?_⟩
    · show _ + min (PyData.depthAll (ss.map PyData.str) + 1) (PyData.depthAll (ss.map PyData.str) + 1) < cLine
      rw [strs_depth]
      exact hu
    · have ee : PyData.eqv (.list (ss.map PyData.str)) (.list (ss.map PyData.str)) = true := strs_eqv ss
      rw [ee]
      exact k _ fun b u e => by rw [upd_ne (ne_of_none (s1 b u e) hl)]; exact s1 b u e
end
end K7
set_option Elab.async false
set_option linter.all false
set_option maxRecDepth 100000
set_option maxHeartbeats 4000000
namespace K7
open PySem L2 PyProof.Rows
abbrev Rm := List Str × List Str
structure RoomOk (r : Rm) : Prop where
  lk : ∀ k ∈ r.1, KindOk k
  l1 : 1 ≤ r.1.length
  l4 : r.1.length ≤ 4
  so : r.1.Pairwise leS
  kk : ∀ k ∈ r.2, KindOk k
  kl : r.2.length ≤ 1000
def RoomAt (H : Hp) (v : V) (r : Rm) : Prop := ∃ t a b : Addr, v = .ref t ∧ H t = some (.tup [.ref a, .ref b]) ∧ H a = some (.lst (r.1.map V.str)) ∧ H b = some (.lst (r.2.map V.str))
theorem RoomAt.same {H H' : Hp} {v : V} {r : Rm} (s : Same H H') (h : RoomAt H v r) : RoomAt H' v r := by
  obtain ⟨t, a, b, e, h1, h2, h3⟩ := h
  exact ⟨t, a, b, e, s _ _ h1, s _ _ h2, s _ _ h3⟩
def spRoom : Sp := fun vs H Q _ => ∃ (v : V) (r : Rm), vs = [v] ∧ RoomAt H v r ∧ RoomOk r ∧ ∀ H', Same H H' → Q (.bl true) H'
section
variable {P : Program} {w : World} {K : PySem.W.Frag} {mg : Str → Option Value} {base : Heap}
theorem scRoom : FnScope ["thing"] ["thing"] (defScope sRoom) := ⟨rfl, rfl, rfl, by decide +kernel, rfl, by decide +kernel, by decide +kernel⟩
theorem ok_room {f fL fK : Addr} {fd fdL fdK : FuncData} (F : Fun K "is_room" "is_room" sRoom f fd) (GL : FnOk P w K mg base CX0 3 fL fdL ["thing"] spLocks) (cL : Cal K mg "are_locks" ["thing"] fL fdL)
    (GK : FnOk P w K mg base CX0 2 fK fdK ["thing"] spKinds) (cK : Cal K mg "are_kinds" ["thing"] fK fdK) (mI : mg "isinstance" = none) (mLe : mg "len" = none) (mTu : mg "tuple" = none) : FnOk P w K mg base CX0 4 f fd ["thing"] spRoom := by
  refine F.ok scRoom (fun vs H Q E h => ?_) (fun cdv A outer s H vs Q E hr h => ?_)
  · obtain ⟨v, r, rfl, _⟩ := h
    rfl
  · obtain ⟨v, r, rfl, ⟨t, a, b, rfl, ht, ha, hb⟩, ok, k⟩ := h
    refine ⟨_, pss_one (ps_ret (pe_and (pe_callB call_isinst rfl mI (by decide +kernel) (pa_cons (pv 0) (pa_cons (pe_bltn (v := .ty "tuple") (u := .type "tuple") rfl mTu (by decide +kernel) rfl) pa_nil)))
      (pe_and (pe_cmpR op_eq (pe_callB call_len_seq rfl mLe PySem.boot_len (pa_cons (pv 0) pa_nil)) pe_int (nomark _))
      (pe_and (pe_call GL hr rfl cL.mg cL.kp cL.b .nil pass0 (pa_cons (pe_ix ix_tup (pv 0) pe_int (fun _ _ => rfl)) pa_nil))
      (pe_one (pe_call GK (hr.mono (by decide)) rfl cK.mg cK.kp cK.b .nil pass0 (pa_cons (pe_ix ix_tup (pv 0) pe_int (fun _ _ => rfl)) pa_nil))))))), ?_⟩
    refine ⟨_, rfl, _, _, _, true, rfl, .tup ht, kit_same K _, true, rfl, ?_⟩
    refine iteT ?_
    refine ⟨_, rfl, t, _, rfl, .inr (SqT.of ht), rfl, true, rfl, ?_⟩
    refine iteT ?_
    refine ⟨_, rfl, t, _, 0, .ref a, rfl, rfl, SqT.of ht, rfl, a, r.1, rfl, ha, ok.lk, ok.l1, ok.l4, ok.so, fun H1 s1 => ⟨true, rfl, ?_⟩⟩
    refine iteT ?_
    refine ⟨_, rfl, t, _, 1, .ref b, rfl, rfl, SqT.of (s1 _ _ ht), rfl, b, r.2, rfl, s1 _ _ hb, ok.kk, ok.kl, fun H2 s2 => ?_⟩
    exact k H2 (s1.trans s2)
end
end K7
set_option Elab.async false
set_option linter.all false
set_option maxRecDepth 100000
set_option maxHeartbeats 4000000
namespace K7
open PySem L2 PyProof.Rows
abbrev Hs := List Str × List Rm
def RoomsAt (H : Hp) (vs : List V) (rs : List Rm) : Prop := vs.length = rs.length ∧ ∀ (i : Nat) (v : V) (r : Rm), vs[i]? = some v → rs[i]? = some r → RoomAt H v r
theorem RoomsAt.same {H H' : Hp} {vs : List V} {rs : List Rm} (s : Same H H') (h : RoomsAt H vs rs) : RoomsAt H' vs rs := ⟨h.1, fun i v r a b => (h.2 i v r a b).same s⟩
def HouseAt (H : Hp) (v : V) (h : Hs) : Prop := ∃ (t a r : Addr) (vs : List V), v = .ref t ∧ H t = some (.tup [.ref a, .ref r]) ∧ H a = some (.lst (h.1.map V.str)) ∧ H r = some (.lst vs) ∧ RoomsAt H vs h.2
theorem HouseAt.same {H H' : Hp} {v : V} {h : Hs} (s : Same H H') (x : HouseAt H v h) : HouseAt H' v h := by
  obtain ⟨t, a, r, vs, e, h1, h2, h3, h4⟩ := x
  exact ⟨t, a, r, vs, e, s _ _ h1, s _ _ h2, s _ _ h3, h4.same s⟩
structure HouseOk (h : Hs) : Prop where
  kk : ∀ k ∈ h.1, KindOk k
  kl : h.1.length ≤ 1000
  rs : ∀ r ∈ h.2, RoomOk r
  rl : h.2.length ≤ 1000
def spHouse : Sp := fun vs H Q _ => ∃ (v : V) (h : Hs), vs = [v] ∧ HouseAt H v h ∧ HouseOk h ∧ ∀ H', Same H H' → Q (.bl true) H'
def spReq : Sp := fun vs H Q _ => ∃ (v : V) (h : Hs), vs = [v] ∧ HouseAt H v h ∧ HouseOk h ∧ ∀ H', Same H H' → Q .non H'
section
variable {P : Program} {w : World} {K : PySem.W.Frag} {mg : Str → Option Value} {base : Heap}
theorem scHouse : FnScope ["thing", "keys", "rooms"] ["thing"] (defScope sHouse) := ⟨rfl, rfl, rfl, by decide +kernel, rfl, by decide +kernel, by decide +kernel⟩
abbrev houseComp : Expr := firstArg (lastPart (retExpr ((defBody sHouse).getD 2 (.Pass ⟨0, 0, 0, 0⟩))))
theorem ckHouse : compOk (defScope sHouse) (compScope houseComp) ["thing", "keys", "rooms"] ["room"] 1 [] = true := by decide +kernel
theorem nd4 : (["room"] : List Str).Nodup := by decide +kernel
theorem ok_house {f fR fK : Addr} {fd fdR fdK : FuncData} (F : Fun K "is_house" "is_house" sHouse f fd) (GR : FnOk P w K mg base CX0 4 fR fdR ["thing"] spRoom) (cR : Cal K mg "is_room" ["thing"] fR fdR)
    (GK : FnOk P w K mg base CX0 2 fK fdK ["thing"] spKinds) (cK : Cal K mg "are_kinds" ["thing"] fK fdK) (mI : mg "isinstance" = none) (mLe : mg "len" = none) (mTu : mg "tuple" = none) (mLi : mg "list" = none) (mAl : mg "all" = none) : FnOk P w K mg base CX0 5 f fd ["thing"] spHouse := by
  refine F.ok scHouse (fun vs H Q E h => ?_) (fun cdv A outer s H vs Q E hr h => ?_)
  · obtain ⟨v, r, rfl, _⟩ := h
    rfl
  · obtain ⟨v, hs, rfl, ⟨t, a, r, vs, rfl, ht, ha, hr', hR⟩, ok, k⟩ := h
    obtain ⟨S, Cp⟩ := comp_of (X := (cxOf CX0 P w K mg base ["thing", "keys", "rooms"] "is_house" (defScope sHouse) f cdv A outer s H E).nox) (outer := defScope sHouse) (N := ["thing", "keys", "rooms"]) rfl rfl ckHouse
    refine ⟨_, pss_cons (ps_if (PW.pt (pw_or (pt_not (pt_val (pe_callB call_isinst rfl mI (by decide +kernel) (pa_cons (pv 0) (pa_cons (pe_bltn (v := .ty "tuple") (u := .type "tuple") rfl mTu (by decide +kernel) rfl) pa_nil)))))
          (pw_or1 (pt_cmpR op_ne (pe_callB call_len_seq rfl mLe PySem.boot_len (pa_cons (pv 0) pa_nil)) pe_int (nomark _)))))
        (pss_one (ps_ret pe_bl)) pss_nil)
      (pss_cons (ps_asg (pv 0) (pg_tup rfl (pgs_cons (pg_name (i := 1) scHouse.nd rfl (Or.inl rfl)) (pgs_cons (pg_name (i := 2) scHouse.nd rfl (Or.inl rfl)) pgs_nil))))
      (pss_one (ps_ret (pe_and (pe_call GK (hr.mono (by decide)) rfl cK.mg cK.kp cK.b .nil pass0 (pa_cons (pv 1) pa_nil))
        (pe_and (pe_callB call_isinst rfl mI (by decide +kernel) (pa_cons (pv 2) (pa_cons (pe_bltn (v := .ty "list") (u := .type "list") rfl mLi (by decide +kernel) rfl) pa_nil)))
        (pe_one (pe_callB (call_all rfl) rfl mAl (by decide +kernel) (pa_cons (pe_lcomp (tg := .Name "room" _) rfl S Cp (pi_list (pv 2))
          (fun C fp s₀ H₀ => pg_name (i := 0) nd4 rfl (Or.inl rfl) (.inr rfl)) (fun C fp s₀ H₀ => pif_nil)
          (fun C fp s₀ H₀ => pe_call GR hr rfl cR.mg cR.kp cR.b .nil pass0 (pa_cons (pv 0) pa_nil))) pa_nil)))))))), ?_⟩
    refine ⟨_, rfl, _, _, _, true, rfl, .tup ht, kit_same K _, true, rfl, ?_⟩
    refine iteF ?_
    refine ⟨_, rfl, t, _, rfl, .inr (SqT.of ht), rfl, false, rfl, ?_⟩
    refine iteF ?_
    refine ⟨_, rfl, t, _, rfl, SqT.of ht, rfl, _, _, rfl, _, _, rfl, rfl, ?_⟩
    refine ⟨_, rfl, a, hs.1, rfl, ha, ok.kk, ok.kl, fun H1 s1 => ⟨true, rfl, ?_⟩⟩
    refine iteT ?_
    refine ⟨_, rfl, _, _, _, true, rfl, .lst (s1 _ _ hr'), kit_same K _, true, rfl, ?_⟩
    refine iteT ?_
    dsimp only [tNext, tRet, tCB, tCons, tNil]
    refine lcomp_eq _ _ _ _ _ _ _ _ _ ?_
    refine ⟨_, rfl, r, rfl, ⟨_, SqL.of (s1 _ _ hr')⟩, ?_⟩
    intro D hD
    have hl : vs.length ≤ 1000 := by rw [hR.1]; exact ok.rl
    refine comp_list (xs := vs) (fun i ys H2 => ys = (List.replicate i true).map V.bl ∧ i ≤ 1000 ∧ H2 D = some (.lst ys) ∧ Same H1 H2) ⟨rfl, by decide, upd_same, fun b u e => by rw [upd_ne (ne_of_none e hD)]; exact e⟩ (fun i ys H2 ⟨_, _, h, _⟩ => h) (fun i ys H2 ⟨_, _, _, sm⟩ => SqL.of (sm r _ (s1 _ _ hr'))) ?_ ?_
    · rintro i ys H2 x hx ⟨rfl, hi0, hD2, sm⟩
      have hi : i < vs.length := (List.getElem?_eq_some_iff.mp hx).1
      have hi' : i < hs.2.length := by rw [← hR.1]; exact hi
      refine turn_name rfl ?_
      refine ⟨_, rfl, x, hs.2[i], rfl, ((hR.2 i x _ hx (List.getElem?_eq_getElem hi')).same s1).same sm, ok.rs _ (List.getElem_mem hi'), fun H3 sm3 => ?_⟩
      refine ⟨sm3 D _ hD2, by rw [List.length_map, List.length_replicate]; exact small1000 (by omega), nx hi ⟨?_, by omega, upd_same, fun b u e => ?_⟩⟩
      · rw [List.replicate_succ', List.map_append]
        rfl
      · rw [upd_ne (ne_of_none e hD)]
        exact sm3 b u (sm b u e)
    · rintro ys H2 ⟨rfl, _, hD2, sm⟩
      refine ⟨D, List.replicate vs.length true, rfl, SqL.of hD2, ?_⟩
      have e : (List.replicate vs.length true).all id = true := by simp
      rw [e]
      exact k H2 (s1.trans sm)
theorem scReq : FnScope ["thing"] ["thing"] (defScope sReq) := ⟨rfl, rfl, rfl, by decide +kernel, rfl, by decide +kernel, by decide +kernel⟩
theorem ok_req {f fH : Addr} {fd fdH : FuncData} (F : Fun K "require_house" "require_house" sReq f fd) (GH : FnOk P w K mg base CX0 5 fH fdH ["thing"] spHouse) (cH : Cal K mg "is_house" ["thing"] fH fdH) : FnOk P w K mg base CX0 6 f fd ["thing"] spReq := by
  refine F.ok scReq (fun vs H Q E h => ?_) (fun cdv A outer s H vs Q E hr h => ?_)
  · obtain ⟨v, r, rfl, _⟩ := h
    rfl
  · obtain ⟨v, hs, rfl, hh, ok, k⟩ := h
    refine ⟨_, pss_one (ps_if (pt_not (pt_val (pe_call GH hr rfl cH.mg cH.kp cH.b .nil pass0 (pa_cons (pv 0) pa_nil)))) pss_never pss_nil), ?_⟩
    refine ⟨_, rfl, v, hs, rfl, hh, ok, fun H1 s1 => ⟨true, rfl, ?_⟩⟩
    refine iteF ?_
    exact k H1 s1
end
end K7
set_option Elab.async false
set_option linter.all false
set_option maxRecDepth 100000
set_option maxHeartbeats 4000000
namespace K7
open PySem L2 PyProof.Rows
def RoomOff (D : Addr) (H : Hp) (v : V) (r : Rm) : Prop := ∃ t a b : Addr, v = .ref t ∧ H t = some (.tup [.ref a, .ref b]) ∧ H a = some (.lst (r.1.map V.str)) ∧ H b = some (.lst (r.2.map V.str)) ∧ t ≠ D ∧ a ≠ D ∧ b ≠ D
theorem RoomOff.at {D : Addr} {H : Hp} {v : V} {r : Rm} (h : RoomOff D H v r) : RoomAt H v r := let ⟨t, a, b, e, h1, h2, h3, _⟩ := h; ⟨t, a, b, e, h1, h2, h3⟩
theorem RoomOff.on {D : Addr} {H H' : Hp} {v : V} {r : Rm} (h : RoomOff D H v r) (s : ∀ b u, b ≠ D → H b = some u → H' b = some u) : RoomOff D H' v r := by
  obtain ⟨t, a, b, e, h1, h2, h3, n1, n2, n3⟩ := h
  exact ⟨t, a, b, e, s _ _ n1 h1, s _ _ n2 h2, s _ _ n3 h3, n1, n2, n3⟩
section
variable {P : Program} {w : World} {K : PySem.W.Frag} {mg : Str → Option Value} {base : Heap}
end
end K7
set_option Elab.async false
set_option linter.all false
set_option maxRecDepth 100000
set_option maxHeartbeats 4000000
namespace L2
open PySem PySem.Spec PyProof.Rows
section
variable {X : Cx} {o e : Expr} {es : List Expr} {to : TE} {t : TA} {name : Str} {apos cpos : Pos} {T id : String} {r : V → List V → Hp → VK → Prop} {K : PySem.W.Frag}
end
end L2
namespace K7
open PySem L2 PyProof.Rows
def allKeys (h : Hs) : List Str := h.1 ++ h.2.flatMap (·.2)
def allLocks (h : Hs) : List Str := h.2.flatMap (·.1)
structure HouseFew (h : Hs) : Prop where
  few : ∃ U : List Str, U.length < 64 ∧ ∀ x, (x ∈ allKeys h ∨ x ∈ allLocks h) → x ∈ U
  nk : (allKeys h).length ≤ 1000
  nl : (allLocks h).length ≤ 1000
theorem flat_take {α β : Type} (f : α → List β) (l : List α) (i : Nat) : ((l.take i).flatMap f).length ≤ (l.flatMap f).length := by
  have e : l.flatMap f = (l.take i).flatMap f ++ (l.drop i).flatMap f := by rw [← List.flatMap_append, List.take_append_drop]
  rw [e, List.length_append]
  omega
theorem flat_succ {α β : Type} (f : α → List β) (l : List α) (i : Nat) (hi : i < l.length) : (l.take (i + 1)).flatMap f = (l.take i).flatMap f ++ f l[i] := by
  rw [List.take_add_one, List.getElem?_eq_getElem hi, List.flatMap_append]
  simp
end K7
set_option Elab.async false
set_option linter.all false
set_option maxRecDepth 100000
set_option maxHeartbeats 4000000
namespace L2
open PySem PySem.Spec PyProof.Rows
theorem call_isinstK {X : Cx} {K : PySem.W.Frag} (hK : X.K = K) : CallR X (.builtin "isinstance") (fun xs H Q => ∃ (x : V) (T : String) (t : Value) (b : Bool), xs = [x, .ty T] ∧ TyOf K H x t ∧ PySem.W.kitOne K t (.type T) = some b ∧ Q (.bl b) H) := by
  subst hK
  exact call_isinst
end L2
namespace K7
open PySem L2 PyProof.Rows
def forBody (s : Stmt) : List Stmt := match s with
  | .For _ _ b _ _ => b
  | _ => []
end K7
set_option Elab.async false
set_option linter.all false
set_option maxRecDepth 100000
set_option maxHeartbeats 4000000
namespace K7
open PySem L2 PyProof.Rows
theorem letters_codes : lettersS.cps.toList = List.range' 97 26 := by decide +kernel
theorem letters_at (r : Nat) (h : r < 26) : atI lettersS.cps.toList (r : Int) = some (97 + r) := atI_nat (by rw [letters_codes, List.getElem?_range' h]; simp)
theorem letters_len : lettersS.length ≤ sizeLine := by decide
def CodesOk (l : List Nat) : Prop := 1 ≤ l.length ∧ l.length ≤ 4 ∧ ∀ c ∈ l, 97 ≤ c ∧ c ≤ 122
theorem kind_of {z : Str} (h : CodesOk z.cps.toList) : KindOk z := by
  obtain ⟨h1, h2, h3⟩ := h
  have e : z.cps.toList.length = z.length := Array.length_toList
  exact ⟨by omega, by omega, h3⟩
theorem of_kind {z : Str} (h : KindOk z) : CodesOk z.cps.toList := by
  obtain ⟨h1, h2, h3⟩ := h
  have e : z.cps.toList.length = z.length := Array.length_toList
  exact ⟨by omega, by omega, h3⟩
def wordOf (t : Nat) : Str := ⟨#[97 + t / 26, 97 + t % 26, 122, 122]⟩
theorem word_inj {s t : Nat} (h : wordOf s = wordOf t) : s = t := by
  unfold wordOf at h
  injection h with h
  have h' := congrArg Array.toList h
  simp only [List.cons.injEq] at h'
  omega
theorem word_ok {t : Nat} (h : t < 676) : KindOk (wordOf t) := by
  refine ⟨by show 1 ≤ 4; decide, by show 4 ≤ 4; decide, fun c hc => ?_⟩
  have hc' : c ∈ [97 + t / 26, 97 + t % 26, 122, 122] := hc
  simp only [List.mem_cons, List.not_mem_nil, or_false] at hc'
  omega
def spMade : Sp := fun vs H Q _ => ∃ (p : Addr) (n : Nat) (c : Int), vs = [.ref p, .int n] ∧ PoolAt H p c ∧ n ≤ 60 ∧ 0 ≤ c ∧ c + 540 < 1000000 ∧
  ∀ (l : Addr) (ks : List Str) (c' : Int) (H' : Hp), H l = none → ks.length = n → (∀ k ∈ ks, KindOk k) → ks.Nodup → H' l = some (.lst (ks.map V.str)) → PoolAt H' p c' → c ≤ c' → c' ≤ c + 540 → But p H H' → Q (.ref l) H'
theorem ones_codes : ∀ {ss : List Str}, (∀ x ∈ ss, ∃ c, x = ⟨#[c]⟩ ∧ 97 ≤ c ∧ c ≤ 122) → ((ss.map (·.cps.toList)).flatten).length = ss.length ∧ ∀ c ∈ (ss.map (·.cps.toList)).flatten, 97 ≤ c ∧ c ≤ 122
  | [], _ => ⟨rfl, (fun c h => by simp at h)⟩
  | a :: r, h => by
    obtain ⟨c, rfl, h1, h2⟩ := h a List.mem_cons_self
    obtain ⟨i1, i2⟩ := ones_codes (ss := r) fun x hx => h x (List.mem_cons_of_mem _ hx)
    rw [List.map_cons, List.flatten_cons]
    refine ⟨?_, fun d hd => ?_⟩
    · rw [List.length_append, i1, List.length_cons]
      show 1 + r.length = r.length + 1
      omega
    · rcases List.mem_append.mp hd with hd | hd
      · have : d = c := by simpa using hd
        omega
      · exact i2 d hd
theorem ones_sum : ∀ {ss : List Str}, (∀ x ∈ ss, ∃ c, x = ⟨#[c]⟩ ∧ 97 ≤ c ∧ c ≤ 122) → (ss.map (·.length)).sum = ss.length
  | [], _ => rfl
  | a :: r, h => by
    obtain ⟨c, rfl, h1, h2⟩ := h a List.mem_cons_self
    rw [List.map_cons, List.sum_cons, ones_sum fun x hx => h x (List.mem_cons_of_mem _ hx), List.length_cons]
    show 1 + r.length = r.length + 1
    omega
theorem in_strs (z : Str) (ks : List Str) : inV (.str z) (ks.map V.str) = decide (z ∈ ks) := by
  unfold inV
  induction ks with
  | nil => rfl
  | cons a r ih =>
    rw [List.map_cons, List.any_cons, ih]
    show (a == z || decide (z ∈ r)) = _
    by_cases e : a = z
    · subst e; simp
    · have e' : (a == z) = false := by simpa using e
      rw [e', Bool.false_or]
      by_cases hz : z ∈ r
      · simp [hz]
      · simp [hz, Ne.symm e]
theorem flat_strs (ks : List Str) : (ks.map V.str).all flatV = true := by
  rw [List.all_map, List.all_eq_true]
  intro _ _
  rfl
theorem kind_size {z : Str} (h : KindOk z) : z.length ≤ sizeLine := Nat.le_of_lt (small1000 (by have := h.2.1; omega))
theorem last_of {ks : List Str} (h : ks ≠ []) : ∃ y, y ∈ ks ∧ atI (ks.map V.str) (-1) = some (.str y) := by
  rcases List.eq_nil_or_concat ks with e | ⟨r, y, e⟩
  · exact absurd e h
  · rw [List.concat_eq_append] at e
    subst e
    exact ⟨y, by simp, by rw [List.map_append]; exact atI_last _ _⟩
theorem eqv_nil (ks : List Str) : PyData.eqv (.list (ks.map PyData.str)) (.list []) = ks.isEmpty := by
  cases ks with
  | nil => rfl
  | cons a r => rfl
def asgVal (s : Stmt) : Expr := match s with
  | .Assign _ e _ => e
  | _ => .Name "" ⟨0, 0, 0, 0⟩
section
variable {P : Program} {w : World} {K : PySem.W.Frag} {mg : Str → Option Value} {base : Heap}
theorem scMade : FnScope ["pool", "many", "letters", "found", "k", "kind", "way", "at", "turn"] ["pool", "many"] (defScope sMade) := ⟨rfl, rfl, rfl, by decide +kernel, rfl, by decide +kernel, by decide +kernel⟩
abbrev madeComp : Expr := firstArg (asgVal ((forBody ((defBody sMade).getD 2 (.Pass ⟨0, 0, 0, 0⟩))).getD 0 (.Pass ⟨0, 0, 0, 0⟩)))
theorem ckMade : compOk (defScope sMade) (compScope madeComp) ["pool", "many", "letters", "found", "k", "kind", "way", "at", "turn"] ["j", "letters", "pool"] 1 [2, 0] = true := by decide +kernel
theorem nd8 : (["j", "letters", "pool"] : List Str).Nodup := by decide +kernel
theorem ok_made {f fT : Addr} {fd fdT : FuncData} (F : Fun K "_law_kinds" "_law_kinds" sMade f fd) (GT : FnOk P w K mg base CX0 1 fT fdT ["pool", "many"] spTake) (cT : Cal K mg "_law_take" ["pool", "many"] fT fdT) (mR : mg "range" = none) (mL : mg "len" = none) :
    FnOk P w K mg base CX0 2 f fd ["pool", "many"] spMade := by
  refine F.ok scMade (fun vs H Q E h => ?_) (fun cdv A outer s H vs Q E hr h => ?_)
  · obtain ⟨p, n, c, rfl, _⟩ := h
    rfl
  · obtain ⟨p, n, c, rfl, ⟨o, hp, hpo⟩, hn, hc, hcn, k⟩ := h
    have hu := hu_of hr
    obtain ⟨S, Cp⟩ := comp_of (X := (cxOf CX0 P w K mg base ["pool", "many", "letters", "found", "k", "kind", "way", "at", "turn"] "_law_kinds" (defScope sMade) f cdv A outer s H E).nox) (outer := defScope sMade) (N := ["pool", "many", "letters", "found", "k", "kind", "way", "at", "turn"]) rfl rfl ckMade
    have tk : ∀ {b : Expr} {t : TE}, PE (cxOf CX0 P w K mg base ["pool", "many", "letters", "found", "k", "kind", "way", "at", "turn"] "_law_kinds" (defScope sMade) f cdv A outer s H E).nox b t → True := fun _ => trivial
    refine ⟨_, pss_cons (ps_set (i := 2) scMade.nd rfl (Or.inr rfl) pe_str)
      (pss_cons (ps_set (i := 3) scMade.nd rfl (Or.inl rfl) (pe_lst pa_nil))
      (pss_cons (ps_for PassesOwn.never rfl (pi_range1 rfl mR (pa_cons (pv 1) pa_nil)) (pg_name (i := 4) scMade.nd rfl (Or.inl rfl))
        (pss_cons (ps_cut (ps_set (i := 5) scMade.nd rfl (Or.inl rfl) (pe_bm PySem.F.plainAttrs_str PySem.F.slot_str_join PySem.F.type_str_join mt_join pe_str (pa_cons (pe_lcomp (tg := .Name "j" _) rfl S Cp
            (pi_range1 rfl mR (pa_cons (pe_op op_add pe_int (pe_call GT hr rfl cT.mg cT.kp cT.b .nil pass0 (pa_cons (pv 0) (pa_cons pe_int pa_nil)))) pa_nil))
            (fun C fp s₀ H₀ => pg_name (i := 0) nd8 rfl (Or.inl rfl) (.inr rfl)) (fun C fp s₀ H₀ => pif_nil)
            (fun C fp s₀ H₀ => pe_ix ix_str (pv 1) (pe_call GT hr rfl cT.mg cT.kp cT.b .nil pass0 (pa_cons (pv 2) (pa_cons pe_int pa_nil))) (fun _ _ => rfl))) pa_nil))))
        (pss_cons (ps_set (i := 6) scMade.nd rfl (Or.inl rfl) (pe_call GT hr rfl cT.mg cT.kp cT.b .nil pass0 (pa_cons (pv 0) (pa_cons pe_int pa_nil))))
        (pss_cons (ps_cut (ps_if (PW.pt (pw_and (pt_cmpR op_eq (pv 6) pe_int (nomark _)) (pw_and1 (pt_cmpR op_neD (pv 3) (pe_lst pa_nil) (nomark _)))))
          (pss_one (ps_set (i := 5) scMade.nd rfl (Or.inl rfl) (pe_slice sl_str (pe_op op_add_str (pe_ix ix_list (pv 3) (pe_un un_neg pe_int) (fun _ _ => rfl)) (pe_ix ix_str (pv 2) (pe_call GT hr rfl cT.mg cT.kp cT.b .nil pass0 (pa_cons (pv 0) (pa_cons pe_int pa_nil))) (fun _ _ => rfl))) po_none (po_some pe_int)))) pss_nil))
        (pss_cons (ps_cut (ps_if (PW.pt (pw_and (pt_cmpR op_eq (pv 6) pe_int (nomark _)) (pw_and1 (pt_cmpR op_neD (pv 3) (pe_lst pa_nil) (nomark _)))))
          (pss_cons (ps_set (i := 7) scMade.nd rfl (Or.inl rfl) (pe_call GT hr rfl cT.mg cT.kp cT.b .nil pass0 (pa_cons (pv 0) (pa_cons (pe_callB call_len_str rfl mL PySem.boot_len (pa_cons (pe_ix ix_list (pv 3) (pe_un un_neg pe_int) (fun _ _ => rfl)) pa_nil)) pa_nil))))
          (pss_one (ps_set (i := 5) scMade.nd rfl (Or.inl rfl) (pe_op op_add_str (pe_op op_add_str (pe_slice sl_str (pe_ix ix_list (pv 3) (pe_un un_neg pe_int) (fun _ _ => rfl)) po_none (po_some (pv 7)))
              (pe_ix ix_str (pv 2) (pe_call GT hr rfl cT.mg cT.kp cT.b .nil pass0 (pa_cons (pv 0) (pa_cons pe_int pa_nil))) (fun _ _ => rfl)))
            (pe_slice sl_str (pe_ix ix_list (pv 3) (pe_un un_neg pe_int) (fun _ _ => rfl)) (po_some (pe_op op_add (pv 7) pe_int)) po_none))))) pss_nil))
        (pss_cons (ps_set (i := 8) scMade.nd rfl (Or.inl rfl) pe_int)
        (pss_cons (ps_while PassesOwn.never (pt_cmpR op_in_seq (pv 5) (pv 3) rfl)
          (pss_cons (ps_set (i := 5) scMade.nd rfl (Or.inl rfl) (pe_op op_add_str (pe_op op_add_str (pe_ix ix_str (pv 2) (pe_op op_fdiv (pv 8) pe_int) (fun _ _ => rfl)) (pe_ix ix_str (pv 2) (pe_op op_mod (pv 8) pe_int) (fun _ _ => rfl))) pe_str))
          (pss_one (ps_set (i := 8) scMade.nd rfl (Or.inl rfl) (pe_op op_add (pv 8) pe_int)))))
        (pss_one (ps_expr (pe_bm PySem.F.plainAttrs_list PySem.F.slot_list_append PySem.F.type_list_append mt_append (pv 3) (pa_cons (pv 5) pa_nil)))))))))))
      (pss_one (ps_ret (pv 3))))), ?_⟩
    refine ⟨Nat.zero_le _, fun l hl => ?_⟩
    have npl : p ≠ l := ne_of_none hp hl
    refine ⟨_, rfl, (n : Int), rfl, by omega, by omega, ?_⟩
    rw [Int.toNat_natCast]
    refine for_range (fun i σ H2 => ∃ (x4 x5 x6 x7 x8 : Option V) (ks : List Str) (c' : Int), σ = [some (.ref p), some (.int n), some (.str lettersS), some (.ref l), x4, x5, x6, x7, x8] ∧ ks.length = i ∧ (∀ k ∈ ks, KindOk k) ∧ ks.Nodup ∧ H2 l = some (.lst (ks.map V.str)) ∧ PoolAt H2 p c' ∧ c ≤ c' ∧ c' ≤ c + 9 * i ∧ But p H H2) ?_ ?_ ?_
    · exact ⟨none, none, none, none, none, [], c, rfl, rfl, (fun k h => nomatch h), List.nodup_nil, upd_same, ⟨o, by rw [upd_ne npl]; exact hp, hpo⟩, Int.le_refl _, by omega, (But.refl p H).new hl⟩
    · rintro i σ H2 hi ⟨x4, x5, x6, x7, x8, ks, c1, rfl, hkl, hko, hkn, hl2, ⟨o2, hp2, hpo2⟩, hc1, hc1', hb⟩
      have sk : ks.length ≤ 60 := by omega
      have keepL : ∀ {H3 : Hp}, But p H2 H3 → H3 l = some (.lst (ks.map V.str)) := fun b => b l _ (Ne.symm npl) hl2
      refine ⟨fun σ' H' => ∃ (x6 x7 x8 : Option V) (z : Str) (c' : Int), σ' = [some (.ref p), some (.int n), some (.str lettersS), some (.ref l), some (.int (0 + i)), some (.str z), x6, x7, x8] ∧ KindOk z ∧ PoolAt H' p c' ∧ c1 ≤ c' ∧ c' ≤ c1 + 5 ∧ But p H2 H', ?_, ?_⟩
      · rintro σ H3 ⟨x6, x7, x8, z, c2, rfl, hz, ⟨o3, hp3, hpo3⟩, g1, g2, b3⟩
        refine ⟨_, rfl, p, 4, c2, o3, rfl, hp3, hpo3, by decide, by decide, by omega, by omega, fun wy c3 o4 w0 w1 g3 g4 hpo4 => ?_⟩
        have b4 : But p H2 (upd H3 p o4) := b3.trans But.upd
        generalize hH4 : upd H3 p o4 = H4 at b4
        have hp4 : H4 p = some o4 := by rw [← hH4]; exact upd_same
        have hl4 := keepL b4
        have seesL : ∀ {H' : Hp}, H' l = some (.lst (ks.map V.str)) → Sees H' (.ref l) (.list (ks.map PyData.str)) := fun e => .lst e (SeesAll.strs ks)
        have unit : (A.deeper (envOfC "_law_kinds" (defScope sMade) s.heap.objs.size f cdv)).units + min (PyData.depth (.list (ks.map PyData.str))) (PyData.depth (.list [])) < cLine := by
          show _ + min (PyData.depthAll (ks.map PyData.str) + 1) 1 < cLine
          rw [strs_depth]
          exact hu
        refine ⟨fun σ' H' => ∃ (x7 x8 : Option V) (z : Str) (c' : Int), σ' = [some (.ref p), some (.int n), some (.str lettersS), some (.ref l), some (.int (0 + i)), some (.str z), some (.int wy), x7, x8] ∧ KindOk z ∧ PoolAt H' p c' ∧ c1 ≤ c' ∧ c' ≤ c1 + 7 ∧ But p H2 H', ?_, ?_⟩
        · rintro σ H5 ⟨x7, x8, z, c4, rfl, hz, ⟨o5, hp5, hpo5⟩, g5, g6, b5⟩
          have hl5 := keepL b5
          refine ⟨fun σ' H' => ∃ (x7 x8 : Option V) (z : Str) (c' : Int), σ' = [some (.ref p), some (.int n), some (.str lettersS), some (.ref l), some (.int (0 + i)), some (.str z), some (.int wy), x7, x8] ∧ KindOk z ∧ PoolAt H' p c' ∧ c1 ≤ c' ∧ c' ≤ c1 + 9 ∧ But p H2 H', ?_, ?_⟩
          · rintro σ H6 ⟨x7, x8, z, c5, rfl, hz, hp6, g7, g8, b6⟩
            have hl6 := keepL b6
            refine ⟨fun m σ' H' => H' = H6 ∧ ∃ (z : Str) (t : Nat), σ' = [some (.ref p), some (.int n), some (.str lettersS), some (.ref l), some (.int (0 + i)), some (.str z), some (.int wy), x7, some (.int t)] ∧ m = 100 - t ∧ t ≤ 61 ∧ KindOk z ∧ (∀ t', t = t' + 1 → z = wordOf t') ∧ ∀ j, j + 1 < t → wordOf j ∈ ks, ⟨100, rfl, z, 0, rfl, rfl, by decide, hz, (fun t' e => by omega), (fun j h => by omega)⟩, ?_⟩
            rintro m σ' H' ⟨rfl, z, t, rfl, rfl, ht, hz, hzt, hw⟩
            by_cases hin : z ∈ ks
            · refine ⟨_, rfl, _, rfl, l, _, rfl, .inl (SqL.of hl6), rfl, flat_strs ks, true, congrArg V.bl (by rw [if_neg Bool.false_ne_true, in_strs, decide_eq_true hin]), iteT ?_⟩
              have all : ∀ j, j < t → wordOf j ∈ ks := fun j hj => by
                by_cases e : j + 1 = t
                · have := hzt j e.symm
                  rw [← this]; exact hin
                · exact hw j (by omega)
              have tl : t ≤ ks.length := pigeon t wordOf ks (fun a b _ _ e => word_inj e) all
              refine ⟨fun σ' H'' => H'' = H' ∧ σ' = [some (.ref p), some (.int n), some (.str lettersS), some (.ref l), some (.int (0 + i)), some (.str (wordOf t)), some (.int wy), x7, some (.int ((t + 1 : Nat) : Int))], ?_, ?_⟩
              · rintro σ' H'' ⟨rfl, rfl⟩
                refine ⟨100 - (t + 1), by omega, rfl, wordOf t, t + 1, rfl, rfl, by omega, word_ok (by omega), fun t' e => ?_, fun j hj => all j (by omega)⟩
                have : t = t' := by omega
                rw [this]
              · refine ⟨_, rfl, _, rfl, _, 26, rfl, rfl, ⟨by decide, by decide⟩, lettersS, _, 97 + t / 26, rfl, rfl, letters_len, ?_, ?_⟩
                · rw [show ((t : Int) / 26) = ((t / 26 : Nat) : Int) from by omega]
                  exact letters_at _ (by omega)
                refine ⟨_, rfl, _, rfl, _, 26, rfl, rfl, (by show (0 : Int) < 26; decide), lettersS, _, 97 + t % 26, rfl, rfl, letters_len, ?_, ?_⟩
                · rw [show ((t : Int) % 26) = ((t % 26 : Nat) : Int) from by omega]
                  exact letters_at _ (by omega)
                refine ⟨_, _, rfl, rfl, by show 1 + 1 ≤ sizeLine; decide, _, _, rfl, rfl, by show 2 + 2 ≤ sizeLine; decide, ?_⟩
                refine ⟨_, rfl, _, 1, rfl, rfl, rfl, ?_⟩
                rfl
            · refine ⟨_, rfl, _, rfl, l, _, rfl, .inl (SqL.of hl6), rfl, flat_strs ks, false, congrArg V.bl (by rw [if_neg Bool.false_ne_true, in_strs, decide_eq_false hin]), iteF ?_⟩
              refine ⟨_, rfl, .inl ⟨rfl, _, SqL.of hl6⟩, _, rfl, l, _, _, rfl, rfl, hl6, by rw [List.length_map]; exact small1000 (by omega), ?_⟩
              refine ⟨_, _, _, _, _, ks ++ [z], c5, rfl, by rw [List.length_append, hkl]; rfl, fun k hk => ?_, ?_, by rw [upd_same, List.map_append]; rfl, ?_, by omega, by omega, fun b u hb' e => ?_⟩
              · rcases List.mem_append.mp hk with hk | hk
                · exact hko k hk
                · rw [List.mem_singleton.mp hk]; exact hz
              · exact nodup_perm_snoc hkn hin (.refl _)
              · obtain ⟨o6, q1, q2⟩ := hp6
                exact ⟨o6, by rw [upd_ne npl]; exact q1, q2⟩
              · rw [upd_ne (ne_of_none e hl)]
                exact b6 b u hb' (hb b u hb' e)
          · refine ⟨_, rfl, rfl, _, rfl, ?_⟩
            refine ite2 (fun _ => ?_) (fun _ => ?_)
            · refine ⟨_, rfl, Nat.zero_le _, fun e ne => ?_⟩
              have b6 : But p H2 (upd H5 e (.lst [])) := fun b u hb' q => by rw [upd_ne (ne_of_none (b5 b u hb' q) ne)]; exact b5 b u hb' q
              have npe : p ≠ e := ne_of_none hp5 ne
              have hp6 : (upd H5 e (.lst [])) p = some o5 := by rw [upd_ne npe]; exact hp5
              generalize hH6 : upd H5 e (.lst []) = H6 at b6 hp6
              have hl6 := keepL b6
              refine ⟨_, _, seesL hl6, .lst (by rw [← hH6]; exact upd_same) .nil, strs_lay hko, rfl, unit, ?_⟩
              rw [eqv_nil]
              cases hks : ks with
              | nil =>
                refine ⟨false, rfl, ?_⟩
                refine iteF ?_
                exact ⟨_, _, z, c4, rfl, hz, ⟨o5, hp6, hpo5⟩, by omega, by omega, b6⟩
              | cons k0 kr =>
                refine ⟨true, rfl, ?_⟩
                refine iteT ?_
                obtain ⟨y, hy, ha⟩ := last_of (show ks ≠ [] by rw [hks]; exact List.cons_ne_nil _ _)
                have yo := of_kind (hko y hy)
                have yk := hko y hy
                have yl : y.cps.toList.length = y.length := Array.length_toList
                refine ⟨_, rfl, _, rfl, 1, rfl, l, _, _, _, rfl, rfl, SqL.of hl6, ha, y, rfl, kind_size yk, ?_⟩
                refine ⟨p, (y.length : Nat), c4, o5, rfl, hp6, hpo5, by have := yk.1; omega, by have := yk.2.1; omega, by omega, by omega, fun a c5 o6 a0 a1 g7 g8 hpo6 => ?_⟩
                obtain ⟨an, rfl⟩ : ∃ an : Nat, a = (an : Int) := ⟨a.toNat, by omega⟩
                have b7 : But p H2 (upd H6 p o6) := b6.trans But.upd
                have hl7 := keepL b7
                refine ⟨_, rfl, 1, rfl, l, _, _, _, rfl, rfl, SqL.of hl7, ha, _, rfl, an, rfl, y, rfl, kind_size yk, ?_⟩
                refine ⟨_, rfl, _, rfl, p, 26, c5, o6, rfl, upd_same, hpo6, by decide, by decide, by omega, by omega, fun q c6 o7 q0 q1 g9 g10 hpo7 => ?_⟩
                obtain ⟨qn, rfl⟩ : ∃ qn : Nat, q = (qn : Int) := ⟨q.toNat, by omega⟩
                refine ⟨lettersS, _, 97 + qn, rfl, rfl, letters_len, letters_at qn (by omega), ?_⟩
                have b8 : But p H2 (upd (upd H6 p o6) p o7) := b7.trans But.upd
                have hl8 := keepL b8
                have s1 := slice_to y an
                have s2 := slice_from y (an + 1)
                generalize Txt.slice y none (some (an : Int)) = u1 at s1 ⊢
                have l1 : u1.length = min an y.length := by
                  have : u1.cps.toList.length = u1.length := Array.length_toList
                  rw [← this, s1, List.length_take, yl]
                have y4 := yk.2.1
                have le : (((⟨#[97 + qn]⟩ : Str)).cps.toList).length = 1 := rfl
                refine ⟨u1, ⟨#[97 + qn]⟩, rfl, rfl, Nat.le_of_lt (small1000 (by show u1.length + 1 ≤ 1000; omega)), ?_⟩
                refine ⟨_, rfl, 1, rfl, l, _, _, _, rfl, rfl, SqL.of hl8, ha, _, rfl, _, 1, rfl, rfl, _, rfl, y, rfl, kind_size yk, ?_⟩
                rw [show ((an : Int) + 1) = ((an + 1 : Nat) : Int) from by omega]
                generalize Txt.slice y (some ((an + 1 : Nat) : Int)) none = u2 at s2 ⊢
                have l2 : u2.length = y.length - (an + 1) := by
                  have : u2.cps.toList.length = u2.length := Array.length_toList
                  rw [← this, s2, List.length_drop, yl]
                have l3 : (u1 ++ (⟨#[97 + qn]⟩ : Str)).length = u1.length + 1 := by
                  have e1 : (u1 ++ (⟨#[97 + qn]⟩ : Str)).cps.toList.length = (u1 ++ (⟨#[97 + qn]⟩ : Str)).length := Array.length_toList
                  have e2 : u1.cps.toList.length = u1.length := Array.length_toList
                  rw [← e1, app_codes, List.length_append, e2]
                  rfl
                refine ⟨_, u2, rfl, rfl, Nat.le_of_lt (small1000 (by rw [l3]; omega)), ?_⟩
                refine ⟨_, _, _, c6, rfl, kind_of ?_, ⟨o7, upd_same, hpo7⟩, by omega, by omega, b8⟩
                rw [app_codes, app_codes, s1, s2]
                refine ⟨?_, ?_, fun c hc => ?_⟩
                · rw [List.length_append, List.length_append, le]; omega
                · rw [List.length_append, List.length_append, le, List.length_take, List.length_drop, yl]; omega
                · rcases List.mem_append.mp hc with hc | hc
                  · rcases List.mem_append.mp hc with hc | hc
                    · exact yo.2.2 c (List.mem_of_mem_take hc)
                    · have : c = 97 + qn := by simpa using hc
                      omega
                  · exact yo.2.2 c (List.mem_of_mem_drop hc)
            · refine iteF ?_
              exact ⟨_, _, z, c4, rfl, hz, ⟨o5, hp5, hpo5⟩, by omega, by omega, b5⟩
        · refine ⟨_, rfl, rfl, _, rfl, ?_⟩
          refine ite2 (fun _ => ?_) (fun _ => ?_)
          · refine ⟨_, rfl, Nat.zero_le _, fun e ne => ?_⟩
            have b5 : But p H2 (upd H4 e (.lst [])) := fun b u hb' q => by rw [upd_ne (ne_of_none (b4 b u hb' q) ne)]; exact b4 b u hb' q
            have npe : p ≠ e := ne_of_none hp4 ne
            have hp5 : (upd H4 e (.lst [])) p = some o4 := by rw [upd_ne npe]; exact hp4
            generalize hH5 : upd H4 e (.lst []) = H5 at b5 hp5
            have hl5 := keepL b5
            refine ⟨_, _, seesL hl5, .lst (by rw [← hH5]; exact upd_same) .nil, strs_lay hko, rfl, unit, ?_⟩
            rw [eqv_nil]
            cases hks : ks with
            | nil =>
              refine ⟨false, rfl, ?_⟩
              refine iteF ?_
              exact ⟨_, _, z, c3, rfl, hz, ⟨o4, hp5, hpo4⟩, by omega, by omega, b5⟩
            | cons k0 kr =>
              refine ⟨true, rfl, ?_⟩
              refine iteT ?_
              obtain ⟨y, hy, ha⟩ := last_of (show ks ≠ [] by rw [hks]; exact List.cons_ne_nil _ _)
              have yo := of_kind (hko y hy)
              refine ⟨_, rfl, 1, rfl, l, _, _, _, rfl, rfl, SqL.of hl5, ha, ?_⟩
              refine ⟨_, rfl, _, rfl, p, 26, c3, o4, rfl, hp5, hpo4, by decide, by decide, by omega, by omega, fun q c4 o5 q0 q1 g5 g6 hpo5 => ?_⟩
              obtain ⟨qn, rfl⟩ : ∃ qn : Nat, q = (qn : Int) := ⟨q.toNat, by omega⟩
              refine ⟨lettersS, _, 97 + qn, rfl, rfl, letters_len, letters_at qn (by omega), ?_⟩
              have sz : (y ++ (⟨#[97 + qn]⟩ : Str)).length ≤ 5 := by
                have e1 : (y ++ (⟨#[97 + qn]⟩ : Str)).cps.toList.length = (y ++ (⟨#[97 + qn]⟩ : Str)).length := Array.length_toList
                have e2 := congrArg List.length (app_codes y ⟨#[97 + qn]⟩)
                rw [List.length_append] at e2
                have e3 : ((⟨#[97 + qn]⟩ : Str).cps.toList).length = 1 := rfl
                have := yo.2.1
                omega
              refine ⟨y, ⟨#[97 + qn]⟩, rfl, rfl, ?_, ?_⟩
              · have := (hko y hy).2.1
                exact Nat.le_of_lt (small1000 (by show y.length + 1 ≤ 1000; omega))
              refine ⟨4, rfl, _, rfl, Nat.le_of_lt (small1000 (by omega)), ?_⟩
              refine ⟨_, _, _, c4, rfl, kind_of ?_, ⟨o5, upd_same, hpo5⟩, by omega, by omega, b5.trans But.upd⟩
              have e4 := slice_to (y ++ (⟨#[97 + qn]⟩ : Str)) 4
              rw [app_codes] at e4
              rw [show ((4 : Nat) : Int) = 4 from rfl] at e4
              rw [e4]
              refine ⟨?_, ?_, fun c hc => ?_⟩
              · rw [List.length_take, List.length_append]
                have := yo.1
                omega
              · rw [List.length_take]; omega
              · rcases List.mem_append.mp (List.mem_of_mem_take hc) with hc | hc
                · exact yo.2.2 c hc
                · have : c = 97 + qn := by simpa using hc
                  omega
          · refine iteF ?_
            exact ⟨_, _, z, c3, rfl, hz, ⟨o4, hp4, hpo4⟩, by omega, by omega, b4⟩
      · refine ⟨rfl, ?_⟩
        dsimp only [tCons, tNil]
        refine lcomp_eq _ _ _ _ _ _ _ _ _ ?_
        refine ⟨_, rfl, p, 4, c1, o2, rfl, hp2, hpo2, by decide, by decide, by omega, by omega, fun r c2 o3 r0 r1 h1 h2 hpo3 => ?_⟩
        refine ⟨1, r, rfl, rfl, 1 + r, rfl, by omega, by omega, ?_⟩
        intro D hD
        have npD : p ≠ D := ne_of_none (show (upd H2 p o3) p = some o3 from upd_same) hD
        have nlD : l ≠ D := ne_of_none (show (upd H2 p o3) l = some _ from (But.upd : But p H2 (upd H2 p o3)) l _ (Ne.symm npl) hl2) hD
        obtain ⟨m, hm⟩ : ∃ m : Nat, (1 + r).toNat = m ∧ m ≤ 4 ∧ 1 ≤ m := ⟨_, rfl, by omega, by omega⟩
        rw [hm.1]
        refine comp_range (fun j ys H3 => ∃ (ss : List Str) (c3 : Int), ys = ss.map V.str ∧ ss.length = j ∧ (∀ x ∈ ss, ∃ c, x = ⟨#[c]⟩ ∧ 97 ≤ c ∧ c ≤ 122) ∧ H3 D = some (.lst ys) ∧ PoolAt H3 p c3 ∧ c2 ≤ c3 ∧ c3 ≤ c2 + j ∧ But p H2 H3) ?_ (fun j ys H3 ⟨_, _, _, _, _, z, _⟩ => z) ?_ ?_
        · exact ⟨[], c2, rfl, rfl, (fun x h => nomatch h), upd_same, ⟨o3, by rw [upd_ne npD]; exact upd_same, hpo3⟩, Int.le_refl _, by omega, fun b u hb' e => by rw [upd_ne (ne_of_none ((But.upd : But p H2 (upd H2 p o3)) b u hb' e) hD)]; exact (But.upd : But p H2 (upd H2 p o3)) b u hb' e⟩
        · rintro j ys H3 hj ⟨ss, c3, rfl, hsl, hss, hD3, ⟨o4, hp4, hpo4⟩, g1, g2, hb3⟩
          refine turn_name rfl ?_
          refine ⟨_, rfl, _, rfl, p, 26, c3, o4, rfl, hp4, hpo4, by decide, by decide, by omega, by omega, fun q c4 o5 q0 q1 g3 g4 hpo5 => ?_⟩
          obtain ⟨qn, rfl⟩ : ∃ qn : Nat, q = (qn : Int) := ⟨q.toNat, by omega⟩
          refine ⟨lettersS, _, 97 + qn, rfl, rfl, letters_len, letters_at qn (by omega), ?_⟩
          refine ⟨by rw [upd_ne (Ne.symm npD)]; exact hD3, by rw [List.length_map]; exact small1000 (by omega), nx hj ?_⟩
          refine ⟨ss ++ [⟨#[97 + qn]⟩], c4, by simp, by simp [hsl], fun x hx => ?_, upd_same, ⟨o5, by rw [upd_ne npD, upd_same], hpo5⟩, by omega, by omega, fun b u hb' e => ?_⟩
          · rcases List.mem_append.mp hx with hx | hx
            · exact hss x hx
            · exact ⟨97 + qn, List.mem_singleton.mp hx, by omega, by omega⟩
          · have e3 := hb3 b u hb' e
            have nbD : b ≠ D := ne_of_none ((But.upd : But p H2 (upd H2 p o3)) b u hb' e) hD
            rw [upd_ne nbD, upd_ne hb']
            exact e3
        · rintro ys H3 ⟨ss, c3, rfl, hsl, hss, hD3, hp4, g1, g2, hb3⟩
          obtain ⟨q1, q2⟩ := ones_codes hss
          refine ⟨Str.ofString "", D, ss, rfl, rfl, SqL.of hD3, ?_, ?_⟩
          · rw [ones_sum hss]
            have : (Str.ofString "").length = 0 := by decide
            rw [this]
            omega
          · exact ⟨_, _, _, _, c3, rfl, kind_of ⟨by rw [join_codes, q1]; omega, by rw [join_codes, q1]; omega, by rw [join_codes]; exact q2⟩, hp4, by omega, by omega, hb3⟩
    · rintro σ H2 ⟨x4, x5, x6, x7, x8, ks, c', rfl, hkl, hko, hkn, hl2, hp2, h1, h2, hb⟩
      exact ⟨_, rfl, k l ks c' H2 hl hkl hko hkn hl2 hp2 h1 (by omega) hb⟩
end
end K7
set_option Elab.async false
set_option linter.all false
set_option maxRecDepth 100000
set_option maxHeartbeats 4000000
namespace K7
open PySem L2 PyProof.Rows
def At (p : Addr) (H : Hp) (b : Addr) (o : HO) : Prop := H b = some o ∧ b ≠ p
theorem At.on {p b : Addr} {H H' : Hp} {o : HO} (x : At p H b o) (h : But p H H') : At p H' b o := ⟨h b o x.2 x.1, x.2⟩
structure RoomsW (p : Addr) (H : Hp) (rA : Addr) (vs : List V) (rs : List Rm) (ws : List Addr) : Prop where
  ls : At p H rA (.lst vs)
  l1 : vs.length = rs.length
  l2 : ws.length = rs.length
  nd : ws.Nodup
  off : rA ∉ ws
  item : ∀ (i : Nat) (r : Rm) (w : Addr), rs[i]? = some r → ws[i]? = some w → ∃ t d : Addr, vs[i]? = some (.ref t) ∧ At p H t (.tup [.ref d, .ref w]) ∧ At p H d (.lst (r.1.map V.str)) ∧ At p H w (.lst (r.2.map V.str)) ∧ d ∉ ws ∧ d ≠ rA
theorem RoomsW.on {p rA : Addr} {H H' : Hp} {vs : List V} {rs : List Rm} {ws : List Addr} (x : RoomsW p H rA vs rs ws) (h : But p H H') : RoomsW p H' rA vs rs ws :=
  ⟨x.ls.on h, x.l1, x.l2, x.nd, x.off, fun i r w e1 e2 => let ⟨t, d, a, b, c, d', e⟩ := x.item i r w e1 e2; ⟨t, d, a, b.on h, c.on h, d'.on h, e⟩⟩
theorem RoomsW.more {p rA t d w : Addr} {H0 H : Hp} {vs : List V} {rs : List Rm} {ws : List Addr} {r : Rm} (x0 : RoomsW p H0 rA vs rs ws) (hb : But p H0 H) (ht : At p H t (.tup [.ref d, .ref w])) (hd : At p H d (.lst (r.1.map V.str))) (hw : At p H w (.lst (r.2.map V.str)))
    (d0 : H0 d = none) (w0 : H0 w = none) (n3 : d ≠ w) :
    RoomsW p (upd H rA (.lst (vs ++ [.ref t]))) rA (vs ++ [.ref t]) (rs ++ [r]) (ws ++ [w]) := by
  have x := x0.on hb
  have tn : t ≠ rA := ne_of ht.1 x.ls.1 (fun z => nomatch z)
  have up : ∀ {b o}, b ≠ rA → At p H b o → At p (upd H rA (.lst (vs ++ [.ref t]))) b o := fun n h => ⟨by rw [upd_ne n]; exact h.1, h.2⟩
  have n4 : d ≠ rA := fun z => by have := x0.ls.1; rw [← z, d0] at this; cases this
  have n5 : w ≠ rA := fun z => by have := x0.ls.1; rw [← z, w0] at this; cases this
  have mem : ∀ a ∈ ws, ∃ o, H0 a = some o := fun a ha => by
    obtain ⟨i, hi, e⟩ := List.mem_iff_getElem.mp ha
    have hi' : i < rs.length := by rw [← x0.l2]; exact hi
    obtain ⟨_, _, _, _, _, h, _⟩ := x0.item i rs[i] a (List.getElem?_eq_getElem hi') (by rw [List.getElem?_eq_getElem hi, e])
    exact ⟨_, h.1⟩
  have n1 : w ∉ ws := fun z => by obtain ⟨o, e⟩ := mem w z; rw [w0] at e; cases e
  have n2 : d ∉ ws := fun z => by obtain ⟨o, e⟩ := mem d z; rw [d0] at e; cases e
  refine ⟨⟨upd_same, x.ls.2⟩, by simp [x.l1], by simp [x.l2], nodup_perm_snoc x.nd n1 (.refl _), fun z => ?_, fun i r' w' e1 e2 => ?_⟩
  · rcases List.mem_append.mp z with z | z
    · exact x.off z
    · exact n5 (List.mem_singleton.mp z).symm
  · by_cases hi : i < rs.length
    · rw [List.getElem?_append_left hi] at e1
      rw [List.getElem?_append_left (by rw [x.l2]; exact hi)] at e2
      obtain ⟨t', d', a1, a2, a3, a4, a5, a6⟩ := x0.item i r' w' e1 e2
      have hw' : w' ≠ rA := fun z => x.off (z ▸ List.mem_of_getElem? e2)
      refine ⟨t', d', by rw [List.getElem?_append_left (by rw [x.l1]; exact hi)]; exact a1, up (ne_of (a2.on hb).1 x.ls.1 (fun z => nomatch z)) (a2.on hb), up a6 (a3.on hb), up hw' (a4.on hb), fun z => ?_, a6⟩
      rcases List.mem_append.mp z with z | z
      · exact a5 z
      · exact ne_of_none a3.1 w0 (List.mem_singleton.mp z)
    · have hl : i < (rs ++ [r]).length := (List.getElem?_eq_some_iff.mp e1).1
      rw [List.length_append, List.length_singleton] at hl
      have ei : i = rs.length := by omega
      subst ei
      rw [List.getElem?_append_right (Nat.le_refl _), Nat.sub_self] at e1
      rw [List.getElem?_append_right (by rw [x.l2]; exact Nat.le_refl _), x.l2, Nat.sub_self] at e2
      cases e1
      cases e2
      refine ⟨t, d, by rw [List.getElem?_append_right (by rw [x.l1]; exact Nat.le_refl _), x.l1, Nat.sub_self]; rfl, up tn ht, up n4 hd, up n5 hw, fun z => ?_, n4⟩
      rcases List.mem_append.mp z with z | z
      · exact n2 z
      · exact n3 (List.mem_singleton.mp z)
theorem RoomsW.ext {p rA w : Addr} {H : Hp} {vs : List V} {rs : List Rm} {ws : List Addr} {r : Rm} {i : Nat} {ss : List Str} (x : RoomsW p H rA vs rs ws) (e1 : rs[i]? = some r) (e2 : ws[i]? = some w) :
    RoomsW p (upd H w (.lst (r.2.map V.str ++ ss.map V.str))) rA vs (rs.set i (r.1, r.2 ++ ss)) ws := by
  obtain ⟨t, d, a1, a2, a3, a4, a5, a6⟩ := x.item i r w e1 e2
  have hwr : rA ≠ w := fun z => x.off (by rw [z]; exact List.mem_of_getElem? e2)
  have up : ∀ {b o}, b ≠ w → At p H b o → At p (upd H w (.lst (r.2.map V.str ++ ss.map V.str))) b o := fun n h => ⟨by rw [upd_ne n]; exact h.1, h.2⟩
  refine ⟨up hwr x.ls, by simp [x.l1], by simp [x.l2], x.nd, x.off, fun j r' w' f1 f2 => ?_⟩
  have hi : i < rs.length := (List.getElem?_eq_some_iff.mp e1).1
  by_cases hj : j = i
  · subst hj
    rw [e2] at f2
    cases f2
    rw [List.getElem?_set_self hi] at f1
    cases f1
    refine ⟨t, d, a1, up (ne_of a2.1 a4.1 (fun z => nomatch z)) a2, up (fun z => a5 (z ▸ List.mem_of_getElem? e2)) a3, ⟨by rw [upd_same, List.map_append], a4.2⟩, a5, a6⟩
  · rw [List.getElem?_set_ne (Ne.symm hj)] at f1
    obtain ⟨t', d', b1, b2, b3, b4, b5, b6⟩ := x.item j r' w' f1 f2
    have nw : w' ≠ w := fun z => by
      subst z
      have h1 := (List.getElem?_eq_some_iff.mp e2)
      have h2 := (List.getElem?_eq_some_iff.mp f2)
      rcases Nat.lt_or_gt_of_ne hj with l | l
      · exact (List.pairwise_iff_getElem.mp x.nd j i h2.1 h1.1 l) (h2.2.trans h1.2.symm)
      · exact (List.pairwise_iff_getElem.mp x.nd i j h1.1 h2.1 l) (h1.2.trans h2.2.symm)
    exact ⟨t', d', b1, up (ne_of b2.1 a4.1 (fun z => nomatch z)) b2, up (fun z => b5 (z ▸ List.mem_of_getElem? e2)) b3, up nw b4, b5, b6⟩
theorem RoomsW.rooms {p rA : Addr} {H : Hp} {vs : List V} {rs : List Rm} {ws : List Addr} (x : RoomsW p H rA vs rs ws) : RoomsAt H vs rs := ⟨x.l1, fun i v r e1 e2 => by
  have hi : i < rs.length := (List.getElem?_eq_some_iff.mp e2).1
  have hi2 : i < ws.length := by rw [x.l2]; exact hi
  obtain ⟨t, d, a1, a2, a3, a4, _⟩ := x.item i r ws[i] e2 (List.getElem?_eq_getElem hi2)
  rw [e1] at a1
  cases a1
  exact ⟨t, d, _, rfl, a2.1, a3.1, a4.1⟩⟩
theorem menu {xs : List Int} {r : Int} (h0 : 0 ≤ r) (h1 : r < xs.length) : ∃ m ∈ xs, atI (xs.map V.int) r = some (.int m) := by
  obtain ⟨j, rfl⟩ : ∃ j : Nat, r = (j : Int) := ⟨r.toNat, by omega⟩
  have hj : j < xs.length := by omega
  exact ⟨xs[j], List.getElem_mem hj, atI_nat (by rw [List.getElem?_map, List.getElem?_eq_getElem hj]; rfl)⟩
def roomData (r : Rm) : PyData := .tuple [.list (r.1.map PyData.str), .list (r.2.map PyData.str)]
theorem sees_rooms {H : Hp} : ∀ {vs : List V} {rs : List Rm}, RoomsAt H vs rs → SeesAll H vs (rs.map roomData)
  | [], [], _ => .nil
  | [], _ :: _, h => absurd h.1 (by simp)
  | _ :: _, [], h => absurd h.1 (by simp)
  | v :: vs, r :: rs, h => by
    obtain ⟨t, a, b, rfl, h1, h2, h3⟩ := h.2 0 v r rfl rfl
    refine .cons (.tup h1 (.cons (.lst h2 (SeesAll.strs _)) (.cons (.lst h3 (SeesAll.strs _)) .nil))) (sees_rooms ⟨by simpa using h.1, fun i v' r' e1 e2 => h.2 (i + 1) v' r' (by simpa using e1) (by simpa using e2)⟩)
theorem rooms_lay : ∀ {rs : List Rm}, (∀ r ∈ rs, (∀ k ∈ r.1, KindOk k) ∧ ∀ k ∈ r.2, KindOk k) → PyData.canLayAll0 (rs.map roomData) = true
  | [], _ => rfl
  | r :: rs, h => by
    obtain ⟨h1, h2⟩ := h r List.mem_cons_self
    have e1 := strs_lay h1
    have e2 := strs_lay h2
    have e3 := rooms_lay fun q hq => h q (List.mem_cons_of_mem _ hq)
    rw [List.map_cons]
    simp only [PyData.canLayAll0, PyData.canLay0, roomData, e1, e2, e3, Bool.and_self]
end K7
set_option Elab.async false
set_option linter.all false
set_option maxRecDepth 100000
set_option maxHeartbeats 4000000
namespace K7
open PySem L2 PyProof.Rows
abbrev st__law_house : Stmt := sDrawn
def spDrawn : Sp := fun vs H Q _ => ∃ (p : Addr) (most : Nat) (c : Int), vs = [.ref p, .int most] ∧ PoolAt H p c ∧ most ≤ 60 ∧ 0 ≤ c ∧ c + 4000 < 1000000 ∧
  ∀ (v : V) (h : Hs) (c' : Int) (H' : Hp), HouseAt H' v h → HouseOk h → HouseFew h → h.2.length ≤ most → (allKeys h).length ≤ 250 → PoolAt H' p c' → c ≤ c' → c' ≤ c + 4000 → But p H H' → Q v H'
section
variable {P : Program} {w : World} {K : PySem.W.Frag} {mg : Str → Option Value} {base : Heap}
theorem sc__law_house : FnScope ["pool", "most", "kinds", "many", "locks", "keys", "rooms", "spare", "room", "doors", "few", "left", "more"] ["pool", "most"] (defScope st__law_house) := ⟨rfl, rfl, rfl, by decide +kernel, rfl, by decide +kernel, by decide +kernel⟩
theorem nd__law_house_0 : (["doors", "within"] : List Str).Nodup := by decide +kernel
theorem ok_drawn {f fT fM fS : Addr} {fd fdT fdM fdS : FuncData} (F : Fun K "_law_house" "_law_house" sDrawn f fd) (G__law_take : FnOk P w K mg base CX0 1 fT fdT ["pool", "many"] spTake) (c__law_take : Cal K mg "_law_take" ["pool", "many"] fT fdT)
    (G__law_kinds : FnOk P w K mg base CX0 2 fM fdM ["pool", "many"] spMade) (c__law_kinds : Cal K mg "_law_kinds" ["pool", "many"] fM fdM) (G__law_some : FnOk P w K mg base CX0 2 fS fdS ["pool", "kinds", "many"] spSome) (c__law_some : Cal K mg "_law_some" ["pool", "kinds", "many"] fS fdS)
    (m_range : mg "range" = none) (m_len : mg "len" = none) (m_min : mg "min" = none) (m_sorted : mg "sorted" = none) (m_sum : mg "sum" = none) :
    FnOk P w K mg base CX0 3 f fd ["pool", "most"] spDrawn := by
  refine F.ok sc__law_house (fun vs H Q E h => ?_) (fun cdv A outer s H vs Q E hr h => ?_)
  · obtain ⟨p, n, c, rfl, _⟩ := h
    rfl
  · obtain ⟨p, most, c, rfl, ⟨o, hp, hpo⟩, hmost, hc, hcn, k⟩ := h
    have hu := hu_of hr
    refine ⟨_, (pss_cons (ps_cut (ps_set (i := 2) sc__law_house.nd rfl (Or.inl rfl) (pe_call G__law_kinds hr rfl c__law_kinds.mg c__law_kinds.kp c__law_kinds.b .nil pass0 (pa_cons (pv 0) (pa_cons (pe_op op_add pe_int (pe_call G__law_take (hr.mono (show 1 ≤ 2 by decide)) rfl c__law_take.mg c__law_take.kp c__law_take.b .nil pass0 (pa_cons (pv 0) (pa_cons (pe_ix ix_list (pe_lst (pa_cons pe_int (pa_cons pe_int (pa_cons pe_int (pa_cons pe_int pa_nil))))) (pe_call G__law_take (hr.mono (show 1 ≤ 2 by decide)) rfl c__law_take.mg c__law_take.kp c__law_take.b .nil pass0 (pa_cons (pv 0) (pa_cons pe_int pa_nil))) (fun _ _ => rfl)) pa_nil)))) pa_nil)))))
      (pss_cons (ps_cut (ps_set (i := 3) sc__law_house.nd rfl (Or.inl rfl) (pe_ix ix_list (pe_lst (pa_cons (pe_call G__law_take (hr.mono (show 1 ≤ 2 by decide)) rfl c__law_take.mg c__law_take.kp c__law_take.b .nil pass0 (pa_cons (pv 0) (pa_cons (pe_op op_add (pe_callB (call_min2 rfl) rfl m_min (by decide +kernel) (pa_cons (pv 1) (pa_cons pe_int pa_nil))) pe_int) pa_nil))) (pa_cons (pe_call G__law_take (hr.mono (show 1 ≤ 2 by decide)) rfl c__law_take.mg c__law_take.kp c__law_take.b .nil pass0 (pa_cons (pv 0) (pa_cons (pe_op op_add (pv 1) pe_int) pa_nil))) pa_nil))) (pe_call G__law_take (hr.mono (show 1 ≤ 2 by decide)) rfl c__law_take.mg c__law_take.kp c__law_take.b .nil pass0 (pa_cons (pv 0) (pa_cons pe_int pa_nil))) (fun _ _ => rfl))))
      (pss_cons (ps_cut (ps_set (i := 4) sc__law_house.nd rfl (Or.inl rfl) (pe_ix ix_list (pe_lst (pa_cons pe_int (pa_cons pe_int (pa_cons pe_int (pa_cons pe_int pa_nil))))) (pe_call G__law_take (hr.mono (show 1 ≤ 2 by decide)) rfl c__law_take.mg c__law_take.kp c__law_take.b .nil pass0 (pa_cons (pv 0) (pa_cons pe_int pa_nil))) (fun _ _ => rfl))))
      (pss_cons (ps_cut (ps_set (i := 5) sc__law_house.nd rfl (Or.inl rfl) (pe_ix ix_list (pe_lst (pa_cons pe_int (pa_cons pe_int (pa_cons pe_int pa_nil)))) (pe_call G__law_take (hr.mono (show 1 ≤ 2 by decide)) rfl c__law_take.mg c__law_take.kp c__law_take.b .nil pass0 (pa_cons (pv 0) (pa_cons pe_int pa_nil))) (fun _ _ => rfl))))
      (pss_cons (ps_set (i := 6) sc__law_house.nd rfl (Or.inl rfl) (pe_lst pa_nil))
      (pss_cons (ps_set (i := 7) sc__law_house.nd rfl (Or.inl rfl) pe_int)
      (pss_cons (ps_cut (ps_for PassesOwn.never rfl (pi_range1 rfl m_range (pa_cons (pv 3) pa_nil)) (pg_name (i := 8) sc__law_house.nd rfl (Or.inl rfl))
        (pss_cons (ps_cut (ps_set (i := 9) sc__law_house.nd rfl (Or.inl rfl) (pe_callB call_sorted rfl m_sorted boot_sorted (pa_cons (pe_call G__law_some hr rfl c__law_some.mg c__law_some.kp c__law_some.b .nil pass0 (pa_cons (pv 0) (pa_cons (pv 2) (pa_cons (pe_op op_add pe_int (pe_call G__law_take (hr.mono (show 1 ≤ 2 by decide)) rfl c__law_take.mg c__law_take.kp c__law_take.b .nil pass0 (pa_cons (pv 0) (pa_cons (pv 4) pa_nil)))) pa_nil)))) pa_nil))))
        (pss_cons (ps_set (i := 10) sc__law_house.nd rfl (Or.inl rfl) (pe_call G__law_take (hr.mono (show 1 ≤ 2 by decide)) rfl c__law_take.mg c__law_take.kp c__law_take.b .nil pass0 (pa_cons (pv 0) (pa_cons (pe_op op_add (pv 5) pe_int) pa_nil))))
        (pss_cons (ps_cut (ps_if (pt_cmpR op_eq (pe_call G__law_take (hr.mono (show 1 ≤ 2 by decide)) rfl c__law_take.mg c__law_take.kp c__law_take.b .nil pass0 (pa_cons (pv 0) (pa_cons pe_int pa_nil))) pe_int (nomark _))
          (pss_cons (ps_set (i := 10) sc__law_house.nd rfl (Or.inl rfl) (pe_callB (call_min2 rfl) rfl m_min (by decide +kernel) (pa_cons (pv 7) (pa_cons (pe_op op_add pe_int (pe_call G__law_take (hr.mono (show 1 ≤ 2 by decide)) rfl c__law_take.mg c__law_take.kp c__law_take.b .nil pass0 (pa_cons (pv 0) (pa_cons pe_int pa_nil)))) pa_nil))))
          (pss_one (ps_set (i := 7) sc__law_house.nd rfl (Or.inl rfl) (pe_op op_sub (pv 7) (pv 10))))) pss_nil))
        (pss_one (ps_expr (pe_bm PySem.F.plainAttrs_list PySem.F.slot_list_append PySem.F.type_list_append mt_append (pv 6) (pa_cons (pe_tup (pa_cons (pv 9) (pa_cons (pe_call G__law_some hr rfl c__law_some.mg c__law_some.kp c__law_some.b .nil pass0 (pa_cons (pv 0) (pa_cons (pv 2) (pa_cons (pv 10) pa_nil)))) pa_nil))) pa_nil)))))))))
      (pss_cons (ps_cut (ps_set (i := 11) sc__law_house.nd rfl (Or.inl rfl) (pe_op op_sub pe_int (pe_callB (call_sum rfl) rfl m_sum (by decide +kernel) (pa_cons (pe_lc (outer := defScope (st__law_house)) (N := ["pool", "most", "kinds", "many", "locks", "keys", "rooms", "spare", "room", "doors", "few", "left", "more"]) (N' := ["doors", "within"]) (nl := 2) (ix := []) rfl rfl rfl (pi_list (pv 6))
        (fun C fp s₀ H₀ => (pg_tupK (K := K) (n := 2) rfl rfl (pgs_cons (pg_name (i := 0) nd__law_house_0 rfl (Or.inl rfl) (.inr rfl)) (pgs_cons (pg_name (i := 1) nd__law_house_0 rfl (Or.inl rfl) (.inr rfl)) pgs_nil)))) (fun C fp s₀ H₀ => pif_nil)
        (fun C fp s₀ H₀ => (pe_callB (call_lenK (K := K) rfl) rfl m_len PySem.boot_len (pa_cons (pv 1) pa_nil)))) pa_nil)))))
      (pss_cons (ps_cut (ps_if (PW.pt (pw_and (pt_cmpR op_neD (pv 6) (pe_lst pa_nil) (nomark _)) (pw_and1 (pt_cmpR op_eq (pe_call G__law_take (hr.mono (show 1 ≤ 2 by decide)) rfl c__law_take.mg c__law_take.kp c__law_take.b .nil pass0 (pa_cons (pv 0) (pa_cons pe_int pa_nil))) pe_int (nomark _)))))
        (pss_cons (ps_set (i := 12) sc__law_house.nd rfl (Or.inl rfl) (pe_call G__law_take (hr.mono (show 1 ≤ 2 by decide)) rfl c__law_take.mg c__law_take.kp c__law_take.b .nil pass0 (pa_cons (pv 0) (pa_cons (pe_op op_add (pv 11) pe_int) pa_nil))))
        (pss_cons (ps_expr (pe_bm PySem.F.plainAttrs_list PySem.F.slot_list_extend PySem.F.type_list_extend mt_extend (pe_ix ix_tup (pe_ix ix_list (pv 6) (pe_call G__law_take (hr.mono (show 1 ≤ 2 by decide)) rfl c__law_take.mg c__law_take.kp c__law_take.b .nil pass0 (pa_cons (pv 0) (pa_cons (pe_callB call_len_seq rfl m_len PySem.boot_len (pa_cons (pv 6) pa_nil)) pa_nil))) (fun _ _ => rfl)) pe_int (fun _ _ => rfl)) (pa_cons (pe_call G__law_some hr rfl c__law_some.mg c__law_some.kp c__law_some.b .nil pass0 (pa_cons (pv 0) (pa_cons (pv 2) (pa_cons (pv 12) pa_nil)))) pa_nil)))
        (pss_one (ps_set (i := 11) sc__law_house.nd rfl (Or.inl rfl) (pe_op op_sub (pv 11) (pv 12)))))) pss_nil))
      (pss_one (ps_ret (pe_tup (pa_cons (pe_call G__law_some hr rfl c__law_some.mg c__law_some.kp c__law_some.b .nil pass0 (pa_cons (pv 0) (pa_cons (pv 2) (pa_cons (pe_callB (call_min2 rfl) rfl m_min (by decide +kernel) (pa_cons (pv 11) (pa_cons (pe_call G__law_take (hr.mono (show 1 ≤ 2 by decide)) rfl c__law_take.mg c__law_take.kp c__law_take.b .nil pass0 (pa_cons (pv 0) (pa_cons (pe_ix ix_list (pe_lst (pa_cons pe_int (pa_cons pe_int (pa_cons pe_int (pa_cons pe_int pa_nil))))) (pe_call G__law_take (hr.mono (show 1 ≤ 2 by decide)) rfl c__law_take.mg c__law_take.kp c__law_take.b .nil pass0 (pa_cons (pv 0) (pa_cons pe_int pa_nil))) (fun _ _ => rfl)) pa_nil))) pa_nil))) pa_nil)))) (pa_cons (pv 6) pa_nil)))))))))))))), ?_⟩
    refine ⟨fun σ' H' => ∃ (kA : Addr) (ks : List Str) (c' : Int), σ' = [some (.ref p), some (.int most), some (.ref kA), none, none, none, none, none, none, none, none, none, none] ∧ At p H' kA (.lst (ks.map V.str)) ∧ ks ≠ [] ∧ ks.length ≤ 60 ∧ (∀ k ∈ ks, KindOk k) ∧ PoolAt H' p c' ∧ c ≤ c' ∧ c' ≤ c + 542 ∧ But p H H', ?_, ?_⟩
    · rintro σ H1 ⟨kA, ks, c1, rfl, hk1, hkn, hkl, hko, ⟨o1, hp1, hpo1⟩, g1, g2, b1⟩
      refine ⟨fun σ' H' => ∃ (mn : Nat) (c' : Int), σ' = [some (.ref p), some (.int most), some (.ref kA), some (.int mn), none, none, none, none, none, none, none, none, none] ∧ mn ≤ most ∧ PoolAt H' p c' ∧ c1 ≤ c' ∧ c' ≤ c1 + 3 ∧ But p H1 H', ?_, ?_⟩
      · rintro σ H2 ⟨mn, c2, rfl, hmn, ⟨o2, hp2, hpo2⟩, g3, g4, b2⟩
        refine ⟨fun σ' H' => ∃ (lk c' : Int), σ' = [some (.ref p), some (.int most), some (.ref kA), some (.int mn), some (.int lk), none, none, none, none, none, none, none, none] ∧ 1 ≤ lk ∧ lk ≤ 4 ∧ PoolAt H' p c' ∧ c1 ≤ c' ∧ c' ≤ c1 + 4 ∧ But p H1 H', ?_, ?_⟩
        · rintro σ H3 ⟨lk, c3, rfl, hlk1, hlk2, ⟨o3, hp3, hpo3⟩, g5, g6, b3⟩
          refine ⟨fun σ' H' => ∃ (ky c' : Int), σ' = [some (.ref p), some (.int most), some (.ref kA), some (.int mn), some (.int lk), some (.int ky), none, none, none, none, none, none, none] ∧ 2 ≤ ky ∧ ky ≤ 4 ∧ PoolAt H' p c' ∧ c1 ≤ c' ∧ c' ≤ c1 + 5 ∧ But p H1 H', ?_, ?_⟩
          · rintro σ H4 ⟨ky, c4, rfl, hky1, hky2, ⟨o4, hp4, hpo4⟩, g7, g8, b4⟩
            have hk4 := hk1.on b4
            refine ⟨Nat.zero_le _, fun rA nR => ?_⟩
            have npR : p ≠ rA := ne_of_none hp4 nR
            have bR : But p H4 (upd H4 rA (.lst [])) := fun b u hb e => by rw [upd_ne (ne_of_none e nR)]; exact e
            refine ⟨fun σ' H' => ∃ (x8 x9 x10 : Option V) (sp c' : Int) (vs : List V) (rs : List Rm) (ws : List Addr), σ' = [some (.ref p), some (.int most), some (.ref kA), some (.int mn), some (.int lk), some (.int ky), some (.ref rA), some (.int sp), x8, x9, x10, none, none] ∧ RoomsW p H' rA vs rs ws ∧ (∀ w ∈ ws, H4 w = none) ∧ rs.length = mn ∧ (∀ r ∈ rs, (∀ k ∈ r.1, k ∈ ks) ∧ 1 ≤ r.1.length ∧ r.1.length ≤ 4 ∧ r.1.Pairwise leS ∧ (∀ k ∈ r.2, k ∈ ks) ∧ r.2.length ≤ 12) ∧ (rs.map (·.2.length)).sum ≤ 250 ∧ PoolAt H' p c' ∧ c4 ≤ c' ∧ c' ≤ c4 + 20 * mn ∧ But p H4 H', ?_, ?_⟩
            · rintro σ H5 ⟨x8, x9, x10, sp, c5, vs, rs, ws, rfl, hW, hwf, hrl, hro, hsum, ⟨o5, hp5, hpo5⟩, g9, g10, b5⟩
              have hk5 := hk4.on b5
              have mn60 : mn ≤ 60 := by omega
              refine ⟨fun σ' H' => σ' = [some (.ref p), some (.int most), some (.ref kA), some (.int mn), some (.int lk), some (.int ky), some (.ref rA), some (.int sp), x8, x9, x10, some (.int (250 - (((rs.map (·.2.length)).sum : Nat) : Int))), none] ∧ Same H5 H', ?_, ?_⟩
              · rintro σ H6 ⟨rfl, sm6⟩
                have b6 : But p H5 H6 := fun b u _ e => sm6 b u e
                have hW6 := hW.on b6
                have hk6 := hk5.on b6
                have hp6 := sm6 _ _ hp5
                refine ⟨fun σ' H' => ∃ (x12 : Option V) (rs' : List Rm) (lf c' : Int), σ' = [some (.ref p), some (.int most), some (.ref kA), some (.int mn), some (.int lk), some (.int ky), some (.ref rA), some (.int sp), x8, x9, x10, some (.int lf), x12] ∧ RoomsW p H' rA vs rs' ws ∧ rs'.length = mn ∧ (∀ r ∈ rs', (∀ k ∈ r.1, k ∈ ks) ∧ 1 ≤ r.1.length ∧ r.1.length ≤ 4 ∧ r.1.Pairwise leS ∧ (∀ k ∈ r.2, k ∈ ks) ∧ r.2.length ≤ 300) ∧ 0 ≤ lf ∧ (((rs'.map (·.2.length)).sum : Nat) : Int) + lf = 250 ∧ PoolAt H' p c' ∧ c5 ≤ c' ∧ c' ≤ c5 + 300 ∧ But p H4 H', ?_, ?_⟩
                · rintro σ H7 ⟨x12, rs', lf, c7, rfl, hW7, hrl7, hro7, hlf, hsum7, ⟨o7, hp7, hpo7⟩, g11, g12, b7⟩
                  have hk7 := hk4.on b7
                  refine ⟨_, rfl, _, rfl, _, rfl, _, rfl, by show 4 ≤ sizeLine; decide, fun l1 n1 => ?_⟩
                  have np1 : p ≠ l1 := ne_of_none hp7 n1
                  refine ⟨_, rfl, p, 4, c7, o7, rfl, by rw [upd_ne np1]; exact hp7, hpo7, by decide, by decide, by omega, by omega, fun r c8 o8 r0 r1 h1 h2 hpo8 => ?_⟩
                  obtain ⟨m, hm, ha⟩ := menu (xs := [3, 7, 25, 251]) r0 r1
                  have hm' : 3 ≤ m ∧ m ≤ 251 := by simp only [List.mem_cons, List.not_mem_nil, or_false] at hm; omega
                  refine ⟨l1, _, r, .int m, rfl, rfl, SqL.of (by rw [upd_ne (Ne.symm np1), upd_same]; rfl), ha, ?_⟩
                  refine ⟨p, m, c8, o8, rfl, upd_same, hpo8, by omega, by omega, by omega, by omega, fun q c9 o9 q0 q1 h3 h4 hpo9 => ?_⟩
                  refine ⟨_, _, rfl, ?_⟩
                  have mi : (if q < lf then q else lf) ≤ lf ∧ 0 ≤ (if q < lf then q else lf) ∧ (if q < lf then q else lf) ≤ 250 := by split <;> omega
                  generalize (if q < lf then q else lf) = mv at mi ⊢
                  obtain ⟨mvn, rfl⟩ : ∃ n : Nat, mv = (n : Int) := ⟨mv.toNat, by omega⟩
                  have b8 : But p H7 (upd (upd (upd H7 l1 (.lst [.int 3, .int 7, .int 25, .int 251])) p o8) p o9) := fun b u hb e => by rw [upd_ne hb, upd_ne hb, upd_ne (ne_of_none e n1)]; exact e
                  refine ⟨p, kA, mvn, c9, ks, rfl, ⟨o9, upd_same, hpo9⟩, (hk7.on b8).1, hkn, by omega, by omega, by omega, by omega, fun l ss c10 H8 nl hsl hsm hl8 hp8 g13 g14 b9 => ?_⟩
                  refine ⟨_, rfl, by show 2 ≤ sizeLine; decide, fun tA nT => ?_⟩
                  have b79 := b8.trans b9
                  have bT : But p H8 (upd H8 tA (.tup [.ref l, .ref rA])) := fun b u hb e => by rw [upd_ne (ne_of_none e nT)]; exact e
                  obtain ⟨o10, hp10, hpo10⟩ := hp8
                  have hW10 := (hW7.on b79).on bT
                  have fl2 : ((rs'.flatMap (·.2)).length : Int) + lf = 250 := by rw [List.length_flatMap]; exact hsum7
                  have fl1 : (rs'.flatMap (·.1)).length ≤ 1000 := by
                    have : ∀ l : List Rm, (∀ r ∈ l, r.1.length ≤ 4) → (l.flatMap (·.1)).length ≤ 4 * l.length := fun l => by
                      induction l with
                      | nil => intro _; exact Nat.zero_le _
                      | cons a t ih =>
                        intro h
                        have h1 := h a List.mem_cons_self
                        have h2 := ih fun r hr => h r (List.mem_cons_of_mem _ hr)
                        rw [List.flatMap_cons, List.length_append, List.length_cons]
                        omega
                    have := this rs' fun r hr => (hro7 r hr).2.2.1
                    omega
                  have ak : (allKeys (ss, rs')).length ≤ 250 := by
                    unfold allKeys
                    rw [List.length_append]
                    show ss.length + (rs'.flatMap (·.2)).length ≤ 250
                    omega
                  have hin : ∀ x, (x ∈ allKeys (ss, rs') ∨ x ∈ allLocks (ss, rs')) → x ∈ ks := fun x h => by
                    rcases h with h | h
                    · rcases List.mem_append.mp h with h | h
                      · exact hsm x h
                      · obtain ⟨r, hr, hx⟩ := List.mem_flatMap.mp h
                        exact (hro7 r hr).2.2.2.2.1 x hx
                    · obtain ⟨r, hr, hx⟩ := List.mem_flatMap.mp h
                      exact (hro7 r hr).1 x hx
                  refine k (.ref tA) (ss, rs') c10 _ ⟨tA, l, rA, vs, rfl, upd_same, ?_, hW10.ls.1, hW10.rooms⟩ ⟨fun k hk => hko k (hsm k hk), by show ss.length ≤ 1000; omega, fun r hr => ?_, by show rs'.length ≤ 1000; omega⟩ ⟨⟨ks, by omega, hin⟩, by omega, fl1⟩ (by show rs'.length ≤ most; omega) ak ⟨o10, by rw [upd_ne (ne_of_none hp10 nT)]; exact hp10, hpo10⟩ (by omega) (by omega) ?_
                  · rw [upd_ne (ne_of_none hl8 nT)]; exact hl8
                  · obtain ⟨r1, r2, r3, r4, r5, r6⟩ := hro7 r hr
                    exact ⟨fun k hk => hko k (r1 k hk), r2, r3, r4, fun k hk => hko k (r5 k hk), by omega⟩
                  · exact b1.trans (b4.trans (b7.trans (b79.trans bT)))
                · have rk : ∀ r ∈ rs, (∀ k ∈ r.1, KindOk k) ∧ ∀ k ∈ r.2, KindOk k := fun r hr => ⟨fun k hk => hko k ((hro r hr).1 k hk), fun k hk => hko k ((hro r hr).2.2.2.2.1 k hk)⟩
                  have ro300 : ∀ r ∈ rs, (∀ k ∈ r.1, k ∈ ks) ∧ 1 ≤ r.1.length ∧ r.1.length ≤ 4 ∧ r.1.Pairwise leS ∧ (∀ k ∈ r.2, k ∈ ks) ∧ r.2.length ≤ 300 := fun r hr => by
                    obtain ⟨r1, r2, r3, r4, r5, r6⟩ := hro r hr
                    exact ⟨r1, r2, r3, r4, r5, by omega⟩
                  refine ⟨_, rfl, Nat.zero_le _, fun e ne => ?_⟩
                  have sm7 : Same H6 (upd H6 e (.lst [])) := fun b u q => by rw [upd_ne (ne_of_none q ne)]; exact q
                  have he : (upd H6 e (.lst [])) e = some (.lst []) := upd_same
                  generalize upd H6 e (.lst []) = H7 at sm7 he
                  have b7 : But p H6 H7 := fun b u _ q => sm7 b u q
                  have hW7 := hW6.on b7
                  have hp7 := sm7 _ _ hp6
                  refine ⟨.list (rs.map roomData), .list [], .lst hW7.ls.1 (sees_rooms hW7.rooms), .lst he .nil, rooms_lay rk, rfl, ?_, ?_⟩
                  · refine Nat.lt_of_le_of_lt ?_ hu
                    exact Nat.add_le_add_left (Nat.min_le_right _ _) _
                  by_cases hemp : rs = []
                  · subst hemp
                    refine ⟨false, rfl, iteF (iteF ?_)⟩
                    exact ⟨none, [], _, c5, rfl, hW7, hrl, ro300, by omega, by omega, ⟨o5, hp7, hpo5⟩, by omega, by omega, b5.trans (b6.trans b7)⟩
                  · have hne : (if true = true then !PyData.eqv (.list (rs.map roomData)) (.list []) else PyData.eqv (.list (rs.map roomData)) (.list [])) = true := by
                      cases rs with
                      | nil => exact absurd rfl hemp
                      | cons a t => rfl
                    refine ⟨true, congrArg V.bl hne, iteT ?_⟩
                    refine ⟨_, rfl, p, 8, c5, o5, rfl, hp7, hpo5, by decide, by decide, by omega, by omega, fun z c8 o8 z0 z1 g15 g16 hpo8 => ?_⟩
                    have b8 : But p H7 (upd H7 p o8) := But.upd
                    refine ⟨rfl, _, rfl, ite2 (fun _ => ?_) (fun _ => ?_)⟩
                    · refine ⟨_, rfl, _, rfl, _, 1, rfl, rfl, p, _, c8, o8, rfl, upd_same, hpo8, by omega, by omega, by omega, by omega, fun mo c9 o9 m0 m1 g17 g18 hpo9 => ?_⟩
                      obtain ⟨mon, rfl⟩ : ∃ n : Nat, mo = (n : Int) := ⟨mo.toNat, by omega⟩
                      have b9 : But p H7 (upd (upd H7 p o8) p o9) := b8.trans But.upd
                      have hp9 : (upd (upd H7 p o8) p o9) p = some o9 := upd_same
                      generalize upd (upd H7 p o8) p o9 = H9 at b9 hp9
                      have hW9 := hW7.on b9
                      have hrs : 0 < rs.length := List.length_pos_iff.mpr hemp
                      refine ⟨_, rfl, _, rfl, _, rfl, rA, vs, rfl, .inl (SqL.of hW9.ls.1), p, _, c9, o9, rfl, hp9, hpo9, by rw [hW9.l1]; omega, by rw [hW9.l1]; omega, by omega, by omega, fun ii c10 o10 i0 i1 g19 g20 hpo10 => ?_⟩
                      rw [hW9.l1] at i1
                      obtain ⟨ix, rfl⟩ : ∃ n : Nat, ii = (n : Int) := ⟨ii.toNat, by omega⟩
                      have hix : ix < rs.length := by omega
                      have hix2 : ix < ws.length := by rw [hW9.l2]; exact hix
                      have b10 : But p H9 (upd H9 p o10) := But.upd
                      have hp10 : (upd H9 p o10) p = some o10 := upd_same
                      generalize upd H9 p o10 = H10 at b10 hp10
                      have hW10 := hW9.on b10
                      obtain ⟨t, d, a1, a2, a3, a4, a5, a6⟩ := hW10.item ix rs[ix] ws[ix] (List.getElem?_eq_getElem hix) (List.getElem?_eq_getElem hix2)
                      refine ⟨rA, vs, _, .ref t, rfl, rfl, SqL.of hW10.ls.1, atI_nat a1, t, _, 1, .ref ws[ix], rfl, rfl, SqT.of a2.1, rfl, .inl ⟨rfl, _, SqL.of a4.1⟩, ?_⟩
                      have b410 : But p H4 H10 := b5.trans (b6.trans (b7.trans (b9.trans b10)))
                      have hk10 := hk4.on b410
                      refine ⟨_, rfl, _, rfl, _, rfl, p, kA, mon, c10, ks, rfl, ⟨o10, hp10, hpo10⟩, hk10.1, hkn, by omega, by omega, by omega, by omega, fun l ss c11 H11 nl hsl hsm hl11 hp11 g21 g22 b11 => ?_⟩
                      have hW11 := hW10.on b11
                      have r12 := (hro rs[ix] (List.getElem_mem hix)).2.2.2.2.2
                      refine ⟨ws[ix], l, _, _, rfl, rfl, (a4.on b11).1, hl11, by rw [List.length_map, List.length_map]; exact Nat.le_of_lt (small1000 (by omega)), ?_⟩
                      have hWe := hW11.ext (ss := ss) (List.getElem?_eq_getElem hix) (List.getElem?_eq_getElem hix2)
                      obtain ⟨o11, hp11', hpo11⟩ := hp11
                      refine ⟨_, rfl, _, rfl, _, _, rfl, rfl, ?_⟩
                      have sset : (((rs.set ix (rs[ix].1, rs[ix].2 ++ ss)).map (·.2.length)).sum : Nat) = (rs.map (·.2.length)).sum + mon := by
                        have : ∀ (l : List Rm) (i : Nat) (h : i < l.length) (x : Rm), ((l.set i x).map (·.2.length)).sum + (l[i]).2.length = (l.map (·.2.length)).sum + x.2.length := fun l => by
                          induction l with
                          | nil => intro i h; exact absurd h (Nat.not_lt_zero _)
                          | cons a t ih =>
                            intro i h x
                            cases i with
                            | zero => simp; omega
                            | succ i =>
                              have := ih i (by simpa using h) x
                              simp only [List.set_cons_succ, List.map_cons, List.sum_cons, List.getElem_cons_succ]
                              omega
                        have := this rs ix hix (rs[ix].1, rs[ix].2 ++ ss)
                        simp only [List.length_append] at this
                        omega
                      refine ⟨_, _, _, c11, rfl, hWe, by simp [hrl], fun r hr' => ?_, ?_, ?_, ⟨o11, by rw [upd_ne (Ne.symm a4.2)]; exact hp11', hpo11⟩, by omega, by omega, fun b u hb e => ?_⟩
                      · rcases List.mem_or_eq_of_mem_set hr' with hr' | hr'
                        · exact ro300 r hr'
                        · obtain ⟨r1, r2, r3, r4, r5, r6⟩ := hro rs[ix] (List.getElem_mem hix)
                          rw [hr']
                          refine ⟨r1, r2, r3, r4, fun k hk => ?_, ?_⟩
                          · rcases List.mem_append.mp hk with hk | hk
                            · exact r5 k hk
                            · exact hsm k hk
                          · show (rs[ix].2 ++ ss).length ≤ 300
                            rw [List.length_append]
                            omega
                      · omega
                      · rw [sset]; omega
                      · rw [upd_ne (ne_of_none e (hwf _ (List.getElem_mem hix2)))]
                        exact b11 b u hb (b410 b u hb e)
                    · exact ⟨none, rs, _, c8, rfl, hW7.on b8, hrl, ro300, by omega, by omega, ⟨o8, upd_same, hpo8⟩, by omega, by omega, b5.trans (b6.trans (b7.trans b8))⟩
              · dsimp only [tAsg, tOp, tC, tCB, tCons, tNil]
                refine lcomp_eq _ _ _ _ _ _ _ _ _ ?_
                refine ⟨_, rfl, rA, rfl, ⟨_, SqL.of hW.ls.1⟩, ?_⟩
                intro D hD
                refine comp_list (xs := vs) (fun j ys H' => ys = ((rs.take j).map fun r => V.int ((r.2.length : Nat) : Int)) ∧ j ≤ 60 ∧ H' D = some (.lst ys) ∧ Same H5 H') ⟨rfl, by decide, upd_same, fun b u e => by rw [upd_ne (ne_of_none e hD)]; exact e⟩ (fun j ys H' ⟨_, _, h, _⟩ => h) (fun j ys H' ⟨_, _, _, sm⟩ => SqL.of (sm _ _ hW.ls.1)) ?_ ?_
                · rintro j ys H6 x hx ⟨rfl, hj0, hD6, sm⟩
                  have hj : j < vs.length := (List.getElem?_eq_some_iff.mp hx).1
                  have hj1 : j < rs.length := by rw [← hW.l1]; exact hj
                  have hj2 : j < ws.length := by rw [hW.l2]; exact hj1
                  obtain ⟨t, d, a1, a2, a3, a4, _⟩ := hW.item j rs[j] ws[j] (List.getElem?_eq_getElem hj1) (List.getElem?_eq_getElem hj2)
                  rw [hx] at a1
                  cases a1
                  refine turn_two t (.ref d) (.ref ws[j]) rfl (SqT.of (sm _ _ a2.1)) rfl ?_
                  refine ⟨_, rfl, ws[j], _, rfl, .inl (SqL.of (sm _ _ a4.1)), hD6, by rw [List.length_map, List.length_take]; exact small1000 (by omega), nx hj ⟨?_, by omega, upd_same, fun b u e => ?_⟩⟩
                  · rw [List.take_add_one, List.getElem?_eq_getElem hj1, List.map_append, List.length_map]
                    rfl
                  · rw [upd_ne (ne_of_none e hD)]
                    exact sm b u e
                · rintro ys H6 ⟨rfl, _, hD6, sm⟩
                  rw [hW.l1, List.take_length] at hD6
                  have sc : ∀ l : List Rm, (l.map fun r => ((r.2.length : Nat) : Int)).sum = (((l.map (·.2.length)).sum : Nat) : Int) := fun l => by
                    induction l with
                    | nil => rfl
                    | cons a t ih =>
                      rw [List.map_cons, List.map_cons, List.sum_cons, List.sum_cons, ih]
                      omega
                  refine ⟨D, rs.map (fun r => ((r.2.length : Nat) : Int)), rfl, SqL.of (by rw [hD6, List.map_map]; rfl), fun n hn => ?_, by rw [List.length_map]; omega, 250, _, rfl, rfl, ?_⟩
                  · obtain ⟨r, hr', rfl⟩ := List.mem_map.mp hn
                    have := (hro r hr').2.2.2.2.2
                    omega
                  · exact ⟨by rw [← sc rs]; rfl, sm⟩
            · refine ⟨_, rfl, (mn : Int), rfl, by omega, by omega, ?_⟩
              rw [Int.toNat_natCast]
              refine for_range (fun i σ' H' => ∃ (x8 x9 x10 : Option V) (sp c' : Int) (vs : List V) (rs : List Rm) (ws : List Addr) (q : Nat), σ' = [some (.ref p), some (.int most), some (.ref kA), some (.int mn), some (.int lk), some (.int ky), some (.ref rA), some (.int sp), x8, x9, x10, none, none] ∧ RoomsW p H' rA vs rs ws ∧ (∀ w ∈ ws, H4 w = none) ∧ rs.length = i ∧ (∀ r ∈ rs, (∀ k ∈ r.1, k ∈ ks) ∧ 1 ≤ r.1.length ∧ r.1.length ≤ 4 ∧ r.1.Pairwise leS ∧ (∀ k ∈ r.2, k ∈ ks) ∧ r.2.length ≤ 12) ∧
                0 ≤ sp ∧ sp ≤ 10 ∧ 10 - sp ≤ 12 * q ∧ (((rs.map (·.2.length)).sum : Nat) : Int) + 4 * q ≤ 4 * i + (10 - sp) ∧ PoolAt H' p c' ∧ c4 ≤ c' ∧ c' ≤ c4 + 20 * i ∧ But p H4 H') ?_ ?_ ?_
              · exact ⟨none, none, none, 10, c4, [], [], [], 0, rfl, ⟨⟨upd_same, Ne.symm npR⟩, rfl, rfl, List.nodup_nil, (fun z => nomatch z), (fun i r w e => by simp at e)⟩, (fun w h => nomatch h), rfl, (fun r h => nomatch h), by decide, by decide, by decide, by decide, ⟨o4, by rw [upd_ne npR]; exact hp4, hpo4⟩, Int.le_refl _, by omega, bR⟩
              · rintro i σ H5 hi ⟨x8, x9, x10, sp, c5, vs, rs, ws, q, rfl, hW, hwf, hrl, hro, hs0, hs1, hs2, hs3, ⟨o5, hp5, hpo5⟩, g9, g10, b5⟩
                have hk5 := hk4.on b5
                refine ⟨fun σ' H' => ∃ (dA : Addr) (ds : List Str) (c' : Int), σ' = [some (.ref p), some (.int most), some (.ref kA), some (.int mn), some (.int lk), some (.int ky), some (.ref rA), some (.int sp), some (.int (0 + i)), some (.ref dA), x10, none, none] ∧ At p H' dA (.lst (ds.map V.str)) ∧ H5 dA = none ∧ (∀ k ∈ ds, k ∈ ks) ∧ 1 ≤ ds.length ∧ ds.length ≤ 4 ∧ ds.Pairwise leS ∧ PoolAt H' p c' ∧ c5 ≤ c' ∧ c' ≤ c5 + 5 ∧ But p H5 H', ?_, ?_⟩
                · rintro σ H6 ⟨dA, ds, c6, rfl, hd6, nd6, hdk, hd1, hd4, hdp, ⟨o6, hp6, hpo6⟩, g11, g12, b6⟩
                  refine ⟨_, rfl, _, rfl, _, 1, rfl, rfl, p, ky + 1, c6, o6, rfl, hp6, hpo6, by omega, by omega, by omega, by omega, fun fw c7 o7 f0 f1 g13 g14 hpo7 => ?_⟩
                  have b7 : But p H5 (upd H6 p o7) := b6.trans But.upd
                  have hd7 : At p (upd H6 p o7) dA (.lst (ds.map V.str)) := hd6.on But.upd
                  have hp7 : (upd H6 p o7) p = some o7 := upd_same
                  generalize upd H6 p o7 = H7 at b7 hd7 hp7
                  refine ⟨fun σ' H' => ∃ (fw' : Nat) (sp' c' : Int), σ' = [some (.ref p), some (.int most), some (.ref kA), some (.int mn), some (.int lk), some (.int ky), some (.ref rA), some (.int sp'), some (.int (0 + i)), some (.ref dA), some (.int fw'), none, none] ∧ ((sp' = sp ∧ fw' ≤ 4) ∨ (sp' = sp - fw' ∧ (fw' : Int) ≤ sp ∧ fw' ≤ 12)) ∧ PoolAt H' p c' ∧ c5 ≤ c' ∧ c' ≤ c5 + 8 ∧ But p H7 H', ?_, ?_⟩
                  · rintro σ H8 ⟨fw, sp', c8, rfl, hfw, hp8, g15, g16, b8⟩
                    have b58 := b7.trans b8
                    have hk8 := hk5.on b58
                    have hd8 := hd7.on b8
                    have hW8 := hW.on b58
                    refine ⟨_, rfl, .inl ⟨rfl, _, SqL.of hW8.ls.1⟩, _, rfl, _, rfl, _, rfl, _, rfl, p, kA, fw, c8, ks, rfl, hp8, hk8.1, hkn, by omega, by omega, by omega, by omega, fun wA ss c9 H9 nW hsl hsm hw9 hp9 g17 g18 b9 => ?_⟩
                    obtain ⟨o8, hp8', _⟩ := hp8
                    obtain ⟨o9, hp9', hpo9⟩ := hp9
                    have npw : p ≠ wA := ne_of_none hp8' nW
                    refine ⟨by show 2 ≤ sizeLine; decide, fun tA nT => ?_⟩
                    have npt : p ≠ tA := ne_of_none hp9' nT
                    have bT : But p H9 (upd H9 tA (.tup [.ref dA, .ref wA])) := fun b u hb e => by rw [upd_ne (ne_of_none e nT)]; exact e
                    have b5T := (b58.trans b9).trans bT
                    have hdw : dA ≠ wA := ne_of_none hd8.1 nW
                    have hWn := hW.more (r := (ds, ss)) b5T (t := tA) (d := dA) (w := wA) ⟨upd_same, Ne.symm npt⟩ ((hd8.on b9).on bT) ⟨by rw [upd_ne (ne_of_none hw9 nT)]; exact hw9, Ne.symm npw⟩ nd6 (b58.free (Ne.symm npw) nW) hdw
                    have hrA := (hW.on b5T).ls
                    refine ⟨rA, vs, .ref tA, rfl, rfl, hrA.1, by rw [hW.l1]; exact small1000 (by omega), ?_⟩
                    have hst : ∃ q' : Nat, 10 - sp' ≤ 12 * q' ∧ ((((rs ++ [(ds, ss)]).map (·.2.length)).sum : Nat) : Int) + 4 * q' ≤ 4 * ((i + 1 : Nat) : Int) + (10 - sp') ∧ 0 ≤ sp' ∧ sp' ≤ 10 := by
                      rw [List.map_append, List.sum_append]
                      simp only [List.map_cons, List.map_nil, List.sum_cons, List.sum_nil]
                      rcases hfw with ⟨e1, e2⟩ | ⟨e1, e2, e3⟩
                      · exact ⟨q, by omega, by omega, by omega, by omega⟩
                      · exact ⟨q + 1, by omega, by omega, by omega, by omega⟩
                    obtain ⟨q', q1, q2, q3, q4⟩ := hst
                    refine ⟨_, _, _, sp', c9, vs ++ [.ref tA], rs ++ [(ds, ss)], ws ++ [wA], q', rfl, hWn, fun w' hw' => ?_, by simp [hrl], fun r hr' => ?_, q3, q4, q1, q2, ⟨o9, by rw [upd_ne (Ne.symm hrA.2), upd_ne npt]; exact hp9', hpo9⟩, by omega, by omega, fun b u hb e => ?_⟩
                    · rcases List.mem_append.mp hw' with hw' | hw'
                      · exact hwf w' hw'
                      · rw [List.mem_singleton.mp hw']
                        exact b5.free (Ne.symm npw) (b58.free (Ne.symm npw) nW)
                    · rcases List.mem_append.mp hr' with hr' | hr'
                      · exact hro r hr'
                      · rw [List.mem_singleton.mp hr']
                        exact ⟨hdk, hd1, hd4, hdp, hsm, by show ss.length ≤ 12; omega⟩
                    · rw [upd_ne (ne_of_none e nR)]
                      exact b5T b u hb (b5 b u hb e)
                  · refine ⟨_, rfl, p, 8, c7, o7, rfl, hp7, hpo7, by decide, by decide, by omega, by omega, fun z c8 o8 z0 z1 g15 g16 hpo8 => ?_⟩
                    refine ⟨rfl, _, rfl, ite2 (fun _ => ?_) (fun _ => ?_)⟩
                    · refine ⟨_, rfl, _, rfl, p, 9, c8, o8, rfl, upd_same, hpo8, by decide, by decide, by omega, by omega, fun y c9 o9 y0 y1 g17 g18 hpo9 => ?_⟩
                      refine ⟨4, y, rfl, rfl, _, _, rfl, ?_⟩
                      have mi : (if 4 + y < sp then 4 + y else sp) ≤ sp ∧ 0 ≤ (if 4 + y < sp then 4 + y else sp) ∧ (if 4 + y < sp then 4 + y else sp) ≤ 12 := by split <;> omega
                      generalize (if 4 + y < sp then 4 + y else sp) = mv at mi ⊢
                      obtain ⟨mvn, rfl⟩ : ∃ n : Nat, mv = (n : Int) := ⟨mv.toNat, by omega⟩
                      refine ⟨_, rfl, _, rfl, _, _, rfl, rfl, ?_⟩
                      exact ⟨mvn, _, c9, rfl, .inr ⟨rfl, mi.1, by omega⟩, ⟨o9, upd_same, hpo9⟩, by omega, by omega, But.upd.trans But.upd⟩
                    · obtain ⟨fwn, rfl⟩ : ∃ n : Nat, fw = (n : Int) := ⟨fw.toNat, by omega⟩
                      exact ⟨fwn, sp, c8, rfl, .inl ⟨rfl, by omega⟩, ⟨o8, upd_same, hpo8⟩, by omega, by omega, But.upd⟩
                · refine ⟨_, rfl, _, rfl, _, rfl, _, rfl, p, lk, c5, o5, rfl, hp5, hpo5, by omega, by omega, by omega, by omega, fun z c6 o6 z0 z1 g11 g12 hpo6 => ?_⟩
                  obtain ⟨zn, rfl⟩ : ∃ n : Nat, z = (n : Int) := ⟨z.toNat, by omega⟩
                  refine ⟨1, _, rfl, rfl, ?_⟩
                  have hk6 : At p (upd H5 p o6) kA (.lst (ks.map V.str)) := hk5.on But.upd
                  refine ⟨p, kA, 1 + zn, c6, ks, congrArg (fun z => [V.ref p, V.ref kA, V.int z]) (show (1 + (zn : Int)) = ((1 + zn : Nat) : Int) by omega), ⟨o6, upd_same, hpo6⟩, hk6.1, hkn, by omega, by omega, by omega, by omega, fun l ss c7 H7 nl hsl hsm hl7 hp7 g13 g14 b7 => ?_⟩
                  refine ⟨l, ss, rfl, SqL.of hl7, by omega, fun dA ds nd hpm hso => ?_⟩
                  have npl : p ≠ l := ne_of_none (show (upd H5 p o6) p = some o6 from upd_same) nl
                  obtain ⟨o7, hp7', hpo7⟩ := hp7
                  have npd : p ≠ dA := ne_of_none hp7' nd
                  have b57 : But p H5 H7 := But.upd.trans b7
                  refine ⟨dA, ds, c7, rfl, ⟨upd_same, Ne.symm npd⟩, b57.free (Ne.symm npd) nd, fun k hk => hsm k (hpm.mem_iff.mp hk), by rw [hpm.length_eq]; omega, by rw [hpm.length_eq]; omega, sortedS_pairwise hso, ⟨o7, by rw [upd_ne npd]; exact hp7', hpo7⟩, by omega, by omega, fun b u hb e => by rw [upd_ne (ne_of_none (b57 b u hb e) nd)]; exact b57 b u hb e⟩
              · rintro σ H5 ⟨x8, x9, x10, sp, c5, vs, rs, ws, q, rfl, hW, hwf, hrl, hro, hs0, hs1, hs2, hs3, hp5, g9, g10, b5⟩
                exact ⟨x8, x9, x10, sp, c5, vs, rs, ws, rfl, hW, hwf, hrl, hro, by omega, hp5, g9, g10, b5⟩
          · refine ⟨by show 3 ≤ sizeLine; decide, fun l1 n1 => ?_⟩
            have np1 : p ≠ l1 := ne_of_none hp3 n1
            refine ⟨_, rfl, p, 3, c3, o3, rfl, by rw [upd_ne np1]; exact hp3, hpo3, by decide, by decide, by omega, by omega, fun r c4 o4 r0 r1 h1 h2 hpo4 => ?_⟩
            obtain ⟨m, hm, ha⟩ := menu (xs := [2, 3, 4]) r0 r1
            refine ⟨l1, _, r, .int m, rfl, rfl, SqL.of (by rw [upd_ne (Ne.symm np1), upd_same]; rfl), ha, ?_⟩
            simp only [List.mem_cons, List.not_mem_nil, or_false] at hm
            exact ⟨m, c4, rfl, by omega, by omega, ⟨o4, upd_same, hpo4⟩, by omega, by omega, fun b u hb e => by rw [upd_ne hb, upd_ne (ne_of_none (b3 b u hb e) n1)]; exact b3 b u hb e⟩
        · refine ⟨by show 4 ≤ sizeLine; decide, fun l1 n1 => ?_⟩
          have np1 : p ≠ l1 := ne_of_none hp2 n1
          refine ⟨_, rfl, p, 4, c2, o2, rfl, by rw [upd_ne np1]; exact hp2, hpo2, by decide, by decide, by omega, by omega, fun r c4 o4 r0 r1 h1 h2 hpo4 => ?_⟩
          obtain ⟨m, hm, ha⟩ := menu (xs := [1, 1, 2, 4]) r0 r1
          refine ⟨l1, _, r, .int m, rfl, rfl, SqL.of (by rw [upd_ne (Ne.symm np1), upd_same]; rfl), ha, ?_⟩
          simp only [List.mem_cons, List.not_mem_nil, or_false] at hm
          exact ⟨m, c4, rfl, by omega, by omega, ⟨o4, upd_same, hpo4⟩, by omega, by omega, fun b u hb e => by rw [upd_ne hb, upd_ne (ne_of_none (b2 b u hb e) n1)]; exact b2 b u hb e⟩
      · refine ⟨_, rfl, _, rfl, _, _, rfl, _, 1, rfl, rfl, ?_⟩
        have mi : 0 ≤ (if (8 : Int) < (most : Int) then (8 : Int) else (most : Int)) ∧ (if (8 : Int) < (most : Int) then (8 : Int) else (most : Int)) ≤ most := by split <;> omega
        refine ⟨p, _, c1, o1, rfl, hp1, hpo1, by omega, by omega, by omega, by omega, fun a c2 o2 a0 a1 h1 h2 hpo2 => ?_⟩
        refine ⟨_, rfl, _, rfl, _, 1, rfl, rfl, p, _, c2, o2, rfl, upd_same, hpo2, by omega, by omega, by omega, by omega, fun b c3 o3 b0 b1' h3 h4 hpo3 => ?_⟩
        refine ⟨by show 2 ≤ sizeLine; decide, fun l1 n1 => ?_⟩
        have np1 : p ≠ l1 := ne_of_none (show (upd (upd H1 p o2) p o3) p = some o3 from upd_same) n1
        refine ⟨_, rfl, p, 2, c3, o3, rfl, by rw [upd_ne np1]; exact upd_same, hpo3, by decide, by decide, by omega, by omega, fun r c4 o4 r0 r1 h5 h6 hpo4 => ?_⟩
        obtain ⟨m, hm, ha⟩ := menu (xs := [a, b]) r0 r1
        refine ⟨l1, _, r, .int m, rfl, rfl, SqL.of (by rw [upd_ne (Ne.symm np1), upd_same]; rfl), ha, ?_⟩
        simp only [List.mem_cons, List.not_mem_nil, or_false] at hm
        obtain ⟨mn, rfl⟩ : ∃ mn : Nat, m = (mn : Int) := ⟨m.toNat, by omega⟩
        have n1' : H1 l1 = none := by
          rw [upd_ne (Ne.symm np1), upd_ne (Ne.symm np1)] at n1
          exact n1
        exact ⟨mn, c4, rfl, by omega, ⟨o4, upd_same, hpo4⟩, by omega, by omega, fun b u hb e => by rw [upd_ne hb, upd_ne (ne_of_none e n1'), upd_ne hb, upd_ne hb]; exact e⟩
    · refine ⟨_, rfl, _, rfl, by show 4 ≤ sizeLine; decide, fun l1 n1 => ?_⟩
      have np1 : p ≠ l1 := ne_of_none hp n1
      refine ⟨_, rfl, p, 4, c, o, rfl, by rw [upd_ne np1]; exact hp, hpo, by decide, by decide, by omega, by omega, fun r c1 o1 r0 r1 h1 h2 hpo1 => ?_⟩
      obtain ⟨m, hm, ha⟩ := menu (xs := [6, 6, 24, 60]) r0 r1
      have hm' : 1 ≤ m ∧ m ≤ 60 := by simp only [List.mem_cons, List.not_mem_nil, or_false] at hm; omega
      refine ⟨l1, _, r, .int m, rfl, rfl, SqL.of (by rw [upd_ne (Ne.symm np1), upd_same]; rfl), ha, ?_⟩
      refine ⟨p, m, c1, o1, rfl, upd_same, hpo1, by omega, by omega, by omega, by omega, fun q c2 o2 q0 q1 h3 h4 hpo2 => ?_⟩
      obtain ⟨qn, rfl⟩ : ∃ qn : Nat, q = (qn : Int) := ⟨q.toNat, by omega⟩
      refine ⟨1, _, rfl, rfl, ?_⟩
      have bb : But p H (upd (upd (upd H l1 (.lst [.int 6, .int 6, .int 24, .int 60])) p o1) p o2) := fun b u hb e => by rw [upd_ne hb, upd_ne hb, upd_ne (ne_of_none e n1)]; exact e
      refine ⟨p, 1 + qn, c2, congrArg (fun z => [V.ref p, V.int z]) (show (1 + (qn : Int)) = ((1 + qn : Nat) : Int) by omega), ⟨o2, upd_same, hpo2⟩, by omega, by omega, by omega, fun l ks c3 H' hl hkl hko hkn hl' hp' h5 h6 hb => ?_⟩
      refine ⟨l, ks, c3, rfl, ⟨hl', fun z => ?_⟩, (fun z => by rw [z] at hkl; simp at hkl; omega), by omega, hko, hp', by omega, by omega, bb.trans hb⟩
      subst z
      rw [upd_same] at hl
      cases hl
end
end K7
set_option Elab.async false
set_option linter.all false
set_option maxRecDepth 100000
set_option maxHeartbeats 4000000
namespace K7
open PySem L2 PyProof.Rows
structure RoomsF (H : Hp) (vs : List V) (n : Nat) (T L : Nat → Addr) (C : Nat → List V) : Prop where
  len : vs.length = n
  tu : ∀ i, i < n → vs[i]? = some (.ref (T i)) ∧ H (T i) = some (.tup [.ref (L (2 * i)), .ref (L (2 * i + 1))])
  ls : ∀ m, m < 2 * n → H (L m) = some (.lst (C m))
  inj : ∀ m k, m < 2 * n → k < 2 * n → L m = L k → m = k
theorem RoomsF.nil (H : Hp) (T L : Nat → Addr) (C : Nat → List V) : RoomsF H [] 0 T L C := ⟨rfl, fun i h => absurd h (Nat.not_lt_zero _), fun m h => absurd h (by omega), fun m k h => absurd h (by omega)⟩
theorem RoomsF.same {H H' : Hp} {vs : List V} {n : Nat} {T L : Nat → Addr} {C : Nat → List V} (x : RoomsF H vs n T L C) (s : Same H H') : RoomsF H' vs n T L C :=
  ⟨x.len, fun i h => ⟨(x.tu i h).1, s _ _ (x.tu i h).2⟩, fun m h => s _ _ (x.ls m h), x.inj⟩
theorem RoomsF.congr {H : Hp} {vs : List V} {n : Nat} {T L : Nat → Addr} {C C' : Nat → List V} (x : RoomsF H vs n T L C) (h : ∀ m, m < 2 * n → C m = C' m) : RoomsF H vs n T L C' :=
  ⟨x.len, x.tu, fun m hm => by rw [← h m hm]; exact x.ls m hm, x.inj⟩
theorem RoomsF.off {H : Hp} {vs : List V} {n : Nat} {T L : Nat → Addr} {C : Nat → List V} {D : Addr} {q : List V} {o : HO} (x : RoomsF H vs n T L C) (hD : H D = some (.lst q)) (nD : ∀ m, m < 2 * n → L m ≠ D) : RoomsF (upd H D o) vs n T L C :=
  ⟨x.len, fun i h => ⟨(x.tu i h).1, by rw [upd_ne (ne_of (x.tu i h).2 hD (fun z => nomatch z))]; exact (x.tu i h).2⟩, fun m h => by rw [upd_ne (nD m h)]; exact x.ls m h, x.inj⟩
theorem RoomsF.set {H : Hp} {vs : List V} {n : Nat} {T L : Nat → Addr} {C : Nat → List V} {m : Nat} {q : List V} (x : RoomsF H vs n T L C) (hm : m < 2 * n) : RoomsF (upd H (L m) (.lst q)) vs n T L (fun k => if k = m then q else C k) := by
  refine ⟨x.len, fun i h => ⟨(x.tu i h).1, ?_⟩, fun k hk => ?_, x.inj⟩
  · rw [upd_ne (ne_of (x.tu i h).2 (x.ls m hm) (fun z => nomatch z))]
    exact (x.tu i h).2
  · by_cases e : k = m
    · subst e
      rw [if_pos rfl, upd_same]
    · rw [if_neg e, upd_ne (fun z => e (x.inj k m hk hm z))]
      exact x.ls k hk
theorem RoomsF.more {H H' : Hp} {vs : List V} {n : Nat} {T L : Nat → Addr} {C : Nat → List V} {t d w : Addr} (x : RoomsF H vs n T L C) (s : Same H H') (ht : H' t = some (.tup [.ref d, .ref w])) (hd : H' d = some (.lst (C (2 * n)))) (hw : H' w = some (.lst (C (2 * n + 1))))
    (nd : H d = none) (nw : H w = none) (dw : d ≠ w) : RoomsF H' (vs ++ [.ref t]) (n + 1) (fun i => if i = n then t else T i) (fun m => if m = 2 * n then d else if m = 2 * n + 1 then w else L m) C := by
  have fd : ∀ m, m < 2 * n → L m ≠ d := fun m h z => by have := x.ls m h; rw [z, nd] at this; cases this
  have fw : ∀ m, m < 2 * n → L m ≠ w := fun m h z => by have := x.ls m h; rw [z, nw] at this; cases this
  refine ⟨by simp [x.len], fun i h => ?_, fun m h => ?_, fun m k hm hk e => ?_⟩
  · by_cases e : i = n
    · subst e
      rw [if_pos rfl, if_pos rfl, if_neg (by omega), if_pos rfl]
      exact ⟨by rw [List.getElem?_append_right (by rw [x.len]; exact Nat.le_refl _), x.len, Nat.sub_self]; rfl, ht⟩
    · have hi : i < n := by omega
      rw [if_neg e, if_neg (by omega), if_neg (by omega), if_neg (by omega), if_neg (by omega)]
      exact ⟨by rw [List.getElem?_append_left (by rw [x.len]; exact hi)]; exact (x.tu i hi).1, s _ _ (x.tu i hi).2⟩
  · by_cases e1 : m = 2 * n
    · subst e1
      rw [if_pos rfl]; exact hd
    · rw [if_neg e1]
      by_cases e2 : m = 2 * n + 1
      · subst e2
        rw [if_pos rfl]; exact hw
      · rw [if_neg e2]
        exact s _ _ (x.ls m (by omega))
  · by_cases e1 : m = 2 * n
    · subst e1
      rw [if_pos rfl] at e
      by_cases f1 : k = 2 * n
      · exact f1.symm
      · rw [if_neg f1] at e
        by_cases f2 : k = 2 * n + 1
        · rw [if_pos f2] at e; exact absurd e dw
        · rw [if_neg f2] at e; exact absurd e.symm (fd k (by omega))
    · rw [if_neg e1] at e
      by_cases e2 : m = 2 * n + 1
      · rw [if_pos e2] at e
        by_cases f1 : k = 2 * n
        · rw [if_pos f1] at e; exact absurd e.symm dw
        · rw [if_neg f1] at e
          by_cases f2 : k = 2 * n + 1
          · omega
          · rw [if_neg f2] at e; exact absurd e.symm (fw k (by omega))
      · rw [if_neg e2] at e
        by_cases f1 : k = 2 * n
        · rw [if_pos f1] at e; exact absurd e (fd m (by omega))
        · rw [if_neg f1] at e
          by_cases f2 : k = 2 * n + 1
          · rw [if_pos f2] at e; exact absurd e (fw m (by omega))
          · rw [if_neg f2] at e
            exact x.inj m k (by omega) (by omega) e
def cellsOf (h : Hs) (m : Nat) : List Str := if m % 2 = 0 then ((h.2[m / 2]?).getD ([], [])).1 else ((h.2[m / 2]?).getD ([], [])).2
theorem cells_lock {h : Hs} {i : Nat} {r : Rm} (e : h.2[i]? = some r) : cellsOf h (2 * i) = r.1 := by
  unfold cellsOf
  rw [if_pos (by omega), show 2 * i / 2 = i by omega, e]
  rfl
theorem cells_key {h : Hs} {i : Nat} {r : Rm} (e : h.2[i]? = some r) : cellsOf h (2 * i + 1) = r.2 := by
  unfold cellsOf
  rw [if_neg (by omega), show (2 * i + 1) / 2 = i by omega, e]
  rfl
def HouseF (H0 H : Hp) (v : V) (h : Hs) : Prop := ∃ (t a r : Addr) (vs : List V) (T L : Nat → Addr), v = .ref t ∧ H t = some (.tup [.ref a, .ref r]) ∧ H a = some (.lst (h.1.map V.str)) ∧ H r = some (.lst vs) ∧ RoomsF H vs h.2.length T L (fun m => (cellsOf h m).map V.str) ∧
  a ≠ r ∧ (∀ m, m < 2 * h.2.length → a ≠ L m ∧ r ≠ L m) ∧ H0 a = none ∧ H0 r = none ∧ ∀ m, m < 2 * h.2.length → H0 (L m) = none
theorem HouseF.same {H0 H H' : Hp} {v : V} {h : Hs} (x : HouseF H0 H v h) (s : Same H H') : HouseF H0 H' v h := by
  obtain ⟨t, a, r, vs, T, L, e, h1, h2, h3, h4, rest⟩ := x
  exact ⟨t, a, r, vs, T, L, e, s _ _ h1, s _ _ h2, s _ _ h3, h4.same s, rest⟩
theorem RoomsF.at {H : Hp} {vs : List V} {h : Hs} {T L : Nat → Addr} (x : RoomsF H vs h.2.length T L (fun m => (cellsOf h m).map V.str)) : RoomsAt H vs h.2 := ⟨x.len, fun i v r e1 e2 => by
  have hi : i < h.2.length := (List.getElem?_eq_some_iff.mp e2).1
  obtain ⟨a1, a2⟩ := x.tu i hi
  rw [e1] at a1
  cases a1
  have b1 := x.ls (2 * i) (by omega)
  have b2 := x.ls (2 * i + 1) (by omega)
  rw [cells_lock e2] at b1
  rw [cells_key e2] at b2
  exact ⟨_, _, _, rfl, a2, b1, b2⟩⟩
theorem HouseF.at {H0 H : Hp} {v : V} {h : Hs} (x : HouseF H0 H v h) : HouseAt H v h := by
  obtain ⟨t, a, r, vs, T, L, e, h1, h2, h3, h4, rest⟩ := x
  exact ⟨t, a, r, vs, e, h1, h2, h3, h4.at⟩
def keep (ls ks : List Str) : List Str := ks.filter fun k => decide (k ∈ ls)
def needOf (h : Hs) : Hs := (keep (allLocks h) h.1, h.2.map fun r => (r.1, keep (allLocks h) r.2))
theorem keep_len (ls ks : List Str) : (keep ls ks).length ≤ ks.length := List.length_filter_le _ _
theorem keep_snoc (ls ks : List Str) (k : Str) : keep ls (ks ++ [k]) = keep ls ks ++ if k ∈ ls then [k] else [] := by
  unfold keep
  rw [List.filter_append]
  congr 1
  by_cases e : k ∈ ls
  · simp [e]
  · simp [e]
theorem need_len (h : Hs) : (needOf h).2.length = h.2.length := by simp [needOf]
theorem need_at {h : Hs} {i : Nat} {r : Rm} (e : h.2[i]? = some r) : (needOf h).2[i]? = some (r.1, keep (allLocks h) r.2) := by simp [needOf, e]
theorem need_ok {h : Hs} (ok : HouseOk h) : HouseOk (needOf h) := by
  refine ⟨fun k hk => ok.kk k ((List.mem_filter.mp hk).1), Nat.le_trans (keep_len _ _) ok.kl, fun r hr => ?_, by rw [need_len]; exact ok.rl⟩
  obtain ⟨q, hq, rfl⟩ := List.mem_map.mp hr
  have o := ok.rs q hq
  exact ⟨o.lk, o.l1, o.l4, o.so, fun k hk => o.kk k ((List.mem_filter.mp hk).1), Nat.le_trans (keep_len _ _) o.kl⟩
def strData (ss : List Str) (d : PyData) : PyData := .list (ss.map PyData.str ++ [d])
def markRooms : Nat → List Rm → List PyData
  | _, [] => [.none]
  | i, r :: rs => .tuple [strData r.1 (.int (2 * (i : Int))), strData r.2 (.int (2 * (i : Int) + 1))] :: markRooms (i + 1) rs
def markedData (h : Hs) : PyData := .tuple [strData h.1 (.str "mark"), .list (markRooms 0 h.2)]
theorem SeesAll.snoc {H : Hp} {d : PyData} {v : V} (x : Sees H v d) : ∀ ss : List Str, SeesAll H (ss.map V.str ++ [v]) (ss.map PyData.str ++ [d])
  | [] => .cons x .nil
  | s :: ss => .cons (.str s) (SeesAll.snoc x ss)
theorem sees_marks {H : Hp} {T L : Nat → Addr} : ∀ (rs : List Rm) (vs : List V) (k : Nat), vs.length = rs.length →
    (∀ (i : Nat) (r : Rm), rs[i]? = some r → vs[i]? = some (.ref (T (k + i))) ∧ H (T (k + i)) = some (.tup [.ref (L (2 * (k + i))), .ref (L (2 * (k + i) + 1))]) ∧ H (L (2 * (k + i))) = some (.lst (r.1.map V.str ++ [.int (2 * ((k + i : Nat) : Int))])) ∧ H (L (2 * (k + i) + 1)) = some (.lst (r.2.map V.str ++ [.int (2 * ((k + i : Nat) : Int) + 1)]))) →
    SeesAll H (vs ++ [.non]) (markRooms k rs)
  | [], [], k, _, _ => .cons .non .nil
  | [], _ :: _, k, e, _ => absurd e (by simp)
  | _ :: _, [], k, e, _ => absurd e (by simp)
  | r :: rs, v :: vs, k, e, h => by
    obtain ⟨a1, a2, a3, a4⟩ := h 0 r rfl
    cases a1
    refine .cons (.tup a2 (.cons (.lst a3 (SeesAll.snoc (.int _) _)) (.cons (.lst a4 (SeesAll.snoc (.int _) _)) .nil))) (sees_marks (T := T) (L := L) rs vs (k + 1) (by simpa using e) fun i q hq => ?_)
    have := h (i + 1) q (by simpa using hq)
    rw [show k + (i + 1) = k + 1 + i by omega] at this
    simpa using this
theorem strs_snoc_lay {d : PyData} (hd : d.canLay0 = true) : ∀ {ss : List Str}, (∀ k ∈ ss, KindOk k) → PyData.canLayAll0 (ss.map PyData.str ++ [d]) = true := fun {ss} h => by
  have e := strs_lay h
  induction ss with
  | nil => simp only [List.map_nil, List.nil_append, PyData.canLayAll0, hd, Bool.and_self]
  | cons s ss ih =>
    have e2 := strs_lay (ks := ss) fun k hk => h k (List.mem_cons_of_mem _ hk)
    rw [List.map_cons] at e
    simp only [PyData.canLayAll0, Bool.and_eq_true] at e
    rw [List.map_cons, List.cons_append]
    simp only [PyData.canLayAll0, Bool.and_eq_true]
    exact ⟨e.1, ih (fun k hk => h k (List.mem_cons_of_mem _ hk)) e2⟩
theorem strs_snoc_eqv {d : PyData} (hd : PyData.eqv d d = true) : ∀ ss : List Str, PyData.eqvAll (ss.map PyData.str ++ [d]) (ss.map PyData.str ++ [d]) = true
  | [] => by simp only [List.map_nil, List.nil_append, PyData.eqvAll, hd, Bool.and_self]
  | s :: ss => by
    have e := strs_eqv (s :: [])
    rw [List.map_cons, List.cons_append]
    simp only [List.map_cons, List.map_nil, PyData.eqvAll, Bool.and_true] at e
    simp only [PyData.eqvAll, Bool.and_eq_true]
    exact ⟨e, strs_snoc_eqv hd ss⟩
theorem strs_snoc_depth {d : PyData} (hd : d.depth = 0) : ∀ ss : List Str, PyData.depthAll (ss.map PyData.str ++ [d]) = 0
  | [] => by simp only [List.map_nil, List.nil_append, PyData.depthAll, hd]; rfl
  | s :: ss => by
    rw [List.map_cons, List.cons_append]
    simp only [PyData.depthAll, PyData.depth, strs_snoc_depth hd ss]
    rfl
theorem marks_lay : ∀ (rs : List Rm) (k : Nat), (∀ r ∈ rs, (∀ k ∈ r.1, KindOk k) ∧ ∀ k ∈ r.2, KindOk k) → PyData.canLayAll0 (markRooms k rs) = true
  | [], k, _ => rfl
  | r :: rs, k, h => by
    obtain ⟨h1, h2⟩ := h r List.mem_cons_self
    have e1 := strs_snoc_lay (d := .int (2 * (k : Int))) rfl h1
    have e2 := strs_snoc_lay (d := .int (2 * (k : Int) + 1)) rfl h2
    have e3 := marks_lay rs (k + 1) fun q hq => h q (List.mem_cons_of_mem _ hq)
    simp only [markRooms, strData, PyData.canLayAll0, PyData.canLay0, e1, e2, e3, Bool.and_self]
theorem marks_eqv : ∀ (rs : List Rm) (k : Nat), PyData.eqvAll (markRooms k rs) (markRooms k rs) = true
  | [], k => rfl
  | r :: rs, k => by
    have e1 := strs_snoc_eqv (d := .int (2 * (k : Int))) (by simp only [PyData.eqv, beq_self_eq_true]) r.1
    have e2 := strs_snoc_eqv (d := .int (2 * (k : Int) + 1)) (by simp only [PyData.eqv, beq_self_eq_true]) r.2
    simp only [markRooms, strData, PyData.eqvAll, PyData.eqv, e1, e2, marks_eqv rs (k + 1), Bool.and_self]
theorem marks_depth : ∀ (rs : List Rm) (k : Nat), PyData.depthAll (markRooms k rs) ≤ 2
  | [], k => by simp only [markRooms, PyData.depthAll, PyData.depth]; decide
  | r :: rs, k => by
    have e1 := strs_snoc_depth (d := .int (2 * (k : Int))) rfl r.1
    have e2 := strs_snoc_depth (d := .int (2 * (k : Int) + 1)) rfl r.2
    simp only [markRooms, strData, PyData.depthAll, PyData.depth, e1, e2]
    exact Nat.max_le.mpr ⟨by decide, marks_depth rs (k + 1)⟩
theorem marked_lay {h : Hs} (ok : HouseOk h) : (markedData h).canLay0 = true := by
  have e1 := strs_snoc_lay (d := .str "mark") (by decide +kernel) ok.kk
  have e2 := marks_lay h.2 0 fun r hr => ⟨(ok.rs r hr).lk, (ok.rs r hr).kk⟩
  simp only [markedData, strData, PyData.canLay0, PyData.canLayAll0, e1, e2, Bool.and_self]
theorem marked_eqv (h : Hs) : PyData.eqv (markedData h) (markedData h) = true := by
  have e1 := strs_snoc_eqv (d := .str "mark") (by decide +kernel) h.1
  simp only [markedData, strData, PyData.eqv, PyData.eqvAll, e1, marks_eqv, Bool.and_self]
theorem marked_depth (h : Hs) : (markedData h).depth ≤ 4 := by
  have e1 := strs_snoc_depth (d := .str "mark") rfl h.1
  have e2 := marks_depth h.2 0
  simp only [markedData, strData, PyData.depth, PyData.depthAll, e1]
  omega
end K7
set_option Elab.async false
set_option linter.all false
set_option maxRecDepth 100000
set_option maxHeartbeats 4000000
namespace K7
open PySem L2 PyProof.Rows
def spCopyF : Sp := fun vs H Q _ => ∃ (v : V) (h : Hs), vs = [v] ∧ HouseAt H v h ∧ HouseOk h ∧ ∀ (u : V) (H' : Hp), Same H H' → HouseF H H' u h → Q u H'
section
variable {P : Program} {w : World} {K : PySem.W.Frag} {mg : Str → Option Value} {base : Heap}
theorem sc__law_copy : FnScope ["house"] ["house"] (defScope st__law_copy) := ⟨rfl, rfl, rfl, by decide +kernel, rfl, by decide +kernel, by decide +kernel⟩
theorem nd__law_copy_0 : (["locks", "keys"] : List Str).Nodup := by decide +kernel
theorem ok_copyF {f : Addr} {fd : FuncData} (F : Fun K "_law_copy" "_law_copy" st__law_copy f fd) (m_list : mg "list" = none) : FnOk P w K mg base CX0 1 f fd ["house"] spCopyF := by
  refine F.ok sc__law_copy (fun vs H Q E h => ?_) (fun cdv A outer s H vs Q E hr h => ?_)
  · obtain ⟨v, r, rfl, _⟩ := h
    rfl
  · obtain ⟨v, hs, rfl, ⟨t, a, r, vs, rfl, ht, ha, hr', hR⟩, ok, k⟩ := h
    refine ⟨_, (pss_one (ps_ret (pe_tup (pa_cons (pe_callTy call_list_of rfl m_list (by decide +kernel) (pa_cons (pe_ix ix_tup (pv 0) pe_int (fun _ _ => rfl)) pa_nil)) (pa_cons (pe_lc (outer := defScope (st__law_copy)) (N := ["house"]) (N' := ["locks", "keys"]) (nl := 2) (ix := []) rfl rfl rfl (pi_list (pe_ix ix_tup (pv 0) pe_int (fun _ _ => rfl)))
        (fun C fp s₀ H₀ => (pg_tupK (K := K) (n := 2) rfl rfl (pgs_cons (pg_name (i := 0) nd__law_copy_0 rfl (Or.inl rfl) (.inr rfl)) (pgs_cons (pg_name (i := 1) nd__law_copy_0 rfl (Or.inl rfl) (.inr rfl)) pgs_nil)))) (fun C fp s₀ H₀ => pif_nil)
        (fun C fp s₀ H₀ => (pe_tup (pa_cons (pe_callTy (call_listK (K := K) rfl) rfl m_list (by decide +kernel) (pa_cons (pv 0) pa_nil)) (pa_cons (pe_callTy (call_listK (K := K) rfl) rfl m_list (by decide +kernel) (pa_cons (pv 1) pa_nil)) pa_nil))))) pa_nil))))), ?_⟩
    refine ⟨_, rfl, t, _, 0, .ref a, rfl, rfl, SqT.of ht, rfl, a, _, rfl, .inl (SqL.of ha), fun a1 ha1 => ?_⟩
    have sm0 : Same H (upd H a1 (.lst (hs.1.map V.str))) := fun b u e => by rw [upd_ne (ne_of_none e ha1)]; exact e
    have hA : (upd H a1 (.lst (hs.1.map V.str))) a1 = some (.lst (hs.1.map V.str)) := upd_same
    generalize upd H a1 (.lst (hs.1.map V.str)) = H1 at sm0 hA ⊢
    dsimp only [tCons, tNil]
    refine lcomp_eq _ _ _ _ _ _ _ _ _ ?_
    refine ⟨_, rfl, t, _, 1, .ref r, rfl, rfl, SqT.of (sm0 _ _ ht), rfl, r, rfl, ⟨_, SqL.of (sm0 _ _ hr')⟩, ?_⟩
    intro D hD
    have hl : vs.length ≤ 1000 := by rw [hR.1]; exact ok.rl
    have naD : a1 ≠ D := ne_of_none hA hD
    refine comp_list (xs := vs) (fun i ys H2 => i ≤ 1000 ∧ i ≤ vs.length ∧ (∃ T L, RoomsF H2 ys i T L (fun m => (cellsOf hs m).map V.str) ∧ ∀ m, m < 2 * i → H1 (L m) = none ∧ L m ≠ D) ∧ H2 D = some (.lst ys) ∧ Same H1 H2)
      ⟨by decide, Nat.zero_le _, ⟨fun _ => 0, fun _ => 0, RoomsF.nil _ _ _ _, fun m h => absurd h (by omega)⟩, upd_same, fun b u e => by rw [upd_ne (ne_of_none e hD)]; exact e⟩ (fun i ys H2 ⟨_, _, _, h, _⟩ => h) (fun i ys H2 ⟨_, _, _, _, sm⟩ => SqL.of (sm r _ (sm0 _ _ hr'))) ?_ ?_
    · rintro i ys H2 x hx ⟨hi0, hiv, ⟨T, L, hF, hfr⟩, hD2, sm⟩
      have hi : i < vs.length := (List.getElem?_eq_some_iff.mp hx).1
      have hi' : i < hs.2.length := by rw [← hR.1]; exact hi
      have er : hs.2[i]? = some hs.2[i] := List.getElem?_eq_getElem hi'
      obtain ⟨tt, aa, bb, rfl, g1, g2, g3⟩ := ((hR.2 i x _ hx er).same sm0).same sm
      refine turn_two tt (.ref aa) (.ref bb) rfl (SqT.of g1) rfl ?_
      refine ⟨_, rfl, aa, _, rfl, .inl (SqL.of g2), fun l1 n1 => ?_⟩
      have m1 : Same H2 (upd H2 l1 (.lst ((hs.2[i]).1.map V.str))) := fun b u e => by rw [upd_ne (ne_of_none e n1)]; exact e
      have e1 : (upd H2 l1 (.lst ((hs.2[i]).1.map V.str))) l1 = some (.lst ((hs.2[i]).1.map V.str)) := upd_same
      generalize upd H2 l1 (.lst ((hs.2[i]).1.map V.str)) = H3 at m1 e1 ⊢
      refine ⟨_, rfl, bb, _, rfl, .inl (SqL.of (m1 _ _ g3)), fun l2 n2 => ?_⟩
      have m2 : Same H3 (upd H3 l2 (.lst ((hs.2[i]).2.map V.str))) := fun b u e => by rw [upd_ne (ne_of_none e n2)]; exact e
      have e2 : (upd H3 l2 (.lst ((hs.2[i]).2.map V.str))) l2 = some (.lst ((hs.2[i]).2.map V.str)) := upd_same
      generalize upd H3 l2 (.lst ((hs.2[i]).2.map V.str)) = H4 at m2 e2 ⊢
      refine ⟨by show 2 ≤ sizeLine; decide, fun tn n3 => ?_⟩
      have m3 : Same H4 (upd H4 tn (.tup [.ref l1, .ref l2])) := fun b u e => by rw [upd_ne (ne_of_none e n3)]; exact e
      have e3 : (upd H4 tn (.tup [.ref l1, .ref l2])) tn = some (.tup [.ref l1, .ref l2]) := upd_same
      generalize upd H4 tn (.tup [.ref l1, .ref l2]) = H5 at m3 e3 ⊢
      have m25 : Same H2 H5 := (m1.trans m2).trans m3
      have hDn := m25 D _ hD2
      have n12 : l1 ≠ l2 := ne_of_none e1 n2
      have n2' : H2 l2 = none := m1.free n2
      have F5 := hF.more (t := tn) (d := l1) (w := l2) m25 e3 (by rw [cells_lock er]; exact (m2.trans m3) _ _ e1) (by rw [cells_key er]; exact m3 _ _ e2) n1 n2' n12
      have d1 : D ≠ l1 := ne_of_none hD2 n1
      have d2 : D ≠ l2 := ne_of_none hD2 n2'
      have nL : ∀ m, m < 2 * (i + 1) → H1 ((fun m => if m = 2 * i then l1 else if m = 2 * i + 1 then l2 else L m) m) = none ∧ (fun m => if m = 2 * i then l1 else if m = 2 * i + 1 then l2 else L m) m ≠ D := fun m hm => by
        dsimp only
        by_cases f1 : m = 2 * i
        · rw [if_pos f1]; exact ⟨sm.free n1, d1.symm⟩
        · rw [if_neg f1]
          by_cases f2 : m = 2 * i + 1
          · rw [if_pos f2]; exact ⟨sm.free n2', d2.symm⟩
          · rw [if_neg f2]; exact hfr m (by omega)
      refine ⟨hDn, by rw [hF.len]; exact small1000 (by omega), nx hi ⟨by omega, hi, ⟨_, _, F5.off hDn fun m hm => (nL m hm).2, nL⟩, upd_same, fun b u e => ?_⟩⟩
      rw [upd_ne (ne_of_none e hD)]
      exact m25 b u (sm b u e)
    · rintro ys H2 ⟨_, _, ⟨T, L, hF, hfr⟩, hD2, sm⟩
      refine ⟨by show 2 ≤ sizeLine; decide, fun tn n3 => ?_⟩
      have m3 : Same H2 (upd H2 tn (.tup [.ref a1, .ref D])) := fun b u e => by rw [upd_ne (ne_of_none e n3)]; exact e
      rw [hR.1] at hF hfr
      refine k (.ref tn) _ ((sm0.trans sm).trans m3) ⟨tn, a1, D, ys, T, L, rfl, upd_same, m3 _ _ (sm _ _ hA), m3 _ _ hD2, hF.same m3, naD, fun m hm => ⟨fun z => ?_, fun z => (hfr m hm).2 z.symm⟩, ha1, sm0.free hD, fun m hm => sm0.free (hfr m hm).1⟩
      have := (hfr m hm).1
      rw [← z, hA] at this
      cases this
end
end K7
set_option Elab.async false
set_option linter.all false
set_option maxRecDepth 100000
set_option maxHeartbeats 4000000
namespace K7
open PySem L2 PyProof.Rows
def spWithout : Sp := fun vs H Q _ => ∃ (v : V) (h : Hs), vs = [v] ∧ HouseAt H v h ∧ HouseOk h ∧ (allLocks h).length ≤ 1000 ∧ ∀ (u : V) (H' : Hp), Same H H' → HouseF H H' u (needOf h) → Q u H'
def WantMap (kvs : List (Key × V)) (ls : List Str) : Prop := ∀ x : Str, (valV kvs (Sum.inr x)).isSome = decide (x ∈ ls)
theorem WantMap.nil : WantMap [] [] := fun x => by simp [valV]
theorem WantMap.put {kvs : List (Key × V)} {ls : List Str} {y : Str} {v : V} (h : WantMap kvs ls) : WantMap (putK kvs (Sum.inr y) v) (ls ++ [y]) := fun x => by
  rw [valV_put]
  by_cases e : x = y
  · subst e
    simp
  · have ne : ¬ (Sum.inr x : Key) = Sum.inr y := fun z => e (Sum.inr.inj z)
    rw [if_neg ne, h x]
    simp [e]
section
variable {P : Program} {w : World} {K : PySem.W.Frag} {mg : Str → Option Value} {base : Heap}
theorem sc_without_needless : FnScope ["house", "keys", "rooms", "wanted", "kept"] ["house"] (defScope st_without_needless) := ⟨rfl, rfl, rfl, by decide +kernel, rfl, by decide +kernel, by decide +kernel⟩
theorem nd_without_needless_0 : (["locks", "within", "kind"] : List Str).Nodup := by decide +kernel
theorem nd_without_needless_1 : (["locks", "within", "wanted"] : List Str).Nodup := by decide +kernel
theorem nd_without_needless_2 : (["kind", "wanted"] : List Str).Nodup := by decide +kernel
theorem ok_without {f fR : Addr} {fd fdR : FuncData} (F : Fun K "without_needless" "without_needless" st_without_needless f fd) (G_require_house : FnOk P w K mg base CX0 6 fR fdR ["thing"] spReq) (c_require_house : Cal K mg "require_house" ["thing"] fR fdR) (m_list : mg "list" = none) :
    FnOk P w K mg base CX0 7 f fd ["house"] spWithout := by
  refine F.ok sc_without_needless (fun vs H Q E h => ?_) (fun cdv A outer s H vs Q E hr h => ?_)
  · obtain ⟨v, r, rfl, _⟩ := h
    rfl
  · obtain ⟨v, hs, rfl, hh, ok, nl, k⟩ := h
    have hu := hu_of hr
    refine ⟨_, (pss_cons (ps_expr (pe_call G_require_house hr rfl c_require_house.mg c_require_house.kp c_require_house.b .nil pass0 (pa_cons (pv 0) pa_nil)))
      (pss_cons (ps_asg (pv 0) (pg_tup rfl (pgs_cons (pg_name (i := 1) sc_without_needless.nd rfl (Or.inl rfl)) (pgs_cons (pg_name (i := 2) sc_without_needless.nd rfl (Or.inl rfl)) pgs_nil))))
      (pss_cons (ps_set (i := 3) sc_without_needless.nd rfl (Or.inr rfl) (pe_dc2 (tg2 := .Name "kind" _) (outer := defScope (st_without_needless)) (N := ["house", "keys", "rooms", "wanted", "kept"]) (N' := ["locks", "within", "kind"]) (nl := 3) (ix := []) rfl rfl rfl (pi_list (pv 2))
        (fun C fp s₀ H₀ => (pg_tupK (K := K) (n := 2) rfl rfl (pgs_cons (pg_name (i := 0) nd_without_needless_0 rfl (Or.inl rfl) (.inr rfl)) (pgs_cons (pg_name (i := 1) nd_without_needless_0 rfl (Or.inl rfl) (.inr rfl)) pgs_nil)))) (fun C fp s₀ H₀ => (pi_listK (K := K) rfl (pv 0))) (fun C fp s₀ H₀ => (pg_name (i := 2) nd_without_needless_0 rfl (Or.inl rfl) (.inr rfl)))
        (fun C fp s₀ H₀ => (pv 2)) (fun C fp s₀ H₀ => pe_bl)))
      (pss_cons (ps_setC (i := 4) (outer := defScope (st_without_needless)) (N := ["house", "keys", "rooms", "wanted", "kept"]) (N' := ["locks", "within", "wanted"]) (nl := 2) (ix := [3]) sc_without_needless.nd rfl (Or.inl rfl) rfl rfl rfl (pi_list (pv 2))
        (fun C fp s₀ H₀ => (pg_tupK (K := K) (n := 2) rfl rfl (pgs_cons (pg_name (i := 0) nd_without_needless_1 rfl (Or.inl rfl) (.inr rfl)) (pgs_cons (pg_name (i := 1) nd_without_needless_1 rfl (Or.inl rfl) (.inr rfl)) pgs_nil)))) (fun C fp s₀ H₀ => pif_nil)
        (fun C fp s₀ H₀ => (pe_tup (pa_cons (pe_callTy (call_listK (K := K) rfl) rfl m_list (by decide +kernel) (pa_cons (pv 0) pa_nil)) (pa_cons (pe_lc (tg := .Name "kind" _) (outer := relab (compScope (asgVal ((defBody st_without_needless).getD 3 (.Pass ⟨0, 0, 0, 0⟩)))) (defScope (st_without_needless))) (N := ["locks", "within", "wanted"]) (N' := ["kind", "wanted"]) (nl := 1) (ix := [2]) (comp_scope rfl) rfl rfl (pi_listK (K := K) rfl (pv 1))
        (fun C fp s₀ H₀ => (pg_name (i := 0) nd_without_needless_2 rfl (Or.inl rfl) (.inr rfl))) (fun C fp s₀ H₀ => (pif_one (pt_cmp (pc_din hu (pv 0) (pv 1)))))
        (fun C fp s₀ H₀ => (pv 0))) pa_nil)))))
      (pss_one (ps_ret (pe_tup (pa_cons (pe_lc (tg := .Name "kind" _) (outer := defScope (st_without_needless)) (N := ["house", "keys", "rooms", "wanted", "kept"]) (N' := ["kind", "wanted"]) (nl := 1) (ix := [3]) rfl rfl rfl (pi_list (pv 1))
        (fun C fp s₀ H₀ => (pg_name (i := 0) nd_without_needless_2 rfl (Or.inl rfl) (.inr rfl))) (fun C fp s₀ H₀ => (pif_one (pt_cmp (pc_din hu (pv 0) (pv 1)))))
        (fun C fp s₀ H₀ => (pv 0))) (pa_cons (pv 4) pa_nil))))))))), ?_⟩
    refine ⟨_, rfl, v, hs, rfl, hh, ok, fun H1 s1 => ?_⟩
    obtain ⟨t, a, r, vs, rfl, ht, ha, hr', hR⟩ := hh.same s1
    refine ⟨_, rfl, t, _, rfl, SqT.of ht, rfl, _, _, rfl, _, _, rfl, rfl, ?_⟩
    have hl : vs.length ≤ 1000 := by rw [hR.1]; exact ok.rl
    have big : ∀ {n : Nat}, n ≤ 4000 → n < sizeLine := fun h => Nat.lt_of_le_of_lt h (by decide)
    dsimp only [tSeq, tAsg]
    refine dcomp2_list (K := K) (tl := tVar 2) ?_ (fun h q => let ⟨x, e, q⟩ := q; ⟨x, e, h _ _ q⟩)
    refine ⟨_, rfl, r, vs, rfl, SqL.of hr', fun D nD => ⟨fun i ys H2 => WantMap ys ((hs.2.take i).flatMap (·.1)) ∧ ys.length ≤ 4 * i ∧ i ≤ 1000 ∧ H2 D = some (.dK ys) ∧ Same H1 H2, ⟨WantMap.nil, Nat.zero_le _, Nat.zero_le _, upd_same, fun b u e => by rw [upd_ne (ne_of_none e nD)]; exact e⟩, (fun i ys H2 h => h.2.2.2.1), (fun i ys H2 h => SqL.of (h.2.2.2.2 _ _ hr')), ?_, ?_⟩⟩
    · rintro i ys H2 x hx ⟨hw, hyl, hi0, hD2, sm⟩
      have hi : i < vs.length := (List.getElem?_eq_some_iff.mp hx).1
      have hi' : i < hs.2.length := by rw [← hR.1]; exact hi
      have er : hs.2[i]? = some hs.2[i] := List.getElem?_eq_getElem hi'
      obtain ⟨tt, aa, bb, rfl, g1, g2, g3⟩ := (hR.2 i x _ hx er).same sm
      have l4 := (ok.rs _ (List.getElem_mem hi')).l4
      refine dturn2_list (K := K) ?_ (fun h q => let ⟨x, e, q⟩ := q; ⟨x, e, h _ _ q⟩) (fun h q => let ⟨a, xs, e1, e2, e3, v1, r1, e4, v2, r2, e5, e6, q⟩ := q; ⟨a, xs, e1, e2, e3, v1, r1, e4, v2, r2, e5, e6, h _ _ q⟩) (fun h q => let ⟨x, e, q⟩ := q; ⟨x, e, h _ _ q⟩) (fun h q => h _ _ q)
      refine ⟨tt, _, rfl, SqT.of g1, rfl, _, _, rfl, _, _, rfl, rfl, ⟨rfl, rfl⟩, _, rfl, aa, (hs.2[i]).1.map V.str, rfl, SqL.of g2, rfl, fun j ys' H3 => WantMap ys' ((hs.2.take i).flatMap (·.1) ++ (hs.2[i]).1.take j) ∧ ys'.length ≤ 4 * i + j ∧ j ≤ (hs.2[i]).1.length ∧ H3 D = some (.dK ys') ∧ Same H1 H3, ⟨by rw [List.take_zero, List.append_nil]; exact hw, hyl, Nat.zero_le _, hD2, sm⟩, (fun j ys' H3 h => h.2.2.2.1), (fun j ys' H3 h => ?_), ?_, ?_⟩
      · obtain ⟨tt', aa', bb', e, q1, q2, q3⟩ := (hR.2 i _ _ hx er).same h.2.2.2.2
        cases e
        have : H3 tt = some (.tup [.ref aa, .ref bb]) := by
          obtain ⟨t3, a3, b3, e3, w1, w2, w3⟩ := hR.2 i _ _ hx er
          cases e3
          rw [sm _ _ w1] at g1
          cases g1
          exact h.2.2.2.2 _ _ w1
        rw [q1] at this
        cases this
        exact SqL.of q2
      · rintro j ys' H3 z hz ⟨hw', hyl', hj0, hD3, sm3⟩
        have hj : j < (hs.2[i]).1.length := by have := (List.getElem?_eq_some_iff.mp hz).1; rwa [List.length_map] at this
        rw [List.getElem?_map, List.getElem?_eq_getElem hj] at hz
        cases hz
        refine ⟨_, rfl, Sum.inr (hs.2[i]).1[j], rfl, hD3, big (by omega), ?_, ?_, hj, upd_same, fun b u e => ?_⟩
        · rw [List.take_add_one, List.getElem?_eq_getElem hj, ← List.append_assoc]
          exact hw'.put
        · have := length_putK ys' (Sum.inr (hs.2[i]).1[j]) (V.bl true)
          omega
        · rw [upd_ne (ne_of_none e nD)]
          exact sm3 b u e
      · rintro ys' H3 ⟨hw', hyl', hj0, hD3, sm3⟩
        rw [List.length_map, List.take_length] at hw'
        rw [List.length_map] at hyl'
        refine nx hi ⟨?_, by omega, by omega, hD3, sm3⟩
        rw [flat_succ _ _ _ hi']
        exact hw'
    · rintro kvs H2 ⟨hw, hyl, _, hD2, sm⟩
      rw [hR.1, List.take_length] at hw
      have hw' : ∀ x : Str, (valV kvs (Sum.inr x)).isSome = decide (x ∈ allLocks hs) := hw
      have hDw : H2 D = some (.dK kvs) := hD2
      dsimp only [gName, tSeq, tAsg]
      refine lcomp_eq _ _ _ _ _ _ _ _ _ ?_
      refine ⟨_, rfl, r, rfl, ⟨_, SqL.of (sm _ _ hr')⟩, ?_⟩
      intro D2 nD2
      refine comp_list (xs := vs) (fun i ys H3 => i ≤ 1000 ∧ (∃ T L, RoomsF H3 ys i T L (fun m => (cellsOf (needOf hs) m).map V.str) ∧ ∀ m, m < 2 * i → H2 (L m) = none ∧ L m ≠ D2) ∧ H3 D2 = some (.lst ys) ∧ Same H2 H3)
        ⟨by decide, ⟨fun _ => 0, fun _ => 0, RoomsF.nil _ _ _ _, fun m h => absurd h (by omega)⟩, upd_same, fun b u e => by rw [upd_ne (ne_of_none e nD2)]; exact e⟩ (fun i ys H3 ⟨_, _, h, _⟩ => h) (fun i ys H3 ⟨_, _, _, sm3⟩ => SqL.of (sm3 r _ (sm _ _ hr'))) ?_ ?_
      · rintro i ys H3 x hx ⟨hi0, ⟨T, L, hF, hfr⟩, hD3, sm3⟩
        have hi : i < vs.length := (List.getElem?_eq_some_iff.mp hx).1
        have hi' : i < hs.2.length := by rw [← hR.1]; exact hi
        have er : hs.2[i]? = some hs.2[i] := List.getElem?_eq_getElem hi'
        have rl := (ok.rs _ (List.getElem_mem hi')).kl
        obtain ⟨tt, aa, bb, rfl, g1, g2, g3⟩ := ((hR.2 i x _ hx er).same sm).same sm3
        refine turn_two tt (.ref aa) (.ref bb) rfl (SqT.of g1) rfl ?_
        refine ⟨_, rfl, aa, _, rfl, .inl (SqL.of g2), fun l1 n1 => ?_⟩
        have m1 : Same H3 (upd H3 l1 (.lst ((hs.2[i]).1.map V.str))) := fun b u e => by rw [upd_ne (ne_of_none e n1)]; exact e
        have e1 : (upd H3 l1 (.lst ((hs.2[i]).1.map V.str))) l1 = some (.lst ((hs.2[i]).1.map V.str)) := upd_same
        generalize upd H3 l1 (.lst ((hs.2[i]).1.map V.str)) = H4 at m1 e1 ⊢
        have hDw4 : H4 D = some (.dK kvs) := m1 _ _ (sm3 _ _ hDw)
        dsimp only [tCons, tNil]
        refine lcomp_eq _ _ _ _ _ _ _ _ _ ?_
        refine ⟨_, rfl, bb, rfl, ⟨_, SqL.of (m1 _ _ g3)⟩, ?_⟩
        intro E2 nE2
        refine comp_list (xs := (hs.2[i]).2.map V.str) (fun j zs H5 => zs = (keep (allLocks hs) ((hs.2[i]).2.take j)).map V.str ∧ j ≤ 1000 ∧ H5 E2 = some (.lst zs) ∧ Same H4 H5)
          ⟨by rw [List.take_zero]; rfl, by decide, upd_same, fun b u e => by rw [upd_ne (ne_of_none e nE2)]; exact e⟩ (fun j zs H5 ⟨_, _, h, _⟩ => h) (fun j zs H5 ⟨_, _, _, sm5⟩ => SqL.of (sm5 bb _ (m1 _ _ g3))) ?_ ?_
        · rintro j zs H5 y hy ⟨rfl, hj0, hE5, sm5⟩
          have hj : j < (hs.2[i]).2.length := by have := (List.getElem?_eq_some_iff.mp hy).1; rwa [List.length_map] at this
          have hj' := (List.getElem?_eq_some_iff.mp hy).1
          rw [List.getElem?_map, List.getElem?_eq_getElem hj] at hy
          cases hy
          have zl : ((keep (allLocks hs) ((hs.2[i]).2.take j)).map V.str).length < sizeLine := by
            rw [List.length_map]
            refine small1000 (Nat.le_trans (keep_len _ _) ?_)
            have := List.length_take_le' j (hs.2[i]).2
            omega
          refine turn_test rfl ?_
          refine ⟨_, rfl, _, rfl, D, _, rfl, DGet.k (k := Sum.inr (hs.2[i]).2[j]) (sm5 _ _ hDw4), _, rfl, ?_⟩
          rw [hw']
          by_cases hk : (hs.2[i]).2[j] ∈ allLocks hs
          · rw [decide_eq_true hk]; refine iteT ?_
            refine ⟨_, rfl, hE5, zl, nx hj' ⟨?_, by omega, upd_same, fun b u e => ?_⟩⟩
            · rw [List.take_add_one, List.getElem?_eq_getElem hj, Option.toList_some, keep_snoc, if_pos hk, List.map_append]
              rfl
            · rw [upd_ne (ne_of_none e nE2)]
              exact sm5 b u e
          · rw [decide_eq_false hk]; refine iteF ?_
            refine nx hj' ⟨?_, by omega, hE5, sm5⟩
            rw [List.take_add_one, List.getElem?_eq_getElem hj, Option.toList_some, keep_snoc, if_neg hk, List.append_nil]
        · rintro zs H5 ⟨rfl, _, hE5, sm5⟩
          rw [List.length_map, List.take_length] at hE5
          refine ⟨by show 2 ≤ sizeLine; decide, fun tn n3 => ?_⟩
          have m3 : Same H5 (upd H5 tn (.tup [.ref l1, .ref E2])) := fun b u e => by rw [upd_ne (ne_of_none e n3)]; exact e
          have e3 : (upd H5 tn (.tup [.ref l1, .ref E2])) tn = some (.tup [.ref l1, .ref E2]) := upd_same
          generalize upd H5 tn (.tup [.ref l1, .ref E2]) = H6 at m3 e3 ⊢
          have m36 : Same H3 H6 := (m1.trans sm5).trans m3
          have hDn := m36 D2 _ hD3
          have n12 : l1 ≠ E2 := ne_of_none e1 nE2
          have n2' : H3 E2 = none := m1.free nE2
          have F6 := hF.more (t := tn) (d := l1) (w := E2) m36 e3 (by rw [cells_lock (need_at er)]; exact (sm5.trans m3) _ _ e1) (by rw [cells_key (need_at er)]; exact m3 _ _ hE5) n1 n2' n12
          have d1 : D2 ≠ l1 := ne_of_none hD3 n1
          have d2 : D2 ≠ E2 := ne_of_none hD3 n2'
          have nL : ∀ m, m < 2 * (i + 1) → H2 ((fun m => if m = 2 * i then l1 else if m = 2 * i + 1 then E2 else L m) m) = none ∧ (fun m => if m = 2 * i then l1 else if m = 2 * i + 1 then E2 else L m) m ≠ D2 := fun m hm => by
            dsimp only
            by_cases f1 : m = 2 * i
            · rw [if_pos f1]; exact ⟨sm3.free n1, d1.symm⟩
            · rw [if_neg f1]
              by_cases f2 : m = 2 * i + 1
              · rw [if_pos f2]; exact ⟨sm3.free n2', d2.symm⟩
              · rw [if_neg f2]; exact hfr m (by omega)
          refine ⟨hDn, by rw [hF.len]; exact small1000 (by omega), nx hi ⟨by omega, ⟨_, _, F6.off hDn fun m hm => (nL m hm).2, nL⟩, upd_same, fun b u e => ?_⟩⟩
          rw [upd_ne (ne_of_none e nD2)]
          exact m36 b u (sm3 b u e)
      · rintro ys H3 ⟨_, ⟨T, L, hF, hfr⟩, hD3, sm3⟩
        have hDw3 : H3 D = some (.dK kvs) := sm3 _ _ hDw
        have ha3 := sm3 _ _ (sm _ _ ha)
        dsimp only [tSeq, tRet, tTup, tCons, tNil, gName]
        refine lcomp_eq _ _ _ _ _ _ _ _ _ ?_
        refine ⟨_, rfl, a, rfl, ⟨_, SqL.of ha3⟩, ?_⟩
        intro E2 nE2
        refine comp_list (xs := hs.1.map V.str) (fun j zs H5 => zs = (keep (allLocks hs) (hs.1.take j)).map V.str ∧ j ≤ 1000 ∧ H5 E2 = some (.lst zs) ∧ Same H3 H5)
          ⟨by rw [List.take_zero]; rfl, by decide, upd_same, fun b u e => by rw [upd_ne (ne_of_none e nE2)]; exact e⟩ (fun j zs H5 ⟨_, _, h, _⟩ => h) (fun j zs H5 ⟨_, _, _, sm5⟩ => SqL.of (sm5 a _ ha3)) ?_ ?_
        · rintro j zs H5 y hy ⟨rfl, hj0, hE5, sm5⟩
          have hj : j < hs.1.length := by have := (List.getElem?_eq_some_iff.mp hy).1; rwa [List.length_map] at this
          have hj' := (List.getElem?_eq_some_iff.mp hy).1
          have kl := ok.kl
          rw [List.getElem?_map, List.getElem?_eq_getElem hj] at hy
          cases hy
          have zl : ((keep (allLocks hs) (hs.1.take j)).map V.str).length < sizeLine := by
            rw [List.length_map]
            refine small1000 (Nat.le_trans (keep_len _ _) ?_)
            have := List.length_take_le' j hs.1
            omega
          refine turn_test rfl ?_
          refine ⟨_, rfl, _, rfl, D, _, rfl, DGet.k (k := Sum.inr hs.1[j]) (sm5 _ _ hDw3), _, rfl, ?_⟩
          rw [hw']
          by_cases hk : hs.1[j] ∈ allLocks hs
          · rw [decide_eq_true hk]; refine iteT ?_
            refine ⟨_, rfl, hE5, zl, nx hj' ⟨?_, by omega, upd_same, fun b u e => ?_⟩⟩
            · rw [List.take_add_one, List.getElem?_eq_getElem hj, Option.toList_some, keep_snoc, if_pos hk, List.map_append]
              rfl
            · rw [upd_ne (ne_of_none e nE2)]
              exact sm5 b u e
          · rw [decide_eq_false hk]; refine iteF ?_
            refine nx hj' ⟨?_, by omega, hE5, sm5⟩
            rw [List.take_add_one, List.getElem?_eq_getElem hj, Option.toList_some, keep_snoc, if_neg hk, List.append_nil]
        · rintro zs H5 ⟨rfl, _, hE5, sm5⟩
          rw [List.length_map, List.take_length] at hE5
          refine ⟨_, rfl, by show 2 ≤ sizeLine; decide, fun tn n3 => ?_⟩
          have m3 : Same H5 (upd H5 tn (.tup [.ref E2, .ref D2])) := fun b u e => by rw [upd_ne (ne_of_none e n3)]; exact e
          rw [hR.1, ← need_len hs] at hF hfr
          have s03 : Same H H3 := s1.trans (sm.trans sm3)
          have s02 : Same H H2 := s1.trans sm
          refine k (.ref tn) _ ((s03.trans sm5).trans m3) ⟨tn, E2, D2, ys, T, L, rfl, upd_same, m3 _ _ hE5, m3 _ _ (sm5 _ _ hD3), (hF.same sm5).same m3, Ne.symm (ne_of_none hD3 nE2), fun m hm => ⟨fun z => ?_, fun z => (hfr m hm).2 z.symm⟩, s03.free nE2, s02.free nD2, fun m hm => s02.free (hfr m hm).1⟩
          have := hF.ls m hm
          rw [← z, nE2] at this
          cases this
end
end K7
set_option Elab.async false
set_option linter.all false
set_option maxRecDepth 100000
set_option maxHeartbeats 4000000
namespace K7
open PySem L2 PyProof.Rows
def spDue44 : Sp := fun vs H Q _ => ∃ (v : V) (h : Hs), vs = [v] ∧ HouseAt H v h ∧ HouseOk h ∧ (allLocks h).length ≤ 1000 ∧ ∀ (u : V) (H' : Hp), Same H H' → HouseAt H' u (needOf h) → Q u H'
section
variable {P : Program} {w : World} {K : PySem.W.Frag} {mg : Str → Option Value} {base : Heap}
theorem sc__law_due : FnScope ["house", "wanted", "locks", "keys", "rooms"] ["house"] (defScope st__law_due) := ⟨rfl, rfl, rfl, by decide +kernel, rfl, by decide +kernel, by decide +kernel⟩
theorem nd__law_due_0 : (["kind", "wanted"] : List Str).Nodup := by decide +kernel
theorem ok_due44 {f : Addr} {fd : FuncData} (F : Fun K "_law_due" "_law_due" st__law_due f fd) (m_list : mg "list" = none) : FnOk P w K mg base CX0 1 f fd ["house"] spDue44 := by
  refine F.ok sc__law_due (fun vs H Q E h => ?_) (fun cdv A outer s H vs Q E hr h => ?_)
  · obtain ⟨v, r, rfl, _⟩ := h
    rfl
  · obtain ⟨v, hs, rfl, ⟨t, a, r, vs, rfl, ht, ha, hr', hR⟩, ok, nl, k⟩ := h
    have big : ∀ {n : Nat}, n ≤ 1000 → n ≤ sizeLine := fun h => Nat.le_trans h (by decide)
    refine ⟨_, (pss_cons (ps_set (i := 1) sc__law_due.nd rfl (Or.inr rfl) (pe_lst pa_nil))
      (pss_cons (ps_cut (ps_for PassesOwn.never rfl (pi_list (pe_ix ix_tup (pv 0) pe_int (fun _ _ => rfl))) (pg_tup rfl (pgs_cons (pg_name (i := 2) sc__law_due.nd rfl (Or.inl rfl)) (pgs_cons (pg_name (i := 3) sc__law_due.nd rfl (Or.inl rfl)) pgs_nil)))
        (pss_one (ps_set (i := 1) sc__law_due.nd rfl (Or.inr rfl) (pe_op op_cat (pv 1) (pv 2))))))
      (pss_cons (ps_set (i := 4) sc__law_due.nd rfl (Or.inl rfl) (pe_lst pa_nil))
      (pss_cons (ps_cut (ps_for PassesOwn.never rfl (pi_list (pe_ix ix_tup (pv 0) pe_int (fun _ _ => rfl))) (pg_tup rfl (pgs_cons (pg_name (i := 2) sc__law_due.nd rfl (Or.inl rfl)) (pgs_cons (pg_name (i := 3) sc__law_due.nd rfl (Or.inl rfl)) pgs_nil)))
        (pss_one (ps_expr (pe_bm PySem.F.plainAttrs_list PySem.F.slot_list_append PySem.F.type_list_append mt_append (pv 4) (pa_cons (pe_tup (pa_cons (pe_callTy call_list_of rfl m_list (by decide +kernel) (pa_cons (pv 2) pa_nil)) (pa_cons (pe_lc (tg := .Name "kind" _) (outer := defScope (st__law_due)) (N := ["house", "wanted", "locks", "keys", "rooms"]) (N' := ["kind", "wanted"]) (nl := 1) (ix := [1]) rfl rfl rfl (pi_list (pv 3))
        (fun C fp s₀ H₀ => (pg_name (i := 0) nd__law_due_0 rfl (Or.inl rfl) (.inr rfl))) (fun C fp s₀ H₀ => (pif_one (pt_cmpR (op_in_seqK (K := K) rfl) (pv 0) (pv 1) rfl)))
        (fun C fp s₀ H₀ => (pv 0))) pa_nil))) pa_nil))))))
      (pss_one (ps_ret (pe_tup (pa_cons (pe_lc (tg := .Name "kind" _) (outer := defScope (st__law_due)) (N := ["house", "wanted", "locks", "keys", "rooms"]) (N' := ["kind", "wanted"]) (nl := 1) (ix := [1]) rfl rfl rfl (pi_list (pe_ix ix_tup (pv 0) pe_int (fun _ _ => rfl)))
        (fun C fp s₀ H₀ => (pg_name (i := 0) nd__law_due_0 rfl (Or.inl rfl) (.inr rfl))) (fun C fp s₀ H₀ => (pif_one (pt_cmpR (op_in_seqK (K := K) rfl) (pv 0) (pv 1) rfl)))
        (fun C fp s₀ H₀ => (pv 0))) (pa_cons (pv 4) pa_nil))))))))), ?_⟩
    refine ⟨Nat.zero_le _, fun w0 nw0 => ?_⟩
    have s0 : Same H (upd H w0 (.lst [])) := fun b u e => by rw [upd_ne (ne_of_none e nw0)]; exact e
    refine ⟨fun σ' H' => ∃ (wA : Addr) (x2 x3 : Option V), σ' = [some (.ref t), some (.ref wA), x2, x3, none] ∧ H' wA = some (.lst ((allLocks hs).map V.str)) ∧ Same H H', ?_, ?_⟩
    rotate_left
    · refine ⟨_, rfl, t, _, 1, .ref r, rfl, rfl, SqT.of (s0 _ _ ht), rfl, r, rfl, ⟨_, SqL.of (s0 _ _ hr')⟩, ?_⟩
      refine for_list (xs := vs) (fun i σ' H' => ∃ (wA : Addr) (x2 x3 : Option V), σ' = [some (.ref t), some (.ref wA), x2, x3, none] ∧ H' wA = some (.lst (((hs.2.take i).flatMap (·.1)).map V.str)) ∧ Same H H') ⟨w0, none, none, rfl, upd_same, s0⟩ (fun i σ H' _ ⟨_, _, _, _, _, sm⟩ => SqL.of (sm _ _ hr')) ?_ ?_
      · rintro i x σ H2 hx ⟨wA, x2, x3, rfl, hw, sm⟩
        have hi : i < vs.length := (List.getElem?_eq_some_iff.mp hx).1
        have hi' : i < hs.2.length := by rw [← hR.1]; exact hi
        have er : hs.2[i]? = some hs.2[i] := List.getElem?_eq_getElem hi'
        obtain ⟨tt, aa, bb, rfl, g1, g2, g3⟩ := (hR.2 i x _ hx er).same sm
        refine ⟨tt, _, rfl, SqT.of g1, rfl, .ref aa, [.ref bb], rfl, .ref bb, [], rfl, rfl, ?_⟩
        have e1 := flat_take (fun x : Rm => x.1) hs.2 (i + 1)
        rw [flat_succ _ _ _ hi', List.length_append] at e1
        have nl' : (hs.2.flatMap fun x => x.1).length ≤ 1000 := nl
        refine ⟨_, rfl, _, rfl, wA, aa, _, _, rfl, rfl, hw, g2, by rw [List.length_map, List.length_map]; exact big (Nat.le_trans e1 nl'), fun l n1 => ?_⟩
        refine ⟨l, _, _, rfl, ?_, fun b u e => ?_⟩
        · rw [upd_same, flat_succ _ _ _ hi', List.map_append]
        · rw [upd_ne (ne_of_none (sm b u e) n1)]; exact sm b u e
      · rintro σ H2 ⟨wA, x2, x3, rfl, hw, sm⟩
        rw [hR.1, List.take_length] at hw
        exact ⟨wA, x2, x3, rfl, hw, sm⟩
    rintro σ H1 ⟨wA, x2, x3, rfl, hw, s1⟩
    have hfl : ((allLocks hs).map V.str).all flatV = true := by simp [flatV]
    refine ⟨Nat.zero_le _, fun rA nR => ?_⟩
    have s1' : Same H1 (upd H1 rA (.lst [])) := fun b u e => by rw [upd_ne (ne_of_none e nR)]; exact e
    have nwr : wA ≠ rA := ne_of_none hw nR
    refine ⟨fun σ' H' => ∃ (x2 x3 : Option V) (ys : List V) (T L : Nat → Addr), σ' = [some (.ref t), some (.ref wA), x2, x3, some (.ref rA)] ∧ RoomsF H' ys hs.2.length T L (fun m => (cellsOf (needOf hs) m).map V.str) ∧ H' rA = some (.lst ys) ∧ Same H1 H', ?_, ?_⟩
    rotate_left
    · refine ⟨_, rfl, t, _, 1, .ref r, rfl, rfl, SqT.of (s1' _ _ (s1 _ _ ht)), rfl, r, rfl, ⟨_, SqL.of (s1' _ _ (s1 _ _ hr'))⟩, ?_⟩
      refine for_list (xs := vs) (fun i σ' H' => ∃ (x2 x3 : Option V) (ys : List V) (T L : Nat → Addr), σ' = [some (.ref t), some (.ref wA), x2, x3, some (.ref rA)] ∧ i ≤ 1000 ∧ RoomsF H' ys i T L (fun m => (cellsOf (needOf hs) m).map V.str) ∧ (∀ m, m < 2 * i → L m ≠ rA) ∧ H' rA = some (.lst ys) ∧ Same H1 H') ⟨_, _, [], fun _ => 0, fun _ => 0, rfl, Nat.zero_le _, RoomsF.nil _ _ _ _, (fun m h => absurd h (by omega)), upd_same, s1'⟩ (fun i σ H' _ ⟨_, _, _, _, _, _, _, _, _, _, sm⟩ => SqL.of (sm _ _ (s1 _ _ hr'))) ?_ ?_
      · rintro i x σ H3 hx ⟨x2', x3', ys, T, L, rfl, hi0, hF, hfr, hA3, sm3⟩
        have hi : i < vs.length := (List.getElem?_eq_some_iff.mp hx).1
        have hi' : i < hs.2.length := by rw [← hR.1]; exact hi
        have hl : hs.2.length ≤ 1000 := ok.rl
        have er : hs.2[i]? = some hs.2[i] := List.getElem?_eq_getElem hi'
        have rl := (ok.rs _ (List.getElem_mem hi')).kl
        obtain ⟨tt, aa, bb, rfl, g1, g2, g3⟩ := ((hR.2 i x _ hx er).same s1).same sm3
        refine ⟨tt, _, rfl, SqT.of g1, rfl, .ref aa, [.ref bb], rfl, .ref bb, [], rfl, rfl, ?_⟩
        refine ⟨_, rfl, .inl ⟨rfl, _, SqL.of hA3⟩, ?_⟩
        refine ⟨_, rfl, aa, _, rfl, .inl (SqL.of g2), fun l1 n1 => ?_⟩
        have m1 : Same H3 (upd H3 l1 (.lst ((hs.2[i]).1.map V.str))) := fun b u e => by rw [upd_ne (ne_of_none e n1)]; exact e
        have e1 : (upd H3 l1 (.lst ((hs.2[i]).1.map V.str))) l1 = some (.lst ((hs.2[i]).1.map V.str)) := upd_same
        generalize upd H3 l1 (.lst ((hs.2[i]).1.map V.str)) = H4 at m1 e1 ⊢
        have hw4 : H4 wA = some (.lst ((allLocks hs).map V.str)) := m1 _ _ (sm3 _ _ hw)
        dsimp only [tCons, tNil]
        refine lcomp_eq _ _ _ _ _ _ _ _ _ ?_
        refine ⟨_, rfl, bb, rfl, ⟨_, SqL.of (m1 _ _ g3)⟩, ?_⟩
        intro E2 nE2
        refine comp_list (xs := (hs.2[i]).2.map V.str) (fun j zs H5 => zs = (keep (allLocks hs) ((hs.2[i]).2.take j)).map V.str ∧ j ≤ 1000 ∧ H5 E2 = some (.lst zs) ∧ Same H4 H5)
          ⟨by rw [List.take_zero]; rfl, by decide, upd_same, fun b u e => by rw [upd_ne (ne_of_none e nE2)]; exact e⟩ (fun j zs H5 ⟨_, _, h, _⟩ => h) (fun j zs H5 ⟨_, _, _, sm5⟩ => SqL.of (sm5 bb _ (m1 _ _ g3))) ?_ ?_
        · rintro j zs H5 y hy ⟨rfl, hj0, hE5, sm5⟩
          have hj : j < (hs.2[i]).2.length := by have := (List.getElem?_eq_some_iff.mp hy).1; rwa [List.length_map] at this
          have hj' := (List.getElem?_eq_some_iff.mp hy).1
          rw [List.getElem?_map, List.getElem?_eq_getElem hj] at hy
          cases hy
          have zl : ((keep (allLocks hs) ((hs.2[i]).2.take j)).map V.str).length < sizeLine := by
            rw [List.length_map]
            refine small1000 (Nat.le_trans (keep_len _ _) ?_)
            have := List.length_take_le' j (hs.2[i]).2
            omega
          refine turn_test rfl ?_
          refine ⟨_, rfl, _, rfl, wA, _, rfl, .inl (SqL.of (sm5 _ _ hw4)), rfl, hfl, _, rfl, ?_⟩
          rw [if_neg Bool.false_ne_true, in_strs]
          by_cases hk : (hs.2[i]).2[j] ∈ allLocks hs
          · rw [decide_eq_true hk]; refine iteT ?_
            refine ⟨_, rfl, hE5, zl, nx hj' ⟨?_, by omega, upd_same, fun b u e => ?_⟩⟩
            · rw [List.take_add_one, List.getElem?_eq_getElem hj, Option.toList_some, keep_snoc, if_pos hk, List.map_append]
              rfl
            · rw [upd_ne (ne_of_none e nE2)]
              exact sm5 b u e
          · rw [decide_eq_false hk]; refine iteF ?_
            refine nx hj' ⟨?_, by omega, hE5, sm5⟩
            rw [List.take_add_one, List.getElem?_eq_getElem hj, Option.toList_some, keep_snoc, if_neg hk, List.append_nil]
        · rintro zs H5 ⟨rfl, _, hE5, sm5⟩
          rw [List.length_map, List.take_length] at hE5
          refine ⟨by show 2 ≤ sizeLine; decide, fun tn n3 => ?_⟩
          have m3 : Same H5 (upd H5 tn (.tup [.ref l1, .ref E2])) := fun b u e => by rw [upd_ne (ne_of_none e n3)]; exact e
          have e3 : (upd H5 tn (.tup [.ref l1, .ref E2])) tn = some (.tup [.ref l1, .ref E2]) := upd_same
          generalize upd H5 tn (.tup [.ref l1, .ref E2]) = H6 at m3 e3 ⊢
          have m36 : Same H3 H6 := (m1.trans sm5).trans m3
          have hDn := m36 rA _ hA3
          have n12 : l1 ≠ E2 := ne_of_none e1 nE2
          have n2' : H3 E2 = none := m1.free nE2
          have F6 := hF.more (t := tn) (d := l1) (w := E2) m36 e3 (by rw [cells_lock (need_at er)]; exact (sm5.trans m3) _ _ e1) (by rw [cells_key (need_at er)]; exact m3 _ _ hE5) n1 n2' n12
          have d1 : rA ≠ l1 := ne_of_none hA3 n1
          have d2 : rA ≠ E2 := ne_of_none hA3 n2'
          have nL : ∀ m, m < 2 * (i + 1) → (fun m => if m = 2 * i then l1 else if m = 2 * i + 1 then E2 else L m) m ≠ rA := fun m hm => by
            dsimp only
            by_cases f1 : m = 2 * i
            · rw [if_pos f1]; exact d1.symm
            · rw [if_neg f1]
              by_cases f2 : m = 2 * i + 1
              · rw [if_pos f2]; exact d2.symm
              · rw [if_neg f2]; exact hfr m (by omega)
          refine ⟨rA, _, _, rfl, rfl, hDn, by rw [hF.len]; exact small1000 (by omega), ?_⟩
          refine ⟨_, _, ys ++ [.ref tn], _, _, rfl, by omega, F6.off hDn nL, nL, upd_same, fun b u e => ?_⟩
          rw [upd_ne (ne_of_none e nR)]
          exact m36 b u (sm3 b u e)
      · rintro σ H3 ⟨x2', x3', ys, T, L, rfl, hi0, hF, hfr, hA3, sm3⟩
        rw [hR.1] at hF
        exact ⟨_, _, ys, T, L, rfl, hF, hA3, sm3⟩
    rintro σ H3 ⟨x2', x3', ys, T, L, rfl, hF, hA3, sm3⟩
    have hw3 : H3 wA = some (.lst ((allLocks hs).map V.str)) := sm3 _ _ hw
    have ha3 := sm3 _ _ (s1 _ _ ha)
    have ht3 := sm3 _ _ (s1 _ _ ht)
    dsimp only [tRet, tTup, tCons, tNil]
    refine lcomp_eq _ _ _ _ _ _ _ _ _ ?_
    refine ⟨_, rfl, t, _, 0, .ref a, rfl, rfl, SqT.of ht3, rfl, a, rfl, ⟨_, SqL.of ha3⟩, ?_⟩
    intro E2 nE2
    refine comp_list (xs := hs.1.map V.str) (fun j zs H5 => zs = (keep (allLocks hs) (hs.1.take j)).map V.str ∧ j ≤ 1000 ∧ H5 E2 = some (.lst zs) ∧ Same H3 H5)
      ⟨by rw [List.take_zero]; rfl, by decide, upd_same, fun b u e => by rw [upd_ne (ne_of_none e nE2)]; exact e⟩ (fun j zs H5 ⟨_, _, h, _⟩ => h) (fun j zs H5 ⟨_, _, _, sm5⟩ => SqL.of (sm5 a _ ha3)) ?_ ?_
    · rintro j zs H5 y hy ⟨rfl, hj0, hE5, sm5⟩
      have hj : j < hs.1.length := by have := (List.getElem?_eq_some_iff.mp hy).1; rwa [List.length_map] at this
      have hj' := (List.getElem?_eq_some_iff.mp hy).1
      have kl := ok.kl
      rw [List.getElem?_map, List.getElem?_eq_getElem hj] at hy
      cases hy
      have zl : ((keep (allLocks hs) (hs.1.take j)).map V.str).length < sizeLine := by
        rw [List.length_map]
        refine small1000 (Nat.le_trans (keep_len _ _) ?_)
        have := List.length_take_le' j hs.1
        omega
      refine turn_test rfl ?_
      refine ⟨_, rfl, _, rfl, wA, _, rfl, .inl (SqL.of (sm5 _ _ hw3)), rfl, hfl, _, rfl, ?_⟩
      rw [if_neg Bool.false_ne_true, in_strs]
      by_cases hk : hs.1[j] ∈ allLocks hs
      · rw [decide_eq_true hk]; refine iteT ?_
        refine ⟨_, rfl, hE5, zl, nx hj' ⟨?_, by omega, upd_same, fun b u e => ?_⟩⟩
        · rw [List.take_add_one, List.getElem?_eq_getElem hj, Option.toList_some, keep_snoc, if_pos hk, List.map_append]
          rfl
        · rw [upd_ne (ne_of_none e nE2)]
          exact sm5 b u e
      · rw [decide_eq_false hk]; refine iteF ?_
        refine nx hj' ⟨?_, by omega, hE5, sm5⟩
        rw [List.take_add_one, List.getElem?_eq_getElem hj, Option.toList_some, keep_snoc, if_neg hk, List.append_nil]
    · rintro zs H5 ⟨rfl, _, hE5, sm5⟩
      rw [List.length_map, List.take_length] at hE5
      refine ⟨_, rfl, by show 2 ≤ sizeLine; decide, fun tn n3 => ?_⟩
      have m3 : Same H5 (upd H5 tn (.tup [.ref E2, .ref rA])) := fun b u e => by rw [upd_ne (ne_of_none e n3)]; exact e
      rw [← need_len hs] at hF
      exact k (.ref tn) _ ((s1.trans (sm3.trans sm5)).trans m3) ⟨tn, E2, rA, ys, rfl, upd_same, m3 _ _ hE5, m3 _ _ (sm5 _ _ hA3), ((hF.same sm5).same m3).at⟩
end
end K7
set_option Elab.async false
set_option linter.all false
set_option maxRecDepth 100000
set_option maxHeartbeats 4000000
namespace K7
open PySem L2 PyProof.Rows
def houseData (h : Hs) : PyData := .tuple [.list (h.1.map PyData.str), .list (h.2.map roomData)]
theorem sees_house {H : Hp} {v : V} {h : Hs} (x : HouseAt H v h) : Sees H v (houseData h) := by
  obtain ⟨t, a, r, vs, rfl, h1, h2, h3, h4⟩ := x
  exact .tup h1 (.cons (.lst h2 (SeesAll.strs _)) (.cons (.lst h3 (sees_rooms h4)) .nil))
theorem house_lay {h : Hs} (ok : HouseOk h) : (houseData h).canLay0 = true := by
  have e1 := strs_lay ok.kk
  have e2 := rooms_lay (rs := h.2) fun r hr => ⟨(ok.rs r hr).lk, (ok.rs r hr).kk⟩
  simp only [houseData, PyData.canLay0, PyData.canLayAll0, e1, e2, Bool.and_self]
theorem rooms_eqv : ∀ rs : List Rm, PyData.eqvAll (rs.map roomData) (rs.map roomData) = true
  | [] => rfl
  | r :: rs => by
    rw [List.map_cons]
    simp only [PyData.eqvAll, roomData, PyData.eqv, strs_eqv, Bool.true_and]
    exact rooms_eqv rs
theorem house_eqv (h : Hs) : PyData.eqv (houseData h) (houseData h) = true := by
  simp only [houseData, PyData.eqv, PyData.eqvAll, strs_eqv, rooms_eqv, Bool.and_self]
theorem rooms_depth : ∀ rs : List Rm, PyData.depthAll (rs.map roomData) ≤ 2
  | [] => Nat.zero_le _
  | r :: rs => by
    rw [List.map_cons]
    simp only [PyData.depthAll, roomData, PyData.depth, strs_depth]
    exact Nat.max_le.mpr ⟨by decide, rooms_depth rs⟩
theorem house_depth (h : Hs) : (houseData h).depth ≤ 4 := by
  have := rooms_depth h.2
  simp only [houseData, PyData.depth, PyData.depthAll, strs_depth]
  omega
def spIsHouse : Sp := fun vs H Q _ => ∃ (v u : V) (h : Hs), vs = [v, u] ∧ HouseAt H v h ∧ HouseAt H u h ∧ HouseOk h ∧ ∀ H', Same H H' → Q (.bl true) H'
def spMarked : Sp := fun vs H Q _ => ∃ (v : V) (h : Hs) (H0 : Hp), vs = [v] ∧ HouseF H0 H v h ∧ HouseOk h ∧ Same H0 H ∧ ∀ H', Same H0 H' → Sees H' v (markedData h) → Q v H'
section
variable {P : Program} {w : World} {K : PySem.W.Frag} {mg : Str → Option Value} {base : Heap}
theorem sc__law_is_house : FnScope ["found", "due"] ["found", "due"] (defScope st__law_is_house) := ⟨rfl, rfl, rfl, by decide +kernel, rfl, by decide +kernel, by decide +kernel⟩
theorem nd__law_is_house_0 : (["room"] : List Str).Nodup := by decide +kernel
theorem ok_isHouse {f : Addr} {fd : FuncData} (F : Fun K "_law_is_house" "_law_is_house" st__law_is_house f fd) (m_isinstance : mg "isinstance" = none) (m_list : mg "list" = none) (m_tuple : mg "tuple" = none) : FnOk P w K mg base CX0 1 f fd ["found", "due"] spIsHouse := by
  refine F.ok sc__law_is_house (fun vs H Q E h => ?_) (fun cdv A outer s H vs Q E hr h => ?_)
  · obtain ⟨v, u, h, rfl, _⟩ := h
    rfl
  · obtain ⟨v, u, hs, rfl, hv, hu', ok, k⟩ := h
    have hu := hu_of hr
    have sv := sees_house hv
    have su := sees_house hu'
    obtain ⟨t, a, r, vs, rfl, ht, ha, hr', hR⟩ := hv
    refine ⟨_, (pss_cons (ps_if (PW.pt (pw_or (pt_not (pt_val (pe_callB call_isinst rfl m_isinstance (by decide +kernel) (pa_cons (pv 0) (pa_cons (pe_bltn (v := .ty "tuple") (u := .type "tuple") rfl m_tuple (by decide +kernel) rfl) pa_nil))))) (pw_or (pt_cmpR op_neD (pv 0) (pv 1) (nomark _)) (pw_or1 (pt_not (pt_val (pe_callB call_isinst rfl m_isinstance (by decide +kernel) (pa_cons (pe_ix ix_tup (pv 0) pe_int (fun _ _ => rfl)) (pa_cons (pe_bltn (v := .ty "list") (u := .type "list") rfl m_list (by decide +kernel) rfl) pa_nil)))))))))
        (pss_one (ps_ret pe_bl)) pss_nil)
      (pss_one (ps_ret (pe_cmpR op_eqD (pe_lc (tg := .Name "room" _) (outer := defScope (st__law_is_house)) (N := ["found", "due"]) (N' := ["room"]) (nl := 1) (ix := []) rfl rfl rfl (pi_list (pe_ix ix_tup (pv 0) pe_int (fun _ _ => rfl)))
        (fun C fp s₀ H₀ => (pg_name (i := 0) nd__law_is_house_0 rfl (Or.inl rfl) (.inr rfl))) (fun C fp s₀ H₀ => (pif_one (pt_not (pt_val (pe_callB (call_isinstK (K := K) rfl) rfl m_isinstance (by decide +kernel) (pa_cons (pv 0) (pa_cons (pe_bltn (v := .ty "tuple") (u := .type "tuple") rfl m_tuple (by decide +kernel) rfl) pa_nil)))))))
        (fun C fp s₀ H₀ => (pv 0))) (pe_lst pa_nil) (nomark _))))), ?_⟩
    refine ⟨_, rfl, _, _, _, true, rfl, .tup ht, kit_same K _, true, rfl, ?_⟩
    refine iteF ?_
    refine ⟨_, rfl, _, rfl, houseData hs, houseData hs, sv, su, house_lay ok, house_lay ok, ?_, false, congrArg V.bl (by rw [house_eqv]; rfl), ?_⟩
    · refine Nat.lt_of_le_of_lt (Nat.add_le_add_left (Nat.le_trans (Nat.min_le_left _ _) (Nat.le_trans (house_depth hs) (by decide : 4 ≤ 64))) _) hr.units
    refine iteF ?_
    refine ⟨_, rfl, t, _, 1, .ref r, rfl, rfl, SqT.of ht, rfl, _, _, _, true, rfl, .lst hr', kit_same K _, true, rfl, ?_⟩
    refine iteF ?_
    dsimp only [tNext, tRet, tOp]
    refine lcomp_eq _ _ _ _ _ _ _ _ _ ?_
    refine ⟨_, rfl, t, _, 1, .ref r, rfl, rfl, SqT.of ht, rfl, r, rfl, ⟨_, SqL.of hr'⟩, ?_⟩
    intro D hD
    refine comp_list (xs := vs) (fun i ys H4 => ys = [] ∧ H4 D = some (.lst ys) ∧ Same H H4) ⟨rfl, upd_same, fun b u e => by rw [upd_ne (ne_of_none e hD)]; exact e⟩ (fun i ys H4 ⟨_, h, _⟩ => h) (fun i ys H4 ⟨_, _, sm4⟩ => SqL.of (sm4 _ _ hr')) ?_ ?_
    · rintro j ys H4 y hy ⟨rfl, hD4, s4⟩
      have hj := (List.getElem?_eq_some_iff.mp hy).1
      have hj' : j < hs.2.length := by rw [← hR.1]; exact hj
      obtain ⟨tt, aa, bb, rfl, g1, g2, g3⟩ := (hR.2 j y _ hy (List.getElem?_eq_getElem hj')).same s4
      refine turn_test rfl ?_
      refine ⟨_, rfl, _, _, _, true, rfl, .tup g1, kit_same K _, true, rfl, ?_⟩
      refine iteF ?_
      exact nx hj ⟨rfl, hD4, s4⟩
    · rintro ys H4 ⟨rfl, hD4, s4⟩
      refine ⟨Nat.zero_le _, fun l nl => ?_⟩
      have s5 : Same H4 (upd H4 l (.lst [])) := fun b u e => by rw [upd_ne (ne_of_none e nl)]; exact e
      exact ⟨.list [], .list [], .lst (s5 _ _ hD4) .nil, .lst upd_same .nil, rfl, rfl, hu, k _ (s4.trans s5)⟩
theorem sc__law_marked : FnScope ["house", "at", "locks", "keys"] ["house"] (defScope st__law_marked) := ⟨rfl, rfl, rfl, by decide +kernel, rfl, by decide +kernel, by decide +kernel⟩
theorem ok_marked {f : Addr} {fd : FuncData} (F : Fun K "_law_marked" "_law_marked" st__law_marked f fd) (m_enumerate : mg "enumerate" = none) : FnOk P w K mg base CX0 1 f fd ["house"] spMarked := by
  refine F.ok sc__law_marked (fun vs H Q E h => ?_) (fun cdv A outer s H vs Q E hr h => ?_)
  · obtain ⟨v, h, H0, rfl, _⟩ := h
    rfl
  · obtain ⟨v, hs, H0, rfl, ⟨t, a, r, vs, T, L, rfl, ht, ha, hr', hF, nar, nal, na0, nr0, nl0⟩, ok, s0, k⟩ := h
    refine ⟨_, (pss_cons (ps_expr (pe_bm PySem.F.plainAttrs_list PySem.F.slot_list_append PySem.F.type_list_append mt_append (pe_ix ix_tup (pv 0) pe_int (fun _ _ => rfl)) (pa_cons pe_str pa_nil)))
      (pss_cons (ps_cut (ps_for PassesOwn.never rfl (pi_enum rfl m_enumerate (pa_cons (pe_ix ix_tup (pv 0) pe_int (fun _ _ => rfl)) pa_nil)) (pg_tup rfl (pgs_cons (pg_name (i := 1) sc__law_marked.nd rfl (Or.inl rfl)) (pgs_cons (pg_tup rfl (pgs_cons (pg_name (i := 2) sc__law_marked.nd rfl (Or.inl rfl)) (pgs_cons (pg_name (i := 3) sc__law_marked.nd rfl (Or.inl rfl)) pgs_nil))) pgs_nil)))
        (pss_cons (ps_expr (pe_bm PySem.F.plainAttrs_list PySem.F.slot_list_append PySem.F.type_list_append mt_append (pv 2) (pa_cons (pe_op op_mul pe_int (pv 1)) pa_nil)))
        (pss_one (ps_expr (pe_bm PySem.F.plainAttrs_list PySem.F.slot_list_append PySem.F.type_list_append mt_append (pv 3) (pa_cons (pe_op op_add (pe_op op_mul pe_int (pv 1)) pe_int) pa_nil)))))))
      (pss_cons (ps_expr (pe_bm PySem.F.plainAttrs_list PySem.F.slot_list_append PySem.F.type_list_append mt_append (pe_ix ix_tup (pv 0) pe_int (fun _ _ => rfl)) (pa_cons pe_non pa_nil)))
      (pss_one (ps_ret (pv 0)))))), ?_⟩
    have kl := ok.kl
    have rl := ok.rl
    have tna : t ≠ a := ne_of ht ha (fun z => nomatch z)
    have tnr : t ≠ r := ne_of ht hr' (fun z => nomatch z)
    refine ⟨_, rfl, t, _, 0, .ref a, rfl, rfl, SqT.of ht, rfl, .inl ⟨rfl, _, SqL.of ha⟩, a, _, _, rfl, rfl, ha, by rw [List.length_map]; exact small1000 (by omega), ?_⟩
    have F1 : RoomsF (upd H a (.lst (hs.1.map V.str ++ [.str "mark"]))) vs hs.2.length T L (fun m => (cellsOf hs m).map V.str) := hF.off ha fun m hm => (nal m hm).1.symm
    have keep0 : ∀ {H1 : Hp} {b : Addr} {o : HO}, H0 b = none → Same H0 H1 → Same H0 (upd H1 b o) := fun {H1 b o} nb s c u e => by rw [upd_ne (ne_of_none e nb)]; exact s c u e
    have s1 := keep0 (o := .lst (hs.1.map V.str ++ [.str "mark"])) na0 s0
    have ha1 : (upd H a (.lst (hs.1.map V.str ++ [.str "mark"]))) a = some (.lst (hs.1.map V.str ++ [.str "mark"])) := upd_same
    have ht1 : (upd H a (.lst (hs.1.map V.str ++ [.str "mark"]))) t = some (.tup [.ref a, .ref r]) := by rw [upd_ne tna]; exact ht
    have hr1 : (upd H a (.lst (hs.1.map V.str ++ [.str "mark"]))) r = some (.lst vs) := by rw [upd_ne nar.symm]; exact hr'
    generalize upd H a (.lst (hs.1.map V.str ++ [.str "mark"])) = H1 at F1 s1 ha1 ht1 hr1 ⊢
    refine ⟨fun σ' H' => ∃ (x1 x2 x3 : Option V), σ' = [some (.ref t), x1, x2, x3] ∧ RoomsF H' vs hs.2.length T L (fun m => (cellsOf hs m).map V.str ++ [.int (m : Int)]) ∧ Same H0 H' ∧ H' a = some (.lst (hs.1.map V.str ++ [.str "mark"])) ∧ H' t = some (.tup [.ref a, .ref r]) ∧ H' r = some (.lst vs), ?_, ?_⟩
    · rintro σ H2 ⟨x1, x2, x3, rfl, F2, s2, ha2, ht2, hr2⟩
      refine ⟨_, rfl, t, _, 1, .ref r, rfl, rfl, SqT.of ht2, rfl, .inl ⟨rfl, _, SqL.of hr2⟩, r, _, _, rfl, rfl, hr2, by rw [F2.len]; exact small1000 (by omega), ?_⟩
      have F3 : RoomsF (upd H2 r (.lst (vs ++ [.non]))) vs hs.2.length T L (fun m => (cellsOf hs m).map V.str ++ [.int (m : Int)]) := F2.off hr2 fun m hm => (nal m hm).2.symm
      refine ⟨_, rfl, k _ (keep0 nr0 s2) ?_⟩
      refine .tup (by rw [upd_ne tnr]; exact ht2) (.cons (.lst (by rw [upd_ne nar]; exact ha2) (SeesAll.snoc (.str _) _)) (.cons (.lst upd_same (sees_marks (T := T) (L := L) _ _ 0 F3.len fun i q hq => ?_)) .nil))
      have hi : i < hs.2.length := (List.getElem?_eq_some_iff.mp hq).1
      rw [Nat.zero_add]
      have l1 := F3.ls (2 * i) (by omega)
      have l2 := F3.ls (2 * i + 1) (by omega)
      try dsimp only at l1 l2
      rw [cells_lock hq] at l1
      rw [cells_key hq] at l2
      refine ⟨(F3.tu i hi).1, (F3.tu i hi).2, ?_, ?_⟩
      · rw [l1]; congr 4
      · rw [l2]; congr 4
    · refine ⟨_, rfl, t, _, 1, .ref r, rfl, rfl, SqT.of ht1, rfl, r, rfl, ⟨_, SqL.of hr1⟩, ?_⟩
      refine for_enum (xs := vs) (fun i σ' H' => ∃ (x1 x2 x3 : Option V), σ' = [some (.ref t), x1, x2, x3] ∧ RoomsF H' vs hs.2.length T L (fun m => (cellsOf hs m).map V.str ++ if m < 2 * i then [.int (m : Int)] else []) ∧ Same H0 H' ∧ H' a = some (.lst (hs.1.map V.str ++ [.str "mark"])) ∧ H' t = some (.tup [.ref a, .ref r]) ∧ H' r = some (.lst vs)) ?_ (fun i σ H' _ ⟨_, _, _, _, _, _, _, _, h⟩ => SqL.of h) ?_ ?_
      · exact ⟨none, none, none, rfl, F1.congr (fun m _ => by rw [if_neg (by omega), List.append_nil]), s1, ha1, ht1, hr1⟩
      · rintro i x σ H2 N hx ⟨x1, x2, x3, rfl, F2, s2, ha2, ht2, hr2⟩ nN
        have hi : i < vs.length := (List.getElem?_eq_some_iff.mp hx).1
        have hi' : i < hs.2.length := by rw [← F2.len]; exact hi
        obtain ⟨q1, q2⟩ := F2.tu i hi'
        rw [hx] at q1
        cases q1
        have er : hs.2[i]? = some hs.2[i] := List.getElem?_eq_getElem hi'
        have o := ok.rs _ (List.getElem_mem hi')
        have o1 := o.l4
        have o2 := o.kl
        have sN : Same H2 (upd H2 N (.tup [.int (i : Int), .ref (T i)])) := fun b u e => by rw [upd_ne (ne_of_none e nN)]; exact e
        have hN : (upd H2 N (.tup [.int (i : Int), .ref (T i)])) N = some (.tup [.int (i : Int), .ref (T i)]) := upd_same
        have F3 := F2.same sN
        have s3 := s2.trans sN
        have ha3 := sN _ _ ha2
        have ht3 := sN _ _ ht2
        have hr3 := sN _ _ hr2
        have q3 := sN _ _ q2
        generalize upd H2 N (.tup [.int (i : Int), .ref (T i)]) = H3 at hN F3 s3 ha3 ht3 hr3 q3 ⊢
        refine ⟨N, _, rfl, SqT.of hN, rfl, _, _, rfl, _, _, rfl, T i, _, rfl, SqT.of q3, rfl, _, _, rfl, _, _, rfl, rfl, rfl, ?_⟩
        have l1 := F3.ls (2 * i) (by omega)
        try dsimp only at l1
        rw [if_neg (by omega), List.append_nil, cells_lock er] at l1
        refine ⟨_, rfl, .inl ⟨rfl, _, SqL.of l1⟩, _, rfl, 2, _, rfl, rfl, .inl (by decide), L (2 * i), _, _, rfl, rfl, l1, by rw [List.length_map]; exact small1000 (by omega), ?_⟩
        have F4 := F3.set (m := 2 * i) (q := (hs.2[i]).1.map V.str ++ [.int (2 * (i : Int))]) (by omega)
        have nl1 := nl0 (2 * i) (by omega)
        have na1 := nal (2 * i) (by omega)
        have s4 := keep0 (o := .lst ((hs.2[i]).1.map V.str ++ [.int (2 * (i : Int))])) nl1 s3
        have ha4 : (upd H3 (L (2 * i)) (.lst ((hs.2[i]).1.map V.str ++ [.int (2 * (i : Int))]))) a = some (.lst (hs.1.map V.str ++ [.str "mark"])) := by rw [upd_ne na1.1]; exact ha3
        have hr4 : (upd H3 (L (2 * i)) (.lst ((hs.2[i]).1.map V.str ++ [.int (2 * (i : Int))]))) r = some (.lst vs) := by rw [upd_ne na1.2]; exact hr3
        have ht4 : (upd H3 (L (2 * i)) (.lst ((hs.2[i]).1.map V.str ++ [.int (2 * (i : Int))]))) t = some (.tup [.ref a, .ref r]) := by rw [upd_ne (ne_of ht3 l1 (fun z => nomatch z))]; exact ht3
        generalize upd H3 (L (2 * i)) (.lst ((hs.2[i]).1.map V.str ++ [.int (2 * (i : Int))])) = H4 at F4 s4 ha4 hr4 ht4 ⊢
        have l2 := F4.ls (2 * i + 1) (by omega)
        try dsimp only at l2
        rw [if_neg (by omega), if_neg (by omega), List.append_nil, cells_key er] at l2
        refine ⟨_, rfl, .inl ⟨rfl, _, SqL.of l2⟩, _, rfl, 2, _, rfl, rfl, .inl (by decide), _, 1, rfl, rfl, L (2 * i + 1), _, _, rfl, rfl, l2, by rw [List.length_map]; exact small1000 (by omega), ?_⟩
        have F5 := F4.set (m := 2 * i + 1) (q := (hs.2[i]).2.map V.str ++ [.int (2 * (i : Int) + 1)]) (by omega)
        have nl2 := nl0 (2 * i + 1) (by omega)
        have na2 := nal (2 * i + 1) (by omega)
        refine ⟨_, _, _, rfl, F5.congr fun m hm => ?_, keep0 nl2 s4, by rw [upd_ne na2.1]; exact ha4, by rw [upd_ne (ne_of ht4 l2 (fun z => nomatch z))]; exact ht4, by rw [upd_ne na2.2]; exact hr4⟩
        by_cases f2 : m = 2 * i + 1
        · subst f2
          rw [if_pos rfl, if_pos (by omega), cells_key er]
          congr 4
        · rw [if_neg f2]
          by_cases f1 : m = 2 * i
          · subst f1
            rw [if_pos rfl, if_pos (by omega), cells_lock er]
            congr 4
          · rw [if_neg f1]
            by_cases f3 : m < 2 * i
            · rw [if_pos f3, if_pos (by omega)]
            · rw [if_neg f3, if_neg (by omega)]
      · rintro σ H2 ⟨x1, x2, x3, rfl, F2, s2, ha2, ht2, hr2⟩
        refine ⟨x1, x2, x3, rfl, F2.congr fun m hm => ?_, s2, ha2, ht2, hr2⟩
        rw [if_pos (by rw [F1.len]; exact hm)]
end
end K7
set_option Elab.async false
set_option linter.all false
set_option maxRecDepth 100000
set_option maxHeartbeats 4000000
namespace K7
open PySem L2 PyProof.Rows
abbrev st_law : Stmt := sLaw
theorem cutTo (xs : List V) (k : Nat) : cutV xs none (some (k : Int)) = xs.take k := by
  unfold cutV
  rw [HT.sIx_none, HT.sIx_nat, Nat.sub_zero, List.drop_zero]
  by_cases h : k ≤ xs.length
  · rw [Nat.min_eq_left h]
  · rw [Nat.min_eq_right (by omega), List.take_of_length_le (by omega), List.take_of_length_le (by omega)]
theorem cutFrom (xs : List V) (k : Nat) : cutV xs (some (k : Int)) none = xs.drop k := by
  unfold cutV
  rw [HT.sIx_none, HT.sIx_nat]
  by_cases h : k ≤ xs.length
  · rw [Nat.min_eq_left h]
    exact List.take_of_length_le (by rw [List.length_drop]; exact Nat.le_refl _)
  · rw [Nat.min_eq_right (by omega), Nat.sub_self, List.take_zero, List.drop_of_length_le (by omega)]
theorem strs_not_pool {ss : List Str} {a f c : Int} (h : HO.lst (ss.map V.str) = .lst [.int a, .int f, .int c]) : False := by
  cases ss with
  | nil => cases h
  | cons x t => simp at h
theorem HouseAt.but {H H' : Hp} {v : V} {h : Hs} {p : Addr} {c : Int} (x : HouseAt H v h) (pl : PoolAt H p c) (b : But p H H') : HouseAt H' v h := by
  obtain ⟨o, hp, a0, f0, rfl⟩ := pl
  obtain ⟨t, a, r, vs, rfl, h1, h2, h3, hl, h4⟩ := x
  have ns : ∀ {y : Addr} {ss : List Str}, H y = some (.lst (ss.map V.str)) → y ≠ p := fun e z => by
    rw [z, hp] at e
    exact strs_not_pool (Option.some.inj e).symm
  have nt : ∀ {y : Addr} {us : List V}, H y = some (.tup us) → y ≠ p := fun e z => by
    rw [z, hp] at e
    cases e
  have nr : r ≠ p := fun z => by
    rw [z, hp] at h3
    cases h3
    have hlt : 0 < h.2.length := by rw [← hl]; exact Nat.succ_pos 2
    obtain ⟨_, _, _, e, _⟩ := h4 0 _ h.2[0] rfl (List.getElem?_eq_getElem hlt)
    cases e
  refine ⟨t, a, r, vs, rfl, b _ _ (nt h1) h1, b _ _ (ns h2) h2, b _ _ nr h3, hl, fun i v q e1 e2 => ?_⟩
  obtain ⟨t', a', b', e, g1, g2, g3⟩ := h4 i v q e1 e2
  exact ⟨t', a', b', e, b _ _ (nt g1) g1, b _ _ (ns g2) g2, b _ _ (ns g3) g3⟩
theorem key_few {h : Hs} {i : Nat} (hi : i < h.2.length) : (h.2[i]).2.length + h.1.length ≤ (allKeys h).length := by
  have e1 := flat_take (fun x : Rm => x.2) h.2 (i + 1)
  rw [flat_succ _ _ _ hi, List.length_append] at e1
  unfold allKeys
  rw [List.length_append]
  omega
theorem locks_few : ∀ {rs : List Rm}, (∀ r ∈ rs, RoomOk r) → (rs.flatMap (·.1)).length ≤ 4 * rs.length
  | [], _ => Nat.zero_le _
  | r :: rs, h => by
    have e1 := (h r List.mem_cons_self).l4
    have e2 := locks_few (rs := rs) fun q hq => h q (List.mem_cons_of_mem _ hq)
    rw [List.flatMap_cons, List.length_append, List.length_cons]
    omega
def oddS : List Str := ["zz", "yy", "q"]
theorem odd_ok : ∀ k ∈ oddS, KindOk k := by
  intro k hk
  simp only [oddS, List.mem_cons, List.not_mem_nil, or_false] at hk
  rcases hk with e | e | e <;> subst e <;> exact ⟨by decide +kernel, by decide +kernel, by decide +kernel⟩
def spLaw (K : PySem.W.Frag) : Sp := fun vs H Q _ => ∃ (a : Addr) (ns : List Int), vs = [.ref a] ∧ SqL K H a (ns.map V.int) ∧ ns.length ≤ 63 ∧ ∀ H', Q (.bl true) H'
section
variable {P : Program} {w : World} {K : PySem.W.Frag} {mg : Str → Option Value} {base : Heap}
theorem sc_law : FnScope ["script", "k", "pool", "house", "odd", "at", "rooms", "room", "locks", "keys", "due", "handed", "again", "found"] ["script"] (defScope st_law) := ⟨rfl, rfl, rfl, by decide +kernel, rfl, by decide +kernel, by decide +kernel⟩
theorem ok_law {f fP fH fT fD fC fW fI fM : Addr} {fd fdP fdH fdT fdD fdC fdW fdI fdM : FuncData} (F : Fun K "law" "law" sLaw f fd)
    (G__law_pool : FnOk P w K mg base CX0 1 fP fdP ["script", "k"] (spPool K)) (c__law_pool : Cal K mg "_law_pool" ["script", "k"] fP fdP)
    (G__law_house : FnOk P w K mg base CX0 3 fH fdH ["pool", "most"] spDrawn) (c__law_house : Cal K mg "_law_house" ["pool", "most"] fH fdH)
    (G__law_take : FnOk P w K mg base CX0 1 fT fdT ["pool", "many"] spTake) (c__law_take : Cal K mg "_law_take" ["pool", "many"] fT fdT)
    (G__law_due : FnOk P w K mg base CX0 1 fD fdD ["house"] spDue44) (c__law_due : Cal K mg "_law_due" ["house"] fD fdD)
    (G__law_copy : FnOk P w K mg base CX0 1 fC fdC ["house"] spCopyF) (c__law_copy : Cal K mg "_law_copy" ["house"] fC fdC)
    (G_without_needless : FnOk P w K mg base CX0 7 fW fdW ["house"] spWithout) (c_without_needless : Cal K mg "without_needless" ["house"] fW fdW)
    (G__law_is_house : FnOk P w K mg base CX0 1 fI fdI ["found", "due"] spIsHouse) (c__law_is_house : Cal K mg "_law_is_house" ["found", "due"] fI fdI)
    (G__law_marked : FnOk P w K mg base CX0 1 fM fdM ["house"] spMarked) (c__law_marked : Cal K mg "_law_marked" ["house"] fM fdM)
    (m_range : mg "range" = none) (m_len : mg "len" = none) (m_min : mg "min" = none) (m_max : mg "max" = none) (m_int : mg "int" = none) (m_enumerate : mg "enumerate" = none) : FnOk P w K mg base CX0 8 f fd ["script"] (spLaw K) := by
  refine F.ok sc_law (fun vs H Q E h => ?_) (fun cdv A outer s H vs Q E hr h => ?_)
  · obtain ⟨a, ns, rfl, _⟩ := h
    rfl
  · obtain ⟨a, ns, rfl, hS, hn, k⟩ := h
    have hu := hu_of hr
    have deep : ∀ {n m : Nat}, n ≤ 4 → (A.deeper (envOfC "law" (defScope sLaw) s.heap.objs.size f cdv)).units + min n m < cLine := fun {n m} h => Nat.lt_of_le_of_lt (Nat.add_le_add_left (Nat.le_trans (Nat.min_le_left _ _) (Nat.le_trans h (by decide : 4 ≤ 64))) _) hr.units
    refine ⟨_, (pss_cons (ps_cut (ps_for PassesOwn.never rfl (pi_range1 rfl m_range (pa_cons (pe_callB (call_max2 rfl) rfl m_max (by decide +kernel) (pa_cons pe_int (pa_cons (pe_callB (call_min2 rfl) rfl m_min (by decide +kernel) (pa_cons pe_int (pa_cons (pe_callB call_len_seq rfl m_len PySem.boot_len (pa_cons (pv 0) pa_nil)) pa_nil))) pa_nil))) pa_nil)) (pg_name (i := 1) sc_law.nd rfl (Or.inl rfl))
        (pss_cons (ps_set (i := 2) sc_law.nd rfl (Or.inl rfl) (pe_call G__law_pool (hr.mono (show 1 ≤ 7 by decide)) rfl c__law_pool.mg c__law_pool.kp c__law_pool.b .nil pass0 (pa_cons (pv 0) (pa_cons (pv 1) pa_nil))))
        (pss_cons (ps_set (i := 3) sc_law.nd rfl (Or.inl rfl) (pe_call G__law_house (hr.mono (show 3 ≤ 7 by decide)) rfl c__law_house.mg c__law_house.kp c__law_house.b .nil pass0 (pa_cons (pv 2) (pa_cons pe_int pa_nil))))
        (pss_cons (ps_set (i := 4) sc_law.nd rfl (Or.inl rfl) (pe_slice sl_list (pe_lst (pa_cons pe_str (pa_cons pe_str (pa_cons pe_str pa_nil)))) po_none (po_some (pe_call G__law_take (hr.mono (show 1 ≤ 7 by decide)) rfl c__law_take.mg c__law_take.kp c__law_take.b .nil pass0 (pa_cons (pv 2) (pa_cons pe_int pa_nil))))))
        (pss_cons (ps_set (i := 5) sc_law.nd rfl (Or.inl rfl) (pe_call G__law_take (hr.mono (show 1 ≤ 7 by decide)) rfl c__law_take.mg c__law_take.kp c__law_take.b .nil pass0 (pa_cons (pv 2) (pa_cons pe_int pa_nil))))
        (pss_cons (ps_set (i := 6) sc_law.nd rfl (Or.inl rfl) (pe_lst pa_nil))
        (pss_cons (ps_cut (ps_for PassesOwn.never rfl (pi_enum rfl m_enumerate (pa_cons (pe_ix ix_tup (pv 3) pe_int (fun _ _ => rfl)) pa_nil)) (pg_tup rfl (pgs_cons (pg_name (i := 7) sc_law.nd rfl (Or.inl rfl)) (pgs_cons (pg_tup rfl (pgs_cons (pg_name (i := 8) sc_law.nd rfl (Or.inl rfl)) (pgs_cons (pg_name (i := 9) sc_law.nd rfl (Or.inl rfl)) pgs_nil))) pgs_nil)))
          (pss_one (ps_expr (pe_bm PySem.F.plainAttrs_list PySem.F.slot_list_append PySem.F.type_list_append mt_append (pv 6) (pa_cons (pe_tup (pa_cons (pv 8) (pa_cons (pe_op op_cat (pe_op op_cat (pe_slice sl_list (pv 9) po_none (po_some pe_int)) (pe_slice sl_list (pv 4) po_none (po_some (pe_op op_mul pe_int (pe_callTy call_int1 rfl m_int (by decide +kernel) (pa_cons (pe_cmpR op_eq (pe_op op_mod (pv 7) pe_int) (pv 5) (nomark _)) pa_nil)))))) (pe_slice sl_list (pv 9) (po_some pe_int) po_none)) pa_nil))) pa_nil))))))
        (pss_cons (ps_set (i := 3) sc_law.nd rfl (Or.inl rfl) (pe_tup (pa_cons (pe_op op_cat (pe_ix ix_tup (pv 3) pe_int (fun _ _ => rfl)) (pv 4)) (pa_cons (pv 6) pa_nil))))
        (pss_cons (ps_set (i := 10) sc_law.nd rfl (Or.inl rfl) (pe_call G__law_due (hr.mono (show 1 ≤ 7 by decide)) rfl c__law_due.mg c__law_due.kp c__law_due.b .nil pass0 (pa_cons (pv 3) pa_nil)))
        (pss_cons (ps_set (i := 11) sc_law.nd rfl (Or.inl rfl) (pe_call G__law_copy (hr.mono (show 1 ≤ 7 by decide)) rfl c__law_copy.mg c__law_copy.kp c__law_copy.b .nil pass0 (pa_cons (pv 3) pa_nil)))
        (pss_one (ps_cut (ps_for PassesOwn.never rfl (pi_range1 rfl m_range (pa_cons pe_int pa_nil)) (pg_name (i := 12) sc_law.nd rfl (Or.inl rfl))
          (pss_cons (ps_set (i := 13) sc_law.nd rfl (Or.inl rfl) (pe_call G_without_needless hr rfl c_without_needless.mg c_without_needless.kp c_without_needless.b .nil pass0 (pa_cons (pv 11) pa_nil)))
          (pss_cons (ps_if (PW.pt (pw_or (pt_not (pt_val (pe_call G__law_is_house (hr.mono (show 1 ≤ 7 by decide)) rfl c__law_is_house.mg c__law_is_house.kp c__law_is_house.b .nil pass0 (pa_cons (pv 13) (pa_cons (pv 10) pa_nil))))) (pw_or1 (pt_cmpR op_neD (pv 11) (pv 3) (nomark _)))))
            (pss_one (ps_ret pe_bl)) pss_nil)
          (pss_one (ps_if (PW.pt (pw_or (pt_cmpR op_neD (pe_call G__law_marked (hr.mono (show 1 ≤ 7 by decide)) rfl c__law_marked.mg c__law_marked.kp c__law_marked.b .nil pass0 (pa_cons (pv 13) pa_nil)) (pe_call G__law_marked (hr.mono (show 1 ≤ 7 by decide)) rfl c__law_marked.mg c__law_marked.kp c__law_marked.b .nil pass0 (pa_cons (pe_call G__law_copy (hr.mono (show 1 ≤ 7 by decide)) rfl c__law_copy.mg c__law_copy.kp c__law_copy.b .nil pass0 (pa_cons (pv 10) pa_nil)) pa_nil)) (nomark _)) (pw_or1 (pt_cmpR op_neD (pv 11) (pv 3) (nomark _)))))
            (pss_one (ps_ret pe_bl)) pss_nil))))))))))))))))))
      (pss_one (ps_ret (pe_cmpR op_eqD (pe_call G_without_needless hr rfl c_without_needless.mg c_without_needless.kp c_without_needless.b .nil pass0 (pa_cons (pe_tup (pa_cons (pe_lst (pa_cons pe_str pa_nil)) (pa_cons (pe_lst pa_nil) pa_nil))) pa_nil)) (pe_tup (pa_cons (pe_lst pa_nil) (pa_cons (pe_lst pa_nil) pa_nil))) (nomark _))))), ?_⟩
    refine ⟨fun σ' H' => ∃ (x1 x2 x3 x4 x5 x6 x7 x8 x9 x10 x11 x12 x13 : Option V), σ' = [some (.ref a), x1, x2, x3, x4, x5, x6, x7, x8, x9, x10, x11, x12, x13] ∧ Same H H', ?_, ?_⟩
    · rintro σ H2 ⟨x1, x2, x3, x4, x5, x6, x7, x8, x9, x10, x11, x12, x13, rfl, sm⟩
      refine ⟨by show 1 ≤ sizeLine; decide, fun l1 n1 => ⟨Nat.zero_le _, fun l2 n2 => ⟨by show 2 ≤ sizeLine; decide, fun l3 n3 => ?_⟩⟩⟩
      have e12 : l1 ≠ l2 := ne_of_none (show (upd H2 l1 (.lst [.str "a"])) l1 = some _ from upd_same) n2
      have h1 : (upd (upd H2 l1 (.lst [.str "a"])) l2 (.lst [])) l1 = some (.lst [.str "a"]) := by rw [upd_ne e12]; exact upd_same
      have h2 : (upd (upd H2 l1 (.lst [.str "a"])) l2 (.lst [])) l2 = some (.lst []) := upd_same
      have e13 : l1 ≠ l3 := ne_of_none h1 n3
      have e23 : l2 ≠ l3 := ne_of_none h2 n3
      refine ⟨.ref l3, (["a"], []), rfl, ⟨l3, l1, l2, [], rfl, upd_same, by rw [upd_ne e13]; exact h1, by rw [upd_ne e23]; exact h2, ⟨rfl, fun i v r e => by simp at e⟩⟩, ⟨(fun k h => by rw [List.mem_singleton.mp h]; exact ⟨by decide +kernel, by decide +kernel, by decide +kernel⟩), by decide, (fun r h => nomatch h), Nat.zero_le _⟩, Nat.zero_le _, fun u H3 s3 hF => ?_⟩
      have en : needOf (["a"], []) = ([], []) := rfl
      rw [en] at hF
      have hA := hF.at
      refine ⟨Nat.zero_le _, fun l4 n4 => ⟨Nat.zero_le _, fun l5 n5 => ⟨by show 2 ≤ sizeLine; decide, fun l6 n6 => ?_⟩⟩⟩
      have s4 : Same H3 (upd H3 l4 (.lst [])) := fun b u e => by rw [upd_ne (ne_of_none e n4)]; exact e
      have s5 : Same (upd H3 l4 (.lst [])) (upd (upd H3 l4 (.lst [])) l5 (.lst [])) := fun b u e => by rw [upd_ne (ne_of_none e n5)]; exact e
      have f4 : (upd (upd H3 l4 (.lst [])) l5 (.lst [])) l4 = some (.lst []) := s5 _ _ upd_same
      have f5 : (upd (upd H3 l4 (.lst [])) l5 (.lst [])) l5 = some (.lst []) := upd_same
      generalize upd (upd H3 l4 (.lst [])) l5 (.lst []) = H5 at s5 f4 f5 n6 ⊢
      have s6 : Same H5 (upd H5 l6 (.tup [.ref l4, .ref l5])) := fun b u e => by rw [upd_ne (ne_of_none e n6)]; exact e
      have hB : HouseAt (upd H5 l6 (.tup [.ref l4, .ref l5])) (.ref l6) ([], []) := ⟨l6, l4, l5, [], rfl, upd_same, s6 _ _ f4, s6 _ _ f5, ⟨rfl, fun i v r e => by simp at e⟩⟩
      have ok0 : HouseOk (([], []) : Hs) := ⟨(fun k h => nomatch h), Nat.zero_le _, (fun r h => nomatch h), Nat.zero_le _⟩
      refine ⟨houseData ([], []), houseData ([], []), sees_house (((hA.same s4).same s5).same s6), sees_house hB, house_lay ok0, house_lay ok0, deep (house_depth _), ?_⟩
      exact k _
    · have mx : ∃ m : Nat, (if (if ((ns.map V.int).length : Int) < 12 then ((ns.map V.int).length : Int) else 12) > 1 then (if ((ns.map V.int).length : Int) < 12 then ((ns.map V.int).length : Int) else 12) else 1) = (m : Int) ∧ m ≤ 12 := by
        refine ⟨((if (if ((ns.map V.int).length : Int) < 12 then ((ns.map V.int).length : Int) else 12) > 1 then (if ((ns.map V.int).length : Int) < 12 then ((ns.map V.int).length : Int) else 12) else 1) : Int).toNat, ?_, ?_⟩ <;> split <;> split <;> omega
      obtain ⟨m, em, hm⟩ := mx
      refine ⟨_, rfl, a, _, rfl, .inl hS, 12, _, rfl, 1, _, rfl, (m : Int), congrArg (fun z => [V.int z]) em, by omega, by omega, ?_⟩
      rw [Int.toNat_natCast]
      refine for_range (fun i σ' H' => ∃ (x1 x2 x3 x4 x5 x6 x7 x8 x9 x10 x11 x12 x13 : Option V), σ' = [some (.ref a), x1, x2, x3, x4, x5, x6, x7, x8, x9, x10, x11, x12, x13] ∧ Same H H') ⟨none, none, none, none, none, none, none, none, none, none, none, none, none, rfl, Same.refl H⟩ ?_ ?_
      rotate_left
      · intro σ' H' h; exact h
      rintro i σ H2 hi ⟨x1, x2, x3, x4, x5, x6, x7, x8, x9, x10, x11, x12, x13, rfl, sm⟩
      refine ⟨_, rfl, _, rfl, a, i, ns, congrArg (fun z => [V.ref a, V.int z]) (show (0 + (i : Int)) = (i : Int) by omega), sm.seq hS, by omega, hn, fun p c o np hpo c0 c1 => ?_⟩
      have s2 : Same H2 (upd H2 p o) := fun b u e => by rw [upd_ne (ne_of_none e np)]; exact e
      refine ⟨_, rfl, p, 60, c, rfl, ⟨o, upd_same, hpo⟩, by decide, c0, by omega, fun v h c4 H4 hh ok few len nk pl4 g1 g2 b4 => ?_⟩
      have bn : ∀ {H : Hp} {l : Addr} {o : HO}, H l = none → But p H (upd H l o) := fun {H l o} n b u _ e => by rw [upd_ne (ne_of_none e n)]; exact e
      obtain ⟨o4, hp4, hpo4⟩ := pl4
      refine ⟨by show 3 ≤ sizeLine; decide, fun l0 n0 => ?_⟩
      have b5 : But p H4 (upd H4 l0 (.lst [.str "zz", .str "yy", .str "q"])) := bn n0
      have hp5 : (upd H4 l0 (.lst [.str "zz", .str "yy", .str "q"])) p = some o4 := by rw [upd_ne (ne_of_none hp4 n0)]; exact hp4
      have h05 : (upd H4 l0 (.lst [.str "zz", .str "yy", .str "q"])) l0 = some (.lst (oddS.map V.str)) := upd_same
      generalize upd H4 l0 (.lst [.str "zz", .str "yy", .str "q"]) = H5 at b5 hp5 h05 ⊢
      have n0p : l0 ≠ p := fun z => by rw [z, hp4] at n0; cases n0
      refine ⟨_, rfl, p, 4, c4, o4, rfl, hp5, hpo4, by decide, by decide, by omega, by omega, fun r c5 o5 r0 r1 g3 g4 hpo5 => ?_⟩
      obtain ⟨rn, rfl⟩ : ∃ n : Nat, r = (n : Int) := ⟨r.toNat, by omega⟩
      have b6 : But p H5 (upd H5 p o5) := But.upd
      have hp6 : (upd H5 p o5) p = some o5 := upd_same
      generalize upd H5 p o5 = H6 at b6 hp6 ⊢
      refine ⟨_, rfl, l0, _, rfl, SqL.of (b6 _ _ n0p h05), fun oA nO => ?_⟩
      rw [cutTo, ← List.map_take]
      have hol : (oddS.take rn).length ≤ 3 := by rw [List.length_take]; exact Nat.le_trans (Nat.min_le_right _ _) (by decide)
      have hok : ∀ k ∈ oddS.take rn, KindOk k := fun k hk => odd_ok k (List.mem_of_mem_take hk)
      generalize oddS.take rn = odd at hol hok ⊢
      have b7 : But p H6 (upd H6 oA (.lst (odd.map V.str))) := bn nO
      have hp7 : (upd H6 oA (.lst (odd.map V.str))) p = some o5 := by rw [upd_ne (ne_of_none hp6 nO)]; exact hp6
      have hO7 : (upd H6 oA (.lst (odd.map V.str))) oA = some (.lst (odd.map V.str)) := upd_same
      have nOp : oA ≠ p := fun z => by rw [z, hp6] at nO; cases nO
      generalize upd H6 oA (.lst (odd.map V.str)) = H7 at b7 hp7 hO7 ⊢
      refine ⟨_, rfl, p, 8, c5, o5, rfl, hp7, hpo5, by decide, by decide, by omega, by omega, fun at_ c6 o6 t0 t1 g5 g6 hpo6 => ?_⟩
      have b8 : But p H7 (upd H7 p o6) := But.upd
      have hO8 : (upd H7 p o6) oA = some (.lst (odd.map V.str)) := by rw [upd_ne nOp]; exact hO7
      generalize upd H7 p o6 = H8 at b8 hO8 ⊢
      have b48 := b5.trans (b6.trans (b7.trans b8))
      have hh8 := hh.but ⟨o4, hp4, hpo4⟩ b48
      have s8 : Same H2 H8 := fun b u e => b48 b u (ne_of_none e np) (b4 b u (ne_of_none e np) (s2 b u e))
      obtain ⟨t, ka, ra, us, rfl, ht, hka, hra, hR⟩ := hh8
      refine ⟨Nat.zero_le _, fun rA nR => ?_⟩
      have s9 : Same H8 (upd H8 rA (.lst [])) := fun b u e => by rw [upd_ne (ne_of_none e nR)]; exact e
      refine ⟨fun σ' H' => ∃ (y7 y8 y9 : Option V) (ys : List V) (rs' : List Rm), σ' = [some (.ref a), some (.int (0 + i)), some (.ref p), some (.ref t), some (.ref oA), some (.int at_), some (.ref rA), y7, y8, y9, x10, x11, x12, x13] ∧ rs'.length = us.length ∧ ys.length = us.length ∧ (∀ q ∈ rs', RoomOk q) ∧ (∀ (m : Nat) (z : V) (q : Rm), ys[m]? = some z → rs'[m]? = some q → RoomOff rA H' z q) ∧ H' rA = some (.lst ys) ∧ Same H8 H', ?_, ?_⟩
      rotate_left
      · refine ⟨_, rfl, t, _, 1, .ref ra, rfl, rfl, SqT.of (s9 _ _ ht), rfl, ra, rfl, ⟨_, SqL.of (s9 _ _ hra)⟩, ?_⟩
        refine for_enum (xs := us) (fun j σ' H' => ∃ (y7 y8 y9 : Option V) (ys : List V) (rs' : List Rm), σ' = [some (.ref a), some (.int (0 + i)), some (.ref p), some (.ref t), some (.ref oA), some (.int at_), some (.ref rA), y7, y8, y9, x10, x11, x12, x13] ∧ rs'.length = j ∧ ys.length = j ∧ j ≤ 60 ∧ (∀ q ∈ rs', RoomOk q) ∧ (∀ (m : Nat) (z : V) (q : Rm), ys[m]? = some z → rs'[m]? = some q → RoomOff rA H' z q) ∧ H' rA = some (.lst ys) ∧ Same H8 H')
          ⟨_, _, _, [], [], rfl, rfl, rfl, Nat.zero_le _, (fun q h => nomatch h), (fun m z q e => by simp at e), upd_same, s9⟩ (fun j σ H' _ ⟨_, _, _, _, _, _, _, _, _, _, _, _, sm⟩ => SqL.of (sm _ _ hra)) ?_ ?_
        rotate_left
        · rintro σ H9 ⟨y7, y8, y9, ys, rs', rfl, e1, e2, _, e3, e4, e5, e6⟩
          exact ⟨y7, y8, y9, ys, rs', rfl, e1, e2, e3, e4, e5, e6⟩
        rintro j x σ H9 N hx ⟨y7, y8, y9, ys, rs', rfl, hrl, hyl, hj60, hro, hrm, hA9, sm9⟩ nN
        have hj : j < us.length := (List.getElem?_eq_some_iff.mp hx).1
        have hj' : j < h.2.length := by rw [← hR.1]; exact hj
        have er : h.2[j]? = some h.2[j] := List.getElem?_eq_getElem hj'
        have okr := ok.rs _ (List.getElem_mem hj')
        have kf := key_few hj'
        obtain ⟨tt, aa, bb, rfl, q1, q2, q3⟩ := (hR.2 j x _ hx er).same sm9
        have sN : Same H9 (upd H9 N (.tup [.int (j : Int), .ref tt])) := fun b u e => by rw [upd_ne (ne_of_none e nN)]; exact e
        have hN : (upd H9 N (.tup [.int (j : Int), .ref tt])) N = some (.tup [.int (j : Int), .ref tt]) := upd_same
        generalize upd H9 N (.tup [.int (j : Int), .ref tt]) = H10 at sN hN ⊢
        refine ⟨N, _, rfl, SqT.of hN, rfl, _, _, rfl, _, _, rfl, tt, _, rfl, SqT.of (sN _ _ q1), rfl, _, _, rfl, _, _, rfl, rfl, rfl, ?_⟩
        refine ⟨_, rfl, .inl ⟨rfl, _, SqL.of (sN _ _ hA9)⟩, ?_⟩
        refine ⟨_, rfl, _, rfl, _, rfl, bb, _, rfl, SqL.of (sN _ _ q3), fun k1 nk1 => ?_⟩
        rw [show (2 : Int) = ((2 : Nat) : Int) from rfl, cutTo, ← List.map_take]
        have m1 : Same H10 (upd H10 k1 (.lst (((h.2[j]).2.take 2).map V.str))) := fun b u e => by rw [upd_ne (ne_of_none e nk1)]; exact e
        have hk1 : (upd H10 k1 (.lst (((h.2[j]).2.take 2).map V.str))) k1 = some (.lst (((h.2[j]).2.take 2).map V.str)) := upd_same
        generalize upd H10 k1 (.lst (((h.2[j]).2.take 2).map V.str)) = H11 at m1 hk1 ⊢
        have m11 := sN.trans m1
        have hO11 := m11 _ _ (sm9 _ _ hO8)
        refine ⟨_, rfl, _, rfl, _, 8, rfl, rfl, (by show (0 : Int) < 8; decide), _, rfl, rfl, .inr ⟨_, rfl, ?_⟩⟩
        generalize decide (V.int ((j : Int) % 8) = V.int at_) = bq
        obtain ⟨nn, en, hnn⟩ : ∃ n : Nat, (2 : Int) * (if bq = true then 1 else 0) = (n : Int) ∧ n ≤ 2 := by
          cases bq
          · exact ⟨0, rfl, by decide⟩
          · exact ⟨2, rfl, by decide⟩
        refine ⟨2, _, rfl, rfl, .inl (by decide), _, congrArg V.int en, oA, _, rfl, SqL.of hO11, fun k2 nk2 => ?_⟩
        rw [cutTo, ← List.map_take]
        have ol2 : (odd.take nn).length ≤ 3 := Nat.le_trans (List.length_take_le' _ _) hol
        have ok2 : ∀ k ∈ odd.take nn, KindOk k := fun k hk => hok k (List.mem_of_mem_take hk)
        generalize odd.take nn = od at ol2 ok2 ⊢
        have m2 : Same H11 (upd H11 k2 (.lst (od.map V.str))) := fun b u e => by rw [upd_ne (ne_of_none e nk2)]; exact e
        have hk2 : (upd H11 k2 (.lst (od.map V.str))) k2 = some (.lst (od.map V.str)) := upd_same
        generalize upd H11 k2 (.lst (od.map V.str)) = H12 at m2 hk2 ⊢
        have tl2 := List.length_take_le' 2 (h.2[j]).2
        have dl2 : ((h.2[j]).2.drop 2).length ≤ (h.2[j]).2.length := by rw [List.length_drop]; omega
        refine ⟨k1, k2, _, _, rfl, rfl, m2 _ _ hk1, hk2, by rw [List.length_map, List.length_map]; exact Nat.le_of_lt (small1000 (by omega)), fun k3 nk3 => ?_⟩
        rw [← List.map_append]
        have m3 : Same H12 (upd H12 k3 (.lst (((h.2[j]).2.take 2 ++ od).map V.str))) := fun b u e => by rw [upd_ne (ne_of_none e nk3)]; exact e
        have hk3 : (upd H12 k3 (.lst (((h.2[j]).2.take 2 ++ od).map V.str))) k3 = some (.lst (((h.2[j]).2.take 2 ++ od).map V.str)) := upd_same
        generalize upd H12 k3 (.lst (((h.2[j]).2.take 2 ++ od).map V.str)) = H13 at m3 hk3 ⊢
        have m13 := m11.trans (m2.trans m3)
        refine ⟨_, rfl, _, rfl, bb, _, rfl, SqL.of (m13 _ _ q3), fun k4 nk4 => ?_⟩
        rw [cutFrom, ← List.map_drop]
        have m4 : Same H13 (upd H13 k4 (.lst (((h.2[j]).2.drop 2).map V.str))) := fun b u e => by rw [upd_ne (ne_of_none e nk4)]; exact e
        have hk4 : (upd H13 k4 (.lst (((h.2[j]).2.drop 2).map V.str))) k4 = some (.lst (((h.2[j]).2.drop 2).map V.str)) := upd_same
        generalize upd H13 k4 (.lst (((h.2[j]).2.drop 2).map V.str)) = H14 at m4 hk4 ⊢
        refine ⟨k3, k4, _, _, rfl, rfl, m4 _ _ hk3, hk4, by rw [List.length_map, List.length_map, List.length_append]; exact Nat.le_of_lt (small1000 (by omega)), fun k5 nk5 => ?_⟩
        rw [← List.map_append]
        have m5 : Same H14 (upd H14 k5 (.lst (((h.2[j]).2.take 2 ++ od ++ (h.2[j]).2.drop 2).map V.str))) := fun b u e => by rw [upd_ne (ne_of_none e nk5)]; exact e
        have hk5 : (upd H14 k5 (.lst (((h.2[j]).2.take 2 ++ od ++ (h.2[j]).2.drop 2).map V.str))) k5 = some (.lst (((h.2[j]).2.take 2 ++ od ++ (h.2[j]).2.drop 2).map V.str)) := upd_same
        generalize upd H14 k5 (.lst (((h.2[j]).2.take 2 ++ od ++ (h.2[j]).2.drop 2).map V.str)) = H15 at m5 hk5 ⊢
        have m14 := m13.trans m4
        have m15 := m14.trans m5
        refine ⟨by show 2 ≤ sizeLine; decide, fun tn nT => ?_⟩
        have m6 : Same H15 (upd H15 tn (.tup [.ref aa, .ref k5])) := fun b u e => by rw [upd_ne (ne_of_none e nT)]; exact e
        have hT : (upd H15 tn (.tup [.ref aa, .ref k5])) tn = some (.tup [.ref aa, .ref k5]) := upd_same
        generalize upd H15 tn (.tup [.ref aa, .ref k5]) = H16 at m6 hT ⊢
        have m16 := m15.trans m6
        have hA16 := m16 _ _ hA9
        refine ⟨rA, _, _, rfl, rfl, hA16, by rw [hyl]; exact small1000 (by omega), ?_⟩
        have new : RoomOk ((h.2[j]).1, (h.2[j]).2.take 2 ++ od ++ (h.2[j]).2.drop 2) := by
          refine ⟨okr.lk, okr.l1, okr.l4, okr.so, fun k hk => ?_, ?_⟩
          · rcases List.mem_append.mp hk with hk | hk
            · rcases List.mem_append.mp hk with hk | hk
              · exact okr.kk k (List.mem_of_mem_take hk)
              · exact ok2 k hk
            · exact okr.kk k (List.mem_of_mem_drop hk)
          · show ((h.2[j]).2.take 2 ++ od ++ (h.2[j]).2.drop 2).length ≤ 1000
            rw [List.length_append, List.length_append]
            omega
        have naA : aa ≠ rA := fun z => by
          have q2' : H8 aa = some (.lst ((h.2[j]).1.map V.str)) := by
            obtain ⟨t3, a3, b3, e3, w1, w2, w3⟩ := hR.2 j _ _ hx er
            cases e3
            rw [sm9 _ _ w1] at q1
            cases q1
            exact w2
          rw [z, nR] at q2'
          cases q2'
        have nk5A : k5 ≠ rA := fun z => by
          have := m14 _ _ hA9
          rw [← z, nk5] at this
          cases this
        have ntA : tn ≠ rA := ne_of hT hA16 (fun z => nomatch z)
        have newR : RoomOff rA (upd H16 rA (.lst (ys ++ [.ref tn]))) (.ref tn) ((h.2[j]).1, (h.2[j]).2.take 2 ++ od ++ (h.2[j]).2.drop 2) :=
          ⟨tn, aa, k5, rfl, by rw [upd_ne ntA]; exact hT, by rw [upd_ne naA]; exact m16 _ _ q2, by rw [upd_ne nk5A]; exact m6 _ _ hk5, ntA, naA, nk5A⟩
        refine ⟨_, _, _, ys ++ [.ref tn], rs' ++ [((h.2[j]).1, (h.2[j]).2.take 2 ++ od ++ (h.2[j]).2.drop 2)], rfl, by simp [hrl], by simp [hyl], by omega, fun q hq => ?_, fun m z q e1 e2 => ?_, upd_same, fun b u e => ?_⟩
        · rcases List.mem_append.mp hq with hq | hq
          · exact hro q hq
          · rw [List.mem_singleton.mp hq]; exact new
        · by_cases hm : m < j
          · rw [List.getElem?_append_left (by omega)] at e1
            rw [List.getElem?_append_left (by omega)] at e2
            exact (hrm m z q e1 e2).on fun b u nb e => by rw [upd_ne nb]; exact m16 b u e
          · have hml : m < (ys ++ [V.ref tn]).length := (List.getElem?_eq_some_iff.mp e1).1
            rw [List.length_append, List.length_singleton] at hml
            have em : m = j := by omega
            subst em
            rw [List.getElem?_append_right (by omega), hyl, Nat.sub_self] at e1
            rw [List.getElem?_append_right (by omega), hrl, Nat.sub_self] at e2
            cases e1
            cases e2
            exact newR
        · rw [upd_ne (ne_of_none e nR)]
          exact m16 b u (sm9 b u e)
      rintro σ H9 ⟨y7, y8, y9, ys, rs', rfl, hrl, hyl, hro, hrm, hA9, sm9⟩
      have hlen : us.length ≤ 60 := by rw [hR.1]; exact len
      have kl1 : h.1.length ≤ 250 := by
        unfold allKeys at nk
        rw [List.length_append] at nk
        omega
      refine ⟨_, rfl, t, _, 0, .ref ka, rfl, rfl, SqT.of (sm9 _ _ ht), rfl, _, rfl, ka, oA, _, _, rfl, rfl, sm9 _ _ hka, sm9 _ _ hO8, by rw [List.length_map, List.length_map]; exact Nat.le_of_lt (small1000 (by omega)), fun kc nkc => ?_⟩
      rw [← List.map_append]
      have m10 : Same H9 (upd H9 kc (.lst ((h.1 ++ odd).map V.str))) := fun b u e => by rw [upd_ne (ne_of_none e nkc)]; exact e
      have hkc : (upd H9 kc (.lst ((h.1 ++ odd).map V.str))) kc = some (.lst ((h.1 ++ odd).map V.str)) := upd_same
      generalize upd H9 kc (.lst ((h.1 ++ odd).map V.str)) = H10 at m10 hkc ⊢
      refine ⟨_, rfl, by show 2 ≤ sizeLine; decide, fun th nth => ?_⟩
      have m11 : Same H10 (upd H10 th (.tup [.ref kc, .ref rA])) := fun b u e => by rw [upd_ne (ne_of_none e nth)]; exact e
      have hth : (upd H10 th (.tup [.ref kc, .ref rA])) th = some (.tup [.ref kc, .ref rA]) := upd_same
      generalize upd H10 th (.tup [.ref kc, .ref rA]) = H11 at m11 hth ⊢
      have m911 := m10.trans m11
      have hh11 : HouseAt H11 (.ref th) (h.1 ++ odd, rs') := ⟨th, kc, rA, ys, rfl, hth, m11 _ _ hkc, m911 _ _ hA9, ⟨by rw [hyl, hrl], fun m z q e1 e2 => (hrm m z q e1 e2).at.same m911⟩⟩
      have ok' : HouseOk (h.1 ++ odd, rs') := by
        refine ⟨fun k hk => ?_, ?_, hro, ?_⟩
        · rcases List.mem_append.mp hk with hk | hk
          · exact ok.kk k hk
          · exact hok k hk
        · show (h.1 ++ odd).length ≤ 1000
          rw [List.length_append]
          omega
        · show rs'.length ≤ 1000
          omega
      have lk' : (allLocks (h.1 ++ odd, rs')).length ≤ 1000 := by
        have := locks_few hro
        show (rs'.flatMap (·.1)).length ≤ 1000
        omega
      have s11 : Same H2 H11 := s8.trans (sm9.trans m911)
      generalize (h.1 ++ odd, rs') = hs at hh11 ok' lk' ⊢
      have okn := need_ok ok'
      refine ⟨_, rfl, .ref th, hs, rfl, hh11, ok', lk', fun d H12 s12 hd12 => ?_⟩
      refine ⟨_, rfl, .ref th, hs, rfl, hh11.same s12, ok', fun u H13 s13 hu13 => ?_⟩
      have hh13 := (hh11.same s12).same s13
      have hd13 := hd12.same s13
      have hu13' := hu13.at
      have s213 : Same H H13 := sm.trans (s11.trans (s12.trans s13))
      refine ⟨fun σ' H' => ∃ (z12 z13 : Option V), σ' = [some (.ref a), some (.int (0 + i)), some (.ref p), some (.ref th), some (.ref oA), some (.int at_), some (.ref rA), y7, y8, y9, some d, some u, z12, z13] ∧ Same H13 H', ?_, ?_⟩
      · rintro σ H14 ⟨z12, z13, rfl, s14⟩
        exact ⟨_, _, _, _, _, _, _, _, _, _, _, _, _, rfl, s213.trans s14⟩
      refine ⟨2, rfl, by decide, by decide, ?_⟩
      refine for_range (n := 2) (fun j σ' H' => ∃ (z12 z13 : Option V), σ' = [some (.ref a), some (.int (0 + i)), some (.ref p), some (.ref th), some (.ref oA), some (.int at_), some (.ref rA), y7, y8, y9, some d, some u, z12, z13] ∧ Same H13 H') ⟨_, _, rfl, Same.refl H13⟩ ?_ ?_
      rotate_left
      · intro σ' H' h; exact h
      rintro j σ H14 hj ⟨z12, z13, rfl, s14⟩
      refine ⟨_, rfl, u, hs, rfl, hu13'.same s14, ok', lk', fun fo H15 s15 hf15 => ?_⟩
      have s1315 := s14.trans s15
      refine ⟨_, rfl, _, rfl, fo, d, needOf hs, rfl, hf15.at, hd13.same s1315, okn, fun H16 s16 => ⟨true, rfl, ?_⟩⟩
      refine iteF ?_
      have s1316 := s1315.trans s16
      refine ⟨_, rfl, _, rfl, houseData hs, houseData hs, sees_house (hu13'.same s1316), sees_house (hh13.same s1316), house_lay ok', house_lay ok', deep (house_depth hs), false, congrArg V.bl (by rw [house_eqv]; rfl), ?_⟩
      refine iteF ?_
      refine ⟨_, rfl, fo, needOf hs, H14, rfl, hf15.same s16, okn, s15.trans s16, fun H17 s17 see17 => ?_⟩
      have s1317 := s14.trans s17
      refine ⟨_, rfl, d, needOf hs, rfl, hd13.same s1317, okn, fun cu H18 s18 hc18 => ?_⟩
      refine ⟨cu, needOf hs, H17, rfl, hc18, okn, s18, fun H19 s19 see19 => ?_⟩
      refine ⟨markedData (needOf hs), markedData (needOf hs), see17.same (fun b o e _ => s19 b o e), see19, marked_lay okn, marked_lay okn, deep (marked_depth _), false, congrArg V.bl (by rw [marked_eqv]; rfl), ?_⟩
      refine iteF ?_
      have s1319 := s1317.trans s19
      refine ⟨_, rfl, _, rfl, houseData hs, houseData hs, sees_house (hu13'.same s1319), sees_house (hh13.same s1319), house_lay ok', house_lay ok', deep (house_depth hs), false, congrArg V.bl (by rw [house_eqv]; rfl), ?_⟩
      refine iteF ?_
      exact ⟨_, _, rfl, s1319⟩
end
end K7
set_option Elab.async false
set_option linter.all false
set_option maxRecDepth 100000
set_option maxHeartbeats 4000000
namespace K7
open PySem L2 PyProof.Rows
theorem all_mk {l : PySem.W.OpenLaw} {w : World} {K : PySem.W.Frag} {h : Heap} {mg : Str → Option Value} {fa f1 f2 f3 f4 f5 f6 f7 f8 f9 f10 f11 f12 f13 f14 f15 f16 f17 : Addr} (X : K.In h) (G : h.Ns mainGlobals mg) (hfa : mg "law" = some (.ref fa))
    {od1 an1 od2 an2 od3 an3 od4 an4 od5 an5 od6 an6 od7 an7 od8 an8 od9 an9 od10 an10 od11 an11 od12 an12 od13 an13 od14 an14 od15 an15 od16 an16 od17 an17 : Option Addr} {sl1 sl2 sl3 sl4 sl5 sl6 sl7 sl8 sl9 sl10 sl11 sl12 sl13 sl14 sl15 sl16 sl17 : Array (Option Value)} {oc1 kV1 dc1 pm1 cd1 ct1 oc2 kV2 dc2 pm2 cd2 ct2 oc3 kV3 dc3 pm3 cd3 ct3 oc4 kV4 dc4 pm4 cd4 ct4 oc5 kV5 dc5 pm5 cd5 ct5 oc6 kV6 dc6 pm6 cd6 ct6 oc7 kV7 dc7 pm7 cd7 ct7 oc8 kV8 dc8 pm8 cd8 ct8 oc9 kV9 dc9 pm9 cd9 ct9 oc10 kV10 dc10 pm10 cd10 ct10 oc11 kV11 dc11 pm11 cd11 ct11 oc12 kV12 dc12 pm12 cd12 ct12 oc13 kV13 dc13 pm13 cd13 ct13 oc14 kV14 dc14 pm14 cd14 ct14 oc15 kV15 dc15 pm15 cd15 ct15 oc16 kV16 dc16 pm16 cd16 ct16 oc17 kV17 dc17 pm17 cd17 ct17 : Value} {t_LETTERS t_MOST_LETTERS t_MOST_LOCKS : Tok}
    (a1 : PySem.W.nsIn K mainGlobals "is_kind" = some (some (.ref f1))) (l1 : K.lookup f1 = some ⟨oc1, od1, .func (PySem.W.fnOf "is_kind" "is_kind" (defArgs sKind) (defBody sKind) (defScope sKind) .none kV1 dc1 pm1 an1 cd1 ct1), sl1⟩) (c1 : PySem.W.codeIn K cd1 "is_kind" = true) (k1 : PySem.W.keepIn K (.ref f1) = true)
    (a2 : PySem.W.nsIn K mainGlobals "are_kinds" = some (some (.ref f2))) (l2 : K.lookup f2 = some ⟨oc2, od2, .func (PySem.W.fnOf "are_kinds" "are_kinds" (defArgs sKinds) (defBody sKinds) (defScope sKinds) .none kV2 dc2 pm2 an2 cd2 ct2), sl2⟩) (c2 : PySem.W.codeIn K cd2 "are_kinds" = true) (k2 : PySem.W.keepIn K (.ref f2) = true)
    (a3 : PySem.W.nsIn K mainGlobals "are_locks" = some (some (.ref f3))) (l3 : K.lookup f3 = some ⟨oc3, od3, .func (PySem.W.fnOf "are_locks" "are_locks" (defArgs sLocks) (defBody sLocks) (defScope sLocks) .none kV3 dc3 pm3 an3 cd3 ct3), sl3⟩) (c3 : PySem.W.codeIn K cd3 "are_locks" = true) (k3 : PySem.W.keepIn K (.ref f3) = true)
    (a4 : PySem.W.nsIn K mainGlobals "is_room" = some (some (.ref f4))) (l4 : K.lookup f4 = some ⟨oc4, od4, .func (PySem.W.fnOf "is_room" "is_room" (defArgs sRoom) (defBody sRoom) (defScope sRoom) .none kV4 dc4 pm4 an4 cd4 ct4), sl4⟩) (c4 : PySem.W.codeIn K cd4 "is_room" = true) (k4 : PySem.W.keepIn K (.ref f4) = true)
    (a5 : PySem.W.nsIn K mainGlobals "is_house" = some (some (.ref f5))) (l5 : K.lookup f5 = some ⟨oc5, od5, .func (PySem.W.fnOf "is_house" "is_house" (defArgs sHouse) (defBody sHouse) (defScope sHouse) .none kV5 dc5 pm5 an5 cd5 ct5), sl5⟩) (c5 : PySem.W.codeIn K cd5 "is_house" = true) (k5 : PySem.W.keepIn K (.ref f5) = true)
    (a6 : PySem.W.nsIn K mainGlobals "require_house" = some (some (.ref f6))) (l6 : K.lookup f6 = some ⟨oc6, od6, .func (PySem.W.fnOf "require_house" "require_house" (defArgs sReq) (defBody sReq) (defScope sReq) .none kV6 dc6 pm6 an6 cd6 ct6), sl6⟩) (c6 : PySem.W.codeIn K cd6 "require_house" = true) (k6 : PySem.W.keepIn K (.ref f6) = true)
    (a7 : PySem.W.nsIn K mainGlobals "without_needless" = some (some (.ref f7))) (l7 : K.lookup f7 = some ⟨oc7, od7, .func (PySem.W.fnOf "without_needless" "without_needless" (defArgs st_without_needless) (defBody st_without_needless) (defScope st_without_needless) .none kV7 dc7 pm7 an7 cd7 ct7), sl7⟩) (c7 : PySem.W.codeIn K cd7 "without_needless" = true) (k7 : PySem.W.keepIn K (.ref f7) = true)
    (a8 : PySem.W.nsIn K mainGlobals "_law_pool" = some (some (.ref f8))) (l8 : K.lookup f8 = some ⟨oc8, od8, .func (PySem.W.fnOf "_law_pool" "_law_pool" (defArgs sPool) (defBody sPool) (defScope sPool) .none kV8 dc8 pm8 an8 cd8 ct8), sl8⟩) (c8 : PySem.W.codeIn K cd8 "_law_pool" = true) (k8 : PySem.W.keepIn K (.ref f8) = true)
    (a9 : PySem.W.nsIn K mainGlobals "_law_take" = some (some (.ref f9))) (l9 : K.lookup f9 = some ⟨oc9, od9, .func (PySem.W.fnOf "_law_take" "_law_take" (defArgs sTake) (defBody sTake) (defScope sTake) .none kV9 dc9 pm9 an9 cd9 ct9), sl9⟩) (c9 : PySem.W.codeIn K cd9 "_law_take" = true) (k9 : PySem.W.keepIn K (.ref f9) = true)
    (a10 : PySem.W.nsIn K mainGlobals "_law_kinds" = some (some (.ref f10))) (l10 : K.lookup f10 = some ⟨oc10, od10, .func (PySem.W.fnOf "_law_kinds" "_law_kinds" (defArgs sMade) (defBody sMade) (defScope sMade) .none kV10 dc10 pm10 an10 cd10 ct10), sl10⟩) (c10 : PySem.W.codeIn K cd10 "_law_kinds" = true) (k10 : PySem.W.keepIn K (.ref f10) = true)
    (a11 : PySem.W.nsIn K mainGlobals "_law_some" = some (some (.ref f11))) (l11 : K.lookup f11 = some ⟨oc11, od11, .func (PySem.W.fnOf "_law_some" "_law_some" (defArgs sSome) (defBody sSome) (defScope sSome) .none kV11 dc11 pm11 an11 cd11 ct11), sl11⟩) (c11 : PySem.W.codeIn K cd11 "_law_some" = true) (k11 : PySem.W.keepIn K (.ref f11) = true)
    (a12 : PySem.W.nsIn K mainGlobals "_law_house" = some (some (.ref f12))) (l12 : K.lookup f12 = some ⟨oc12, od12, .func (PySem.W.fnOf "_law_house" "_law_house" (defArgs sDrawn) (defBody sDrawn) (defScope sDrawn) .none kV12 dc12 pm12 an12 cd12 ct12), sl12⟩) (c12 : PySem.W.codeIn K cd12 "_law_house" = true) (k12 : PySem.W.keepIn K (.ref f12) = true)
    (a13 : PySem.W.nsIn K mainGlobals "_law_copy" = some (some (.ref f13))) (l13 : K.lookup f13 = some ⟨oc13, od13, .func (PySem.W.fnOf "_law_copy" "_law_copy" (defArgs st__law_copy) (defBody st__law_copy) (defScope st__law_copy) .none kV13 dc13 pm13 an13 cd13 ct13), sl13⟩) (c13 : PySem.W.codeIn K cd13 "_law_copy" = true) (k13 : PySem.W.keepIn K (.ref f13) = true)
    (a14 : PySem.W.nsIn K mainGlobals "_law_due" = some (some (.ref f14))) (l14 : K.lookup f14 = some ⟨oc14, od14, .func (PySem.W.fnOf "_law_due" "_law_due" (defArgs st__law_due) (defBody st__law_due) (defScope st__law_due) .none kV14 dc14 pm14 an14 cd14 ct14), sl14⟩) (c14 : PySem.W.codeIn K cd14 "_law_due" = true) (k14 : PySem.W.keepIn K (.ref f14) = true)
    (a15 : PySem.W.nsIn K mainGlobals "_law_is_house" = some (some (.ref f15))) (l15 : K.lookup f15 = some ⟨oc15, od15, .func (PySem.W.fnOf "_law_is_house" "_law_is_house" (defArgs st__law_is_house) (defBody st__law_is_house) (defScope st__law_is_house) .none kV15 dc15 pm15 an15 cd15 ct15), sl15⟩) (c15 : PySem.W.codeIn K cd15 "_law_is_house" = true) (k15 : PySem.W.keepIn K (.ref f15) = true)
    (a16 : PySem.W.nsIn K mainGlobals "_law_marked" = some (some (.ref f16))) (l16 : K.lookup f16 = some ⟨oc16, od16, .func (PySem.W.fnOf "_law_marked" "_law_marked" (defArgs st__law_marked) (defBody st__law_marked) (defScope st__law_marked) .none kV16 dc16 pm16 an16 cd16 ct16), sl16⟩) (c16 : PySem.W.codeIn K cd16 "_law_marked" = true) (k16 : PySem.W.keepIn K (.ref f16) = true)
    (a17 : PySem.W.nsIn K mainGlobals "law" = some (some (.ref f17))) (l17 : K.lookup f17 = some ⟨oc17, od17, .func (PySem.W.fnOf "law" "law" (defArgs sLaw) (defBody sLaw) (defScope sLaw) .none kV17 dc17 pm17 an17 cd17 ct17), sl17⟩) (c17 : PySem.W.codeIn K cd17 "law" = true) (k17 : PySem.W.keepIn K (.ref f17) = true)
    (g_LETTERS : PySem.W.nsIn K mainGlobals "LETTERS" = some (some (.str lettersS t_LETTERS)))
    (g_MOST_LETTERS : PySem.W.nsIn K mainGlobals "MOST_LETTERS" = some (some (.int 4 t_MOST_LETTERS)))
    (g_MOST_LOCKS : PySem.W.nsIn K mainGlobals "MOST_LOCKS" = some (some (.int 4 t_MOST_LOCKS)))
    (z_isinstance : PySem.W.nsIn K mainGlobals "isinstance" = some none)
    (z_str : PySem.W.nsIn K mainGlobals "str" = some none)
    (z_len : PySem.W.nsIn K mainGlobals "len" = some none)
    (z_all : PySem.W.nsIn K mainGlobals "all" = some none)
    (z_list : PySem.W.nsIn K mainGlobals "list" = some none)
    (z_tuple : PySem.W.nsIn K mainGlobals "tuple" = some none)
    (z_sorted : PySem.W.nsIn K mainGlobals "sorted" = some none)
    (z_range : PySem.W.nsIn K mainGlobals "range" = some none)
    (z_min : PySem.W.nsIn K mainGlobals "min" = some none)
    (z_max : PySem.W.nsIn K mainGlobals "max" = some none)
    (z_sum : PySem.W.nsIn K mainGlobals "sum" = some none)
    (z_int : PySem.W.nsIn K mainGlobals "int" = some none)
    (z_enumerate : PySem.W.nsIn K mainGlobals "enumerate" = some none)
    : ∃ fd : FuncData, (∀ (s : Shared) (v : Value), BindsTo s fd ⟨[v], []⟩ [("script", v)]) ∧ ∀ base : Heap, K.In base → base.Ns mainGlobals mg → FnOk l.prog w K mg base CX0 8 fa fd ["script"] (spLaw K) := by
  have e := hfa.symm.trans (PySem.W.mg_of X G a17)
  cases e
  have F_is_kind := fun_mk (st := sKind) l1 c1 k1
  have c_is_kind : Cal K mg "is_kind" ["thing"] f1 _ := ⟨PySem.W.mg_of X G a1, k1, F_is_kind.binds fun _ _ _ _ _ _ us hl => match us, hl with | [_], _ => rfl⟩
  have F_are_kinds := fun_mk (st := sKinds) l2 c2 k2
  have c_are_kinds : Cal K mg "are_kinds" ["thing"] f2 _ := ⟨PySem.W.mg_of X G a2, k2, F_are_kinds.binds fun _ _ _ _ _ _ us hl => match us, hl with | [_], _ => rfl⟩
  have F_are_locks := fun_mk (st := sLocks) l3 c3 k3
  have c_are_locks : Cal K mg "are_locks" ["thing"] f3 _ := ⟨PySem.W.mg_of X G a3, k3, F_are_locks.binds fun _ _ _ _ _ _ us hl => match us, hl with | [_], _ => rfl⟩
  have F_is_room := fun_mk (st := sRoom) l4 c4 k4
  have c_is_room : Cal K mg "is_room" ["thing"] f4 _ := ⟨PySem.W.mg_of X G a4, k4, F_is_room.binds fun _ _ _ _ _ _ us hl => match us, hl with | [_], _ => rfl⟩
  have F_is_house := fun_mk (st := sHouse) l5 c5 k5
  have c_is_house : Cal K mg "is_house" ["thing"] f5 _ := ⟨PySem.W.mg_of X G a5, k5, F_is_house.binds fun _ _ _ _ _ _ us hl => match us, hl with | [_], _ => rfl⟩
  have F_require_house := fun_mk (st := sReq) l6 c6 k6
  have c_require_house : Cal K mg "require_house" ["thing"] f6 _ := ⟨PySem.W.mg_of X G a6, k6, F_require_house.binds fun _ _ _ _ _ _ us hl => match us, hl with | [_], _ => rfl⟩
  have F_without_needless := fun_mk (st := st_without_needless) l7 c7 k7
  have c_without_needless : Cal K mg "without_needless" ["house"] f7 _ := ⟨PySem.W.mg_of X G a7, k7, F_without_needless.binds fun _ _ _ _ _ _ us hl => match us, hl with | [_], _ => rfl⟩
  have F__law_pool := fun_mk (st := sPool) l8 c8 k8
  have c__law_pool : Cal K mg "_law_pool" ["script", "k"] f8 _ := ⟨PySem.W.mg_of X G a8, k8, F__law_pool.binds fun _ _ _ _ _ _ us hl => match us, hl with | [_, _], _ => rfl⟩
  have F__law_take := fun_mk (st := sTake) l9 c9 k9
  have c__law_take : Cal K mg "_law_take" ["pool", "many"] f9 _ := ⟨PySem.W.mg_of X G a9, k9, F__law_take.binds fun _ _ _ _ _ _ us hl => match us, hl with | [_, _], _ => rfl⟩
  have F__law_kinds := fun_mk (st := sMade) l10 c10 k10
  have c__law_kinds : Cal K mg "_law_kinds" ["pool", "many"] f10 _ := ⟨PySem.W.mg_of X G a10, k10, F__law_kinds.binds fun _ _ _ _ _ _ us hl => match us, hl with | [_, _], _ => rfl⟩
  have F__law_some := fun_mk (st := sSome) l11 c11 k11
  have c__law_some : Cal K mg "_law_some" ["pool", "kinds", "many"] f11 _ := ⟨PySem.W.mg_of X G a11, k11, F__law_some.binds fun _ _ _ _ _ _ us hl => match us, hl with | [_, _, _], _ => rfl⟩
  have F__law_house := fun_mk (st := sDrawn) l12 c12 k12
  have c__law_house : Cal K mg "_law_house" ["pool", "most"] f12 _ := ⟨PySem.W.mg_of X G a12, k12, F__law_house.binds fun _ _ _ _ _ _ us hl => match us, hl with | [_, _], _ => rfl⟩
  have F__law_copy := fun_mk (st := st__law_copy) l13 c13 k13
  have c__law_copy : Cal K mg "_law_copy" ["house"] f13 _ := ⟨PySem.W.mg_of X G a13, k13, F__law_copy.binds fun _ _ _ _ _ _ us hl => match us, hl with | [_], _ => rfl⟩
  have F__law_due := fun_mk (st := st__law_due) l14 c14 k14
  have c__law_due : Cal K mg "_law_due" ["house"] f14 _ := ⟨PySem.W.mg_of X G a14, k14, F__law_due.binds fun _ _ _ _ _ _ us hl => match us, hl with | [_], _ => rfl⟩
  have F__law_is_house := fun_mk (st := st__law_is_house) l15 c15 k15
  have c__law_is_house : Cal K mg "_law_is_house" ["found", "due"] f15 _ := ⟨PySem.W.mg_of X G a15, k15, F__law_is_house.binds fun _ _ _ _ _ _ us hl => match us, hl with | [_, _], _ => rfl⟩
  have F__law_marked := fun_mk (st := st__law_marked) l16 c16 k16
  have c__law_marked : Cal K mg "_law_marked" ["house"] f16 _ := ⟨PySem.W.mg_of X G a16, k16, F__law_marked.binds fun _ _ _ _ _ _ us hl => match us, hl with | [_], _ => rfl⟩
  have F_law := fun_mk (st := sLaw) l17 c17 k17
  have hg_LETTERS := PySem.W.mg_of X G g_LETTERS
  have hg_MOST_LETTERS := PySem.W.mg_of X G g_MOST_LETTERS
  have hg_MOST_LOCKS := PySem.W.mg_of X G g_MOST_LOCKS
  have m_isinstance := PySem.W.mg_none_of X G z_isinstance
  have m_str := PySem.W.mg_none_of X G z_str
  have m_len := PySem.W.mg_none_of X G z_len
  have m_all := PySem.W.mg_none_of X G z_all
  have m_list := PySem.W.mg_none_of X G z_list
  have m_tuple := PySem.W.mg_none_of X G z_tuple
  have m_sorted := PySem.W.mg_none_of X G z_sorted
  have m_range := PySem.W.mg_none_of X G z_range
  have m_min := PySem.W.mg_none_of X G z_min
  have m_max := PySem.W.mg_none_of X G z_max
  have m_sum := PySem.W.mg_none_of X G z_sum
  have m_int := PySem.W.mg_none_of X G z_int
  have m_enumerate := PySem.W.mg_none_of X G z_enumerate
  refine ⟨PySem.W.fnOf "law" "law" (defArgs sLaw) (defBody sLaw) (defScope sLaw) .none kV17 dc17 pm17 an17 cd17 ct17, fun s v => .of_eq rfl, fun base _ _ => ?_⟩
  have Gl : Glb mg := ⟨m_isinstance, m_str, m_len, m_all, ⟨_, hg_LETTERS⟩, ⟨_, hg_MOST_LETTERS⟩⟩
  have GT : FnOk l.prog w K mg base CX0 1 _ _ ["pool", "many"] spTake := ok_take F__law_take
  have GS : FnOk l.prog w K mg base CX0 2 _ _ ["pool", "kinds", "many"] spSome := ok_some F__law_some F__law_take c__law_take m_range m_len
  have GP : FnOk l.prog w K mg base CX0 1 _ _ ["script", "k"] (spPool K) := ok_pool F__law_pool m_len
  have GK : FnOk l.prog w K mg base CX0 2 _ _ ["thing"] spKinds := ok_kinds F_are_kinds F_is_kind c_is_kind Gl m_list
  have GL : FnOk l.prog w K mg base CX0 3 _ _ ["thing"] spLocks := ok_locks F_are_locks GK c_are_kinds m_len m_sorted ⟨_, hg_MOST_LOCKS⟩
  have GR : FnOk l.prog w K mg base CX0 4 _ _ ["thing"] spRoom := ok_room F_is_room GL c_are_locks GK c_are_kinds m_isinstance m_len m_tuple
  have GH : FnOk l.prog w K mg base CX0 5 _ _ ["thing"] spHouse := ok_house F_is_house GR c_is_room GK c_are_kinds m_isinstance m_len m_tuple m_list m_all
  have GQ : FnOk l.prog w K mg base CX0 6 _ _ ["thing"] spReq := ok_req F_require_house GH c_is_house
  have GM : FnOk l.prog w K mg base CX0 2 _ _ ["pool", "many"] spMade := ok_made F__law_kinds GT c__law_take m_range m_len
  have GD : FnOk l.prog w K mg base CX0 3 _ _ ["pool", "most"] spDrawn := ok_drawn F__law_house GT c__law_take GM c__law_kinds GS c__law_some m_range m_len m_min m_sorted m_sum
  have GY : FnOk l.prog w K mg base CX0 1 _ _ ["house"] spCopyF := ok_copyF F__law_copy m_list
  have GW : FnOk l.prog w K mg base CX0 7 _ _ ["house"] spWithout := ok_without F_without_needless GQ c_require_house m_list
  have GU : FnOk l.prog w K mg base CX0 1 _ _ ["house"] spDue44 := ok_due44 F__law_due m_list
  have GI : FnOk l.prog w K mg base CX0 1 _ _ ["found", "due"] spIsHouse := ok_isHouse F__law_is_house m_isinstance m_list m_tuple
  have GA : FnOk l.prog w K mg base CX0 1 _ _ ["house"] spMarked := ok_marked F__law_marked m_enumerate
  exact ok_law F_law GP c__law_pool GD c__law_house GT c__law_take GU c__law_due GY c__law_copy GW c_without_needless GI c__law_is_house GA c__law_marked m_range m_len m_min m_max m_int m_enumerate
theorem walk {l : PySem.W.OpenLaw} {q : Program} {loose : List Str} {XP : (Str → Option Value) → Heap → Prop} {YP : World → Heap → Prop} {d : DefRec} {K : Params → PySem.W.Frag} (hn : l.most = some 63) (hdf : d.params.defaults = [])
    (hY : ∀ (w : World) (h : Heap), YP w h → (K w.params).In h)
    (F : ∀ (w : World) (mg : Str → Option Value) (fa : Addr) (h : Heap), (K w.params).In h → h.Ns mainGlobals mg → mg d.name = some (.ref fa) →
      ∃ fd : FuncData, (∀ (s : Shared) (u : Value), BindsTo s fd ⟨[u], []⟩ [("script", u)]) ∧ ∀ base : Heap, (K w.params).In base → base.Ns mainGlobals mg → FnOk l.prog w (K w.params) mg base CX0 8 fa fd ["script"] (spLaw (K w.params))) :
    PySem.W.WalkO q loose XP YP l.row.toRowW d [] (fun f vs => PySem.call f vs) :=
  L2.walk_of (n := 63) (k := 8) (x := "script") (CX := fun _ => CX0) (sp := fun w => spLaw (K w.params)) hn (by decide) hdf ⟨rfl, by decide, by decide⟩ hY F (fun _ _ a ns hl _ hS => ⟨a, ns, rfl, hS, hl, fun _ => rfl⟩) fun _ _ _ _ _ z => z
end K7
open PySem PySem.W PyProof.Rows
set_option maxRecDepth 100000 in
set_option maxHeartbeats 0 in
theorem PySem.Challenge.cw_keyrooms_k44_without_needless_keys_holds : PySem.Challenge.rw_keyrooms_k44_without_needless_keys.Holds := by
  w_on; o_law; k_head; (case hw => w_witness2)
  k_fill
  refine K7.walk (l := PySem.Challenge.rw_keyrooms_k44_without_needless_keys) rfl rfl (fun w h Y => PySem.W.kIn_of Y) ?F
  case F =>
    intro w mg fa h KX G hmg
    refine' K7.all_mk KX G hmg ?a1 ?l1 ?c1 ?k1 ?a2 ?l2 ?c2 ?k2 ?a3 ?l3 ?c3 ?k3 ?a4 ?l4 ?c4 ?k4 ?a5 ?l5 ?c5 ?k5 ?a6 ?l6 ?c6 ?k6 ?a7 ?l7 ?c7 ?k7 ?a8 ?l8 ?c8 ?k8 ?a9 ?l9 ?c9 ?k9 ?a10 ?l10 ?c10 ?k10 ?a11 ?l11 ?c11 ?k11 ?a12 ?l12 ?c12 ?k12 ?a13 ?l13 ?c13 ?k13 ?a14 ?l14 ?c14 ?k14 ?a15 ?l15 ?c15 ?k15 ?a16 ?l16 ?c16 ?k16 ?a17 ?l17 ?c17 ?k17 ?g_LETTERS ?g_MOST_LETTERS ?g_MOST_LOCKS ?z_isinstance ?z_str ?z_len ?z_all ?z_list ?z_tuple ?z_sorted ?z_range ?z_min ?z_max ?z_sum ?z_int ?z_enumerate
    (case a1 => k_is)
    (case l1 => k_is)
    (case c1 => k_is)
    (case k1 => k_is)
    (case a2 => k_is)
    (case l2 => k_is)
    (case c2 => k_is)
    (case k2 => k_is)
    (case a3 => k_is)
    (case l3 => k_is)
    (case c3 => k_is)
    (case k3 => k_is)
    (case a4 => k_is)
    (case l4 => k_is)
    (case c4 => k_is)
    (case k4 => k_is)
    (case a5 => k_is)
    (case l5 => k_is)
    (case c5 => k_is)
    (case k5 => k_is)
    (case a6 => k_is)
    (case l6 => k_is)
    (case c6 => k_is)
    (case k6 => k_is)
    (case a7 => k_is)
    (case l7 => k_is)
    (case c7 => k_is)
    (case k7 => k_is)
    (case a8 => k_is)
    (case l8 => k_is)
    (case c8 => k_is)
    (case k8 => k_is)
    (case a9 => k_is)
    (case l9 => k_is)
    (case c9 => k_is)
    (case k9 => k_is)
    (case a10 => k_is)
    (case l10 => k_is)
    (case c10 => k_is)
    (case k10 => k_is)
    (case a11 => k_is)
    (case l11 => k_is)
    (case c11 => k_is)
    (case k11 => k_is)
    (case a12 => k_is)
    (case l12 => k_is)
    (case c12 => k_is)
    (case k12 => k_is)
    (case a13 => k_is)
    (case l13 => k_is)
    (case c13 => k_is)
    (case k13 => k_is)
    (case a14 => k_is)
    (case l14 => k_is)
    (case c14 => k_is)
    (case k14 => k_is)
    (case a15 => k_is)
    (case l15 => k_is)
    (case c15 => k_is)
    (case k15 => k_is)
    (case a16 => k_is)
    (case l16 => k_is)
    (case c16 => k_is)
    (case k16 => k_is)
    (case a17 => k_is)
    (case l17 => k_is)
    (case c17 => k_is)
    (case k17 => k_is)
    (case g_LETTERS => k_is)
    (case g_MOST_LETTERS => k_is)
    (case g_MOST_LOCKS => k_is)
    (case z_isinstance => k_is)
    (case z_str => k_is)
    (case z_len => k_is)
    (case z_all => k_is)
    (case z_list => k_is)
    (case z_tuple => k_is)
    (case z_sorted => k_is)
    (case z_range => k_is)
    (case z_min => k_is)
    (case z_max => k_is)
    (case z_sum => k_is)
    (case z_int => k_is)
    (case z_enumerate => k_is)
