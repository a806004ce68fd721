import PyProof.Rows.All
import Wide.All
import OpenK.AllK
import Wide.FinOn
import Lean
import PyProof.EqAt
import PyProof.EqKinds
import PyProof.TupleCall
import PyProof.Rows.SetFrom
import KE.KSortTup
import PyProof.Draws
import PyProof.EnumMake
import PyProof.ListRange
import PyProof.Rows.EnumRows
import PyProof.SetRoads
import PyProof.Rows.MinMaxN
import PyProof.Rows.MaxTwoN
import KE.LcSums
import PySem.Challenge.RW_ringtrade_k37_parts_mixed
section
set_option Elab.async false
set_option linter.all false
set_option maxRecDepth 100000
namespace L2
open PySem PySem.Spec PyProof.Rows
noncomputable abbrev Key := Sum Int Str
noncomputable def keyIs : Key → Value → Bool
  | .inl k, v => Value.isInt k v
  | .inr x, v => Value.isStrOf x v
noncomputable def keyH (w : World) : Key → Int
  | .inl k => hashInt k
  | .inr x => hashStr w x
theorem keyIs_shape : ∀ {k : Key} {v : Value}, keyIs k v = true → (∃ i t, k = Sum.inl i ∧ v = Value.int i t) ∨ (∃ x t, k = Sum.inr x ∧ v = Value.str x t)
  | .inl i, v, h => by
    obtain ⟨t, e⟩ := Value.isInt_shape (k := i) (v := v) h
    exact .inl ⟨i, t, rfl, e⟩
  | .inr x, v, h => by
    obtain ⟨t, e⟩ := Value.isStrOf_shape (x := x) (v := v) h
    exact .inr ⟨x, t, rfl, e⟩
theorem keyIs_int (i : Int) (t : Tok) : keyIs (.inl i) (.int i t) = true := by simp [keyIs, Value.isInt]
theorem keyIs_str (x : Str) (t : Tok) : keyIs (.inr x) (.str x t) = true := by simp [keyIs, Value.isStrOf]
theorem key_ll (a b : Int) : decide ((Sum.inl a : Key) = Sum.inl b) = (a == b) := by
  by_cases e : a = b
  · subst e; simp
  · have h : ¬ (Sum.inl a : Key) = Sum.inl b := fun q => e (Sum.inl.inj q)
    rw [decide_eq_false h]
    exact (beq_eq_false_iff_ne.mpr e).symm
theorem key_rr (a b : Str) : decide ((Sum.inr a : Key) = Sum.inr b) = decide (a = b) := by
  by_cases e : a = b
  · subst e; simp
  · have h : ¬ (Sum.inr a : Key) = Sum.inr b := fun q => e (Sum.inr.inj q)
    rw [decide_eq_false h, decide_eq_false e]
theorem key_lr (a : Int) (b : Str) : decide ((Sum.inl a : Key) = Sum.inr b) = false := decide_eq_false (fun q => nomatch q)
theorem key_rl (a : Str) (b : Int) : decide ((Sum.inr a : Key) = Sum.inl b) = false := decide_eq_false (fun q => nomatch q)
noncomputable def mixKind (prog : Program) (w : World) : PySem.KeyKind prog w Key where
  is := keyIs
  hash := keyH w
  inj := fun v a b ha hb => by
    rcases keyIs_shape ha with ⟨i, t, rfl, rfl⟩ | ⟨x, t, rfl, rfl⟩
    · rcases keyIs_shape hb with ⟨j, u, rfl, e⟩ | ⟨y, u, rfl, e⟩
      · injection e with e1 _; rw [e1]
      · exact nomatch e
    · rcases keyIs_shape hb with ⟨j, u, rfl, e⟩ | ⟨y, u, rfl, e⟩
      · exact nomatch e
      · injection e with e1 _; rw [e1]
  byValue := fun k v h => by
    rcases keyIs_shape h with ⟨i, t, rfl, rfl⟩ | ⟨x, t, rfl, rfl⟩ <;> rfl
  pyHash := fun hv h => by
    rcases keyIs_shape hv with ⟨i, t, rfl, rfl⟩ | ⟨x, t, rfl, rfl⟩
    · exact wpAny_pyHash_int h
    · exact wpAny_pyHash_str h
  eqBool := fun hu hv h => by
    rcases keyIs_shape hu with ⟨i, t, rfl, rfl⟩ | ⟨x, t, rfl, rfl⟩
    · rcases keyIs_shape hv with ⟨j, u, rfl, rfl⟩ | ⟨y, u, rfl, rfl⟩
      · rw [key_ll] at h; exact wpAny_eqBool_int h
      · rw [key_lr] at h; exact SeqAt.EqAt.int_str i t y u _ _ _ _ h
    · rcases keyIs_shape hv with ⟨j, u, rfl, rfl⟩ | ⟨y, u, rfl, rfl⟩
      · rw [key_rl] at h; exact SeqAt.EqAt.str_int x t j u _ _ _ _ h
      · rw [key_rr] at h; exact wpAny_eqBool_str h
  «strs» := fun k x t v h => by
    rcases keyIs_shape h with ⟨i, u, rfl, e⟩ | ⟨y, u, rfl, e⟩
    · exact nomatch e
    · injection e with e1 _
      subst e1
      cases v <;> rfl
theorem mixKind_int (prog : Program) (w : World) (i : Int) (t : Tok) : (mixKind prog w).is (.inl i) (.int i t) = true := keyIs_int i t
theorem mixKind_str (prog : Program) (w : World) (x : Str) (t : Tok) : (mixKind prog w).is (.inr x) (.str x t) = true := keyIs_str x t
end L2
namespace L2
open PySem PySem.Spec PyProof.Rows
inductive V where
  | non | bl (b : Bool) | int (i : Int) | str (x : Str) | byt (b : Array UInt8) | flt (b : UInt64) | ref (a : Addr) | ty (n : String)
  deriving DecidableEq
noncomputable def RelV : V → Value → Prop
  | .non, u => u = Value.none
  | .bl b, u => u = Value.bool b
  | .int i, u => ∃ t, u = Value.int i t
  | .str x, u => ∃ t, u = Value.str x t
  | .byt b, u => ∃ t, u = Value.bytes b t
  | .flt b, u => ∃ t, u = Value.float b t
  | .ref a, u => u = Value.ref a
  | .ty n, u => u = Value.type n
noncomputable abbrev Vals : List V → List Value → Prop := Paired RelV
theorem Vals.length {xs : List V} {us : List Value} (r : Vals xs us) : xs.length = us.length := Paired.length r
theorem Vals.get : ∀ {xs : List V} {us : List Value} {i : Nat} {x : V}, Vals xs us → xs[i]? = some x → ∃ u, us[i]? = some u ∧ RelV x u
  | _, _, _, _, .nil, e => by simp at e
  | _, _, 0, _, .cons r _, e => by simp at e; subst e; exact ⟨_, rfl, r⟩
  | _, _, i + 1, x, .cons _ t, e => by
    obtain ⟨u, h1, h2⟩ := Vals.get (i := i) (x := x) t (by simpa using e)
    exact ⟨u, by simpa using h1, h2⟩
theorem Vals.set {x : V} {u : Value} (r : RelV x u) : ∀ {xs : List V} {us : List Value} (i : Nat), Vals xs us → Vals (xs.set i x) (us.set i u)
  | _, _, _, .nil => .nil
  | _, _, 0, .cons _ t => .cons r t
  | _, _, i + 1, .cons q t => .cons q (Vals.set r i t)
theorem Vals.append : ∀ {xs ys : List V} {us ws : List Value}, Vals xs us → Vals ys ws → Vals (xs ++ ys) (us ++ ws)
  | _, _, _, _, .nil, s => s
  | _, _, _, _, .cons r t, s => .cons r (Vals.append t s)
theorem Vals.take : ∀ {xs : List V} {us : List Value} (n : Nat), Vals xs us → Vals (xs.take n) (us.take n)
  | _, _, 0, _ => .nil
  | _, _, _ + 1, .nil => .nil
  | _, _, n + 1, .cons r t => .cons r (Vals.take n t)
theorem Vals.drop : ∀ {xs : List V} {us : List Value} (n : Nat), Vals xs us → Vals (xs.drop n) (us.drop n)
  | _, _, 0, r => r
  | _, _, _ + 1, .nil => .nil
  | _, _, n + 1, .cons _ t => Vals.drop n t
theorem Vals.none_of : ∀ {xs : List V} {us : List Value} {i : Nat}, Vals xs us → xs[i]? = none → us[i]? = none := fun {xs us i} r e => by
  have h1 := r.length
  have h2 : xs.length ≤ i := List.getElem?_eq_none_iff.mp e
  exact List.getElem?_eq_none_iff.mpr (by omega)
noncomputable def RelO : Option V → Option Value → Prop
  | some v, some u => RelV v u
  | none, none => True
  | _, _ => False
noncomputable def KV {κ : Type} : List (κ × V) → List (κ × Value) → Prop := Paired fun (p : κ × V) (q : κ × Value) => p.1 = q.1 ∧ RelV p.2 q.2
noncomputable def kV : Key → V
  | .inl i => .int i
  | .inr x => .str x
inductive HO where
  | lst (xs : List V)
  | tup (xs : List V)
  | dK (kvs : List (Key × V)) | dT (kvs : List (List Key × V))
  | set (S : Int → Bool) (n : Nat)
  | ins (C dx : Addr) (fs : List (Str × V))
  | own (x : Addr)
  | xd (fs : List (Str × V))
  | met (f x : Addr)
  | rng (lo hi : Int)
  | frz (o : Obj) (u : HO)
  | tbl (ps : Array Value)
  | ext (φ : Heap → Prop)
noncomputable abbrev Hp := Addr → Option HO
noncomputable def upd (H : Hp) (a : Addr) (o : HO) : Hp := fun b => if b = a then some o else H b
theorem upd_same {H : Hp} {a : Addr} {o : HO} : upd H a o a = some o := by unfold upd; rw [if_pos rfl]
theorem upd_ne {H : Hp} {a b : Addr} {o : HO} (h : b ≠ a) : upd H a o b = H b := by unfold upd; rw [if_neg h]
theorem ne_of {H : Hp} {a b : Addr} {o u : HO} (h : H a = some o) (h' : H b = some u) (d : o ≠ u) : a ≠ b := by
  intro e; subst e; rw [h] at h'; exact d (Option.some.inj h')
theorem ne_of_none {H : Hp} {a b : Addr} {o : HO} (h : H a = some o) (h' : H b = none) : a ≠ b := by
  intro e; subst e; rw [h] at h'; cases h'
section
variable (P : Program) (w : World)
noncomputable def ObjOk (H : Hp) (h : Heap) (a : Addr) : HO → Prop
  | .lst xs => xs.length ≤ sizeLine ∧ ∃ (its : List Value) (n : Nat), Vals xs its ∧ h.get? a = some { cls := .type "list", data := .seq its.toArray n }
  | .tup xs => xs.length ≤ sizeLine ∧ ∃ its : List Value, Vals xs its ∧ IsTup h a its.toArray ∧ ∃ o, h.get? a = some o ∧ o.dict = none
  | .dK kvs => kvs.length ≤ sizeLine ∧ (a == sysModules) = false ∧ ∃ vs, KV kvs vs ∧ h.DictOf (mixKind P w) a vs
  | .dT kvs => kvs.length ≤ sizeLine ∧ (a == sysModules) = false ∧ ∃ xs : List (List Key × Addr × Value),
      Paired (fun (p : List Key × V) (q : List Key × Addr × Value) => p.1 = q.1 ∧ H q.2.1 = some (.tup (p.1.map kV)) ∧ RelV p.2 q.2.2) kvs xs ∧
      ∃ o es ep, h.get? a = some o ∧ o.ExactDict ∧ o.data = .dict es ep ∧ es.toList = xs.map (entryOfKey (tupleKind (mixKind P w))) ∧ (xs.map (·.1)).Nodup
  | .set S n => h.SetOf (intKind P w) a S n
  | .ins C dx fs => H dx = some (.own a) ∧ fs.length ≤ 1000 ∧ dx ≠ a ∧ h.get? a = some (PySem.W.instObj C dx) ∧
      ∃ mA, h.Ns1 dx mA ∧ (∀ f, RelO (fs.lookup f) (mA f)) ∧ PySem.Within mA (fs.map (·.1))
  | .own _ => ∃ o, h.get? a = some o
  | .xd fs => ∃ mA, h.Ns1 a mA ∧ ∀ f, RelO (fs.lookup f) (mA f)
  | .rng lo hi => ∃ t u v, h.get? a = some { cls := .type "range", data := .fields #[.int lo t, .int hi u, .int 1 v] }
  | .frz o u => h.get? a = some o ∧ ObjOk H h a u
  | .tbl ps => h.get? a = some { cls := .none, data := .fields ps }
  | .met f x => h.get? a = some (PySem.W.methodObj (.ref f) (.ref x))
  | .ext φ => φ h ∧ (∃ o, h.get? a = some o) ∧ ∀ h1 h2 : Heap, φ h1 → (∀ o, h1.get? a = some o → h2.get? a = some o) → φ h2
noncomputable def HOk (H : Hp) (h : Heap) : Prop := ∀ a o, H a = some o → ObjOk P w H h a o
end
section
variable {P : Program} {w : World} {H H' : Hp} {h h' : Heap} {a : Addr} {o : HO}
theorem ObjOk.lt (x : ObjOk P w H h a o) : a < h.objs.size := by
  cases o with
  | lst xs => obtain ⟨_, _, _, _, e⟩ := x; exact Heap.lt_size e
  | tup xs => obtain ⟨_, _, _, p, _⟩ := x; exact p.lt
  | dK kvs => obtain ⟨_, _, _, _, o, _, _, e, _⟩ := x; exact Heap.lt_size e
  | dT kvs => obtain ⟨_, _, _, _, o, _, _, e, _⟩ := x; exact Heap.lt_size e
  | set S n => obtain ⟨o, _, _, _, e, _⟩ := x; exact Heap.lt_size e
  | ins C dx fs => obtain ⟨_, _, _, e, _⟩ := x; exact Heap.lt_size e
  | own y => obtain ⟨_, e⟩ := x; exact Heap.lt_size e
  | xd fs => obtain ⟨_, ⟨_, _, _, e, _⟩, _⟩ := x; exact Heap.lt_size e
  | rng lo hi => obtain ⟨_, _, _, e⟩ := x; exact Heap.lt_size e
  | frz ob u => obtain ⟨e, _⟩ := x; exact Heap.lt_size e
  | tbl ps => exact Heap.lt_size (show h.get? a = some _ from x)
  | met f y => exact Heap.lt_size (show h.get? a = some _ from x)
  | ext φ => obtain ⟨_, ⟨_, e⟩, _⟩ := x; exact Heap.lt_size e
theorem Paired.mapP {α β : Type} {F G : α → β → Prop} : ∀ {l₁ : List α} {l₂ : List β}, Paired F l₁ l₂ → (∀ a b, F a b → G a b) → Paired G l₁ l₂
  | _, _, .nil, _ => .nil
  | _, _, .cons r t, f => .cons (f _ _ r) (Paired.mapP t f)
theorem ObjOk.stay (x : ObjOk P w H h a o) (k : ∀ b u, (b = a ∨ H b = some (.own a)) → h.get? b = some u → h'.get? b = some u)
    (ho : ∀ b, H b = some (.own a) → H' b = some (.own a)) (ht : ∀ b xs, H b = some (.tup xs) → H' b = some (.tup xs)) : ObjOk P w H' h' a o := by
  induction o with
  | lst xs => obtain ⟨z, its, n, r, e⟩ := x; exact ⟨z, its, n, r, k _ _ (.inl rfl) e⟩
  | tup xs => obtain ⟨z, its, r, ⟨ob, e, c⟩, ob2, e2, c2⟩ := x; exact ⟨z, its, r, ⟨ob, k _ _ (.inl rfl) e, c⟩, ob2, k _ _ (.inl rfl) e2, c2⟩
  | dK kvs => obtain ⟨z, y, vs, r, ob, es, ep, e, c⟩ := x; exact ⟨z, y, vs, r, ob, es, ep, k _ _ (.inl rfl) e, c⟩
  | dT kvs =>
    obtain ⟨z, y, xs, r, ob, es, ep, e, c⟩ := x
    exact ⟨z, y, xs, Paired.mapP r fun p q z => ⟨z.1, ht _ _ z.2.1, z.2.2⟩, ob, es, ep, k _ _ (.inl rfl) e, c⟩
  | set S n => obtain ⟨ob, es, ep, t, e, c⟩ := x; exact ⟨ob, es, ep, t, k _ _ (.inl rfl) e, c⟩
  | ins C dx fs =>
    obtain ⟨d, z, ne, e, mA, ⟨od, es, ep, e2, c⟩, r⟩ := x
    exact ⟨ho _ d, z, ne, k _ _ (.inl rfl) e, mA, ⟨od, es, ep, k _ _ (.inr d) e2, c⟩, r⟩
  | own y => obtain ⟨ob, e⟩ := x; exact ⟨ob, k _ _ (.inl rfl) e⟩
  | xd fs => obtain ⟨mA, ⟨od, es, ep, e, c⟩, r⟩ := x; exact ⟨mA, ⟨od, es, ep, k _ _ (.inl rfl) e, c⟩, r⟩
  | rng lo hi => obtain ⟨t, u, v, e⟩ := x; exact ⟨t, u, v, k _ _ (.inl rfl) e⟩
  | frz ob u ih => obtain ⟨e, q⟩ := x; exact ⟨k _ _ (.inl rfl) e, ih q⟩
  | tbl ps =>
    have e : h.get? a = some { cls := .none, data := .fields ps } := x
    show h'.get? a = some { cls := .none, data := .fields ps }
    exact k a _ (.inl rfl) e
  | met f y =>
    have e : h.get? a = some (PySem.W.methodObj (.ref f) (.ref y)) := x
    show h'.get? a = some (PySem.W.methodObj (.ref f) (.ref y))
    exact k a _ (.inl rfl) e
  | ext φ => obtain ⟨p, ⟨o, e⟩, st⟩ := x; exact ⟨st _ _ p fun o q => k _ _ (.inl rfl) q, ⟨o, k _ _ (.inl rfl) e⟩, st⟩
theorem HOk.lt (x : HOk P w H h) (e : H a = some o) : a < h.objs.size := (x a o e).lt
theorem HOk.fresh (x : HOk P w H h) (e : h.objs.size ≤ a) : H a = none := by
  cases q : H a with
  | none => rfl
  | some u => exact absurd (Nat.lt_of_lt_of_le (x.lt q) e) (Nat.lt_irrefl _)
theorem HOk.kept (x : HOk P w H h) (k : ∀ b u, h.get? b = some u → h'.get? b = some u) : HOk P w H h' := fun a o e =>
  (x a o e).stay (fun b u _ q => k b u q) (fun _ q => q) fun _ _ q => q
theorem HOk.laid (x : HOk P w H h) (k : ∀ b u, h.get? b = some u → h'.get? b = some u) (hp : h.objs.size ≤ a) (new : ObjOk P w (upd H a o) h' a o) : HOk P w (upd H a o) h' := fun b u e => by
  have hn := x.fresh hp
  by_cases hb : b = a
  · subst hb; rw [upd_same] at e; cases e; exact new
  · rw [upd_ne hb] at e
    exact (x b u e).stay (fun c v _ q => k c v q) (fun c q => by rw [upd_ne (ne_of_none q hn)]; exact q) fun c xs q => by rw [upd_ne (ne_of_none q hn)]; exact q
end
noncomputable def Rd (H : Hp) (a : Addr) (u : HO) : Prop := H a = some u ∨ ∃ o, H a = some (.frz o u)
theorem Rd.of {H : Hp} {a : Addr} {u : HO} (h : H a = some u) : Rd H a u := .inl h
theorem Rd.ok {P : Program} {w : World} {H : Hp} {h : Heap} {a : Addr} {u : HO} (r : Rd H a u) (x : HOk P w H h) : ObjOk P w H h a u := by
  rcases r with r | ⟨o, r⟩
  · exact x a u r
  · obtain ⟨_, q⟩ := x a _ r
    exact q
noncomputable def Mut : Option HO → Prop
  | some (.lst _) => True
  | some (.dK _) => True
  | some (.dT _) => True
  | some (.set _ _) => True
  | some (.ins _ _ _) => True
  | some (.ext _) => True
  | _ => False
section
variable {P : Program} {w : World} {H : Hp} {h h' : Heap} {x e : Addr} {o' : HO}
theorem HOk.write (ok : HOk P w H h) (mu : Mut (H x)) (he : e = x ∨ H e = some (.own x)) (k : ∀ b u, b ≠ e → h.get? b = some u → h'.get? b = some u) (heo : ∃ u, h'.get? e = some u)
    (new : ObjOk P w (upd H x o') h' x o') : HOk P w (upd H x o') h' := fun b u q => by
  have nown : ∀ c y, H c = some (.own y) → c ≠ x := fun c y r z => by subst z; rw [r] at mu; exact mu
  have ntup : ∀ c xs, H c = some (.tup xs) → c ≠ x := fun c xs r z => by subst z; rw [r] at mu; exact mu
  by_cases hb : b = x
  · subst hb; rw [upd_same] at q; cases q; exact new
  · rw [upd_ne hb] at q
    by_cases hbe : b = e
    · have q' : H b = some (.own x) := by
        rcases he with z | z
        · exact absurd (hbe.trans z) hb
        · rw [hbe]; exact z
      rw [q] at q'; cases q'
      obtain ⟨v, hv⟩ := heo
      exact ⟨v, by rw [hbe]; exact hv⟩
    · refine (ok b u q).stay (fun c v hc r => k c v ?_ r) (fun c r => by rw [upd_ne (nown c b r)]; exact r) fun c xs r => by rw [upd_ne (ntup c xs r)]; exact r
      rcases hc with rfl | hc
      · exact hbe
      · rintro rfl
        rcases he with z | z
        · exact nown c b hc z
        · rw [hc] at z; cases z; exact hb rfl
end
structure Un (fs ex : List Addr) (H H' : Hp) (h h' : Heap) : Prop where
  keep : ∀ b o, h.get? b = some o → H b = none → b ∉ fs → b ∉ ex → h'.get? b = some o
  slot : ∀ b o, h.get? b = some o → H b = none → b ∈ fs → b ∉ ex → ∃ sl, h'.get? b = some { o with slots := sl }
  free : ∀ b o, h.get? b = some o → H b = none → b ∉ ex → H' b = none
  there : ∀ b o, h.get? b = some o → b ∉ ex → ∃ o', h'.get? b = some o'
  tups : ∀ b xs, H b = some (.tup xs) → H' b = some (.tup xs)
  frzs : ∀ b o u, H b = some (.frz o u) → H' b = some (.frz o u)
  tbls : ∀ b ps, H b = some (.tbl ps) → ∃ more, H' b = some (.tbl (ps ++ more))
section
variable {fs fs' ex ex' : List Addr} {H H1 H2 : Hp} {h h1 h2 h' : Heap} {a x e : Addr} {o : HO}
theorem Un.any (u : Un fs ex H H1 h h1) {b : Addr} {ob : Obj} (q : h.get? b = some ob) (n : H b = none) (hx : b ∉ ex) : ∃ sl, h1.get? b = some { ob with slots := sl } := by
  by_cases hb : b ∈ fs
  · exact u.slot b ob q n hb hx
  · exact ⟨ob.slots, u.keep b ob q n hb hx⟩
theorem Un.trans (a : Un fs ex H H1 h h1) (b : Un fs ex H1 H2 h1 h2) : Un fs ex H H2 h h2 where
  keep := fun c ob q n hc hx => b.keep c ob (a.keep c ob q n hc hx) (a.free c ob q n hx) hc hx
  slot := fun c ob q n hc hx => by
    obtain ⟨sl, e1⟩ := a.slot c ob q n hc hx
    obtain ⟨sl', e2⟩ := b.slot c _ e1 (a.free c ob q n hx) hc hx
    exact ⟨sl', e2⟩
  free := fun c ob q n hx => by
    obtain ⟨o', e1⟩ := a.there c ob q hx
    exact b.free c o' e1 (a.free c ob q n hx) hx
  there := fun c ob q hx => by
    obtain ⟨o', e1⟩ := a.there c ob q hx
    exact b.there c o' e1 hx
  tups := fun c xs q => b.tups c xs (a.tups c xs q)
  frzs := fun c ob xs q => b.frzs c ob xs (a.frzs c ob xs q)
  tbls := fun c ps q => by
    obtain ⟨m1, e1⟩ := a.tbls c ps q
    obtain ⟨m2, e2⟩ := b.tbls c _ e1
    exact ⟨m1 ++ m2, by rw [e2, Array.append_assoc]⟩
theorem Un.kept (k : ∀ b u, h.get? b = some u → h'.get? b = some u) : Un fs ex H H h h' :=
  ⟨fun b ob q _ _ _ => k b ob q, fun b ob q _ _ _ => ⟨ob.slots, k b ob q⟩, fun _ _ _ n _ => n, fun b ob q _ => ⟨ob, k b ob q⟩, fun _ _ q => q, fun _ _ _ q => q, fun _ ps q => ⟨#[], by rw [q]; simp⟩⟩
theorem Un.refl : Un fs ex H H h h := Un.kept fun _ _ q => q
theorem Un.laid (k : ∀ b u, h.get? b = some u → h'.get? b = some u) (hp : h.objs.size ≤ a) (hn : H a = none) : Un fs ex H (upd H a o) h h' where
  keep := fun b u q _ _ _ => k b u q
  slot := fun b u q _ _ _ => ⟨u.slots, k b u q⟩
  free := fun b u q n _ => by rw [upd_ne (Nat.ne_of_lt (Nat.lt_of_lt_of_le (Heap.lt_size q) hp))]; exact n
  there := fun b u q _ => ⟨u, k b u q⟩
  tups := fun b xs q => by rw [upd_ne (ne_of_none q hn)]; exact q
  frzs := fun b u xs q => by rw [upd_ne (ne_of_none q hn)]; exact q
  tbls := fun b ps q => ⟨#[], by rw [upd_ne (ne_of_none q hn), q]; simp⟩
theorem Un.write (mu : Mut (H x)) (he : e = x ∨ H e = some (.own x)) (k : ∀ b u, b ≠ e → h.get? b = some u → h'.get? b = some u) (heo : ∃ u, h'.get? e = some u) : Un fs ex H (upd H x o) h h' := by
  have hx : ∀ b, H b = none → b ≠ x := fun b n z => by subst z; rw [n] at mu; exact mu
  have hb : ∀ b, H b = none → b ≠ e := fun b n z => by
    subst z
    rcases he with r | r
    · exact hx b n r
    · rw [n] at r; cases r
  have hm : ∀ b u, H b = some u → ¬ Mut (some u) → b ≠ x := fun b u q nm z => by subst z; rw [q] at mu; exact nm mu
  refine ⟨fun b u q n _ _ => k b u (hb b n) q, fun b u q n _ _ => ⟨u.slots, k b u (hb b n) q⟩, fun b u q n _ => by rw [upd_ne (hx b n)]; exact n, fun b u q _ => ?_,
    fun b xs q => by rw [upd_ne (hm b _ q fun z => z)]; exact q, fun b u xs q => by rw [upd_ne (hm b _ q fun z => z)]; exact q, fun b ps q => ⟨#[], by rw [upd_ne (hm b _ q fun z => z), q]; simp⟩⟩
  by_cases hbe : b = e
  · subst hbe; exact heo
  · exact ⟨u, k b u hbe q⟩
theorem Un.mono (u : Un fs ex H H1 h h1) (hs : ∀ b ∈ fs, b ∈ fs') (hx : ∀ b ∈ ex, b ∈ ex') : Un fs' ex' H H1 h h1 :=
  ⟨fun b ob q n hb he => u.keep b ob q n (fun z => hb (hs b z)) fun z => he (hx b z), fun _ _ q n _ he => u.any q n fun z => he (hx _ z), fun b ob q n he => u.free b ob q n fun z => he (hx b z), fun b ob q he => u.there b ob q fun z => he (hx b z), u.tups, u.frzs, u.tbls⟩
end
noncomputable def trk (h : Heap) (H : Hp) : List Addr := (List.range h.objs.size).filter fun a => (H a).isSome
noncomputable def hidT (h : Heap) (H : Hp) : Heap := PySem.W.hideAll h (trk h H)
theorem hidT_size (h : Heap) (H : Hp) : (hidT h H).objs.size = h.objs.size := PySem.W.hideAll_size _ _
theorem hidT_get {h : Heap} {H : Hp} {b : Addr} {o : Obj} (e : h.get? b = some o) (n : H b = none) : (hidT h H).get? b = some o :=
  PySem.W.hideAll_get _ e fun hm => by
    have q : (H b).isSome = true := (List.mem_filter.mp hm).2
    rw [n] at q; simp at q
theorem of_hidT {h : Heap} {H : Hp} {b : Addr} {o : Obj} (e : (hidT h H).get? b = some o) : h.get? b = some o ∧ H b = none := by
  have e' : h.get? b = some o := PySem.W.of_hideAll (trk h H) e
  refine ⟨e', ?_⟩
  cases q : H b with
  | none => rfl
  | some x =>
    have hm : b ∈ trk h H := List.mem_filter.mpr ⟨List.mem_range.mpr (Heap.lt_size e'), by simp [q]⟩
    have z : (hidT h H).get? b = none := PySem.W.hideAll_none (trk h H) hm
    rw [z] at e; cases e
noncomputable def allNews (g h : Heap) (L : Addr) : List (Addr × Obj) := (List.range h.objs.size).filterMap fun a => if a = L ∨ (g.get? a).isSome = true then none else (h.get? a).map fun o => (a, o)
theorem mem_allNews {g h : Heap} {L a : Addr} {o : Obj} (h1 : a ≠ L) (h2 : g.get? a = none) (h3 : h.get? a = some o) : (a, o) ∈ allNews g h L :=
  List.mem_filterMap.mpr ⟨a, List.mem_range.mpr (Heap.lt_size h3), by simp [h1, h2, h3]⟩
theorem of_mem_allNews {g h : Heap} {L : Addr} {p : Addr × Obj} (hp : p ∈ allNews g h L) : p.1 ≠ L ∧ g.get? p.1 = none ∧ h.get? p.1 = some p.2 := by
  obtain ⟨b, _, e⟩ := List.mem_filterMap.mp hp
  split at e
  · cases e
  · rename_i hn
    cases q : h.get? b with
    | none => rw [q] at e; simp at e
    | some u =>
      rw [q] at e
      simp only [Option.map_some, Option.some.injEq] at e
      subst e
      refine ⟨fun z => hn (.inl z), ?_, q⟩
      show g.get? b = none
      cases r : g.get? b with
      | none => rfl
      | some v => exact (hn (.inr (by simp [r]))).elim
noncomputable def rest (g h : Heap) (L d : Addr) : List (Addr × Obj) := (allNews g h L).filter fun p => decide (p.1 ≠ d)
theorem news_all {g h : Heap} {L : Addr} : News g L h (allNews g h L) := fun p hp => let ⟨a, b, c⟩ := of_mem_allNews hp; ⟨c, a, b⟩
end L2
namespace L2
open PySem PySem.Spec PyProof.Rows
structure Mod (K : PySem.W.Frag) (mg : Str → Option Value) (base : Heap) : Prop where
  kin : K.In base
  glob : base.Ns mainGlobals mg
  blt : ∃ mb, base.Ns builtinsNs mb ∧ ∀ x : Str, x ≠ "__name__" → mb x = bootBuiltins x
  nolimit : base.NoLimit
structure Cx where
  prog : Program
  w : World
  K : PySem.W.Frag
  mg : Str → Option Value
  base : Heap
  A : Around
  N : List Str
  s₀ : Shared
  H₀ : Hp
  env : Env
  outer : List Env
  stack : List Env
  ex : List Addr
  fn : Str → Bool
  calm : Bool
  pn : List (Addr × Obj)
  xe : Value → Shared → Prop
noncomputable def frs (l : List Env) : List Addr := l.filterMap (·.frame)
noncomputable abbrev Cx.fs (X : Cx) : List Addr := frs X.outer
noncomputable def Vis (sc : Scope) (x : Str) : Prop := sc.names.lookup x = some .local ∨ sc.names.lookup x = some .cell ∨ sc.names.lookup x = some .free
noncomputable def Loc (sc : Scope) (x : Str) : Prop := sc.names.lookup x = some .local ∨ sc.names.lookup x = some .cell
noncomputable def Look (env : Env) (h : Heap) (m : Str → Option Value) (x : Str) (u : Value) : Prop :=
  (env.kindOf x = some .local ∧ m x = some u) ∨ ((env.kindOf x = some .cell ∨ env.kindOf x = some .free) ∧ ∃ c, env.cells.lookup x = some c ∧ h.IsCell c (some u))
structure Cx.Ok (X : Cx) : Prop where
  mod : Mod X.K X.mg X.base
  kind : X.env.scope.kind = .function
  glob : X.env.globals = mainGlobals
  blt : X.env.builtins = builtinsNs
  above : X.s₀.heap.objs.size ≤ X.env.locals
  inj : ∀ x y c, X.env.cells.lookup x = some c → X.env.cells.lookup y = some c → x = y
  has : ∀ x, (X.env.kindOf x = some .cell ∨ X.env.kindOf x = some .free) → ∃ c, X.env.cells.lookup x = some c
  cab : ∀ x c, X.fn x = true → X.env.cells.lookup x = some c → X.s₀.heap.objs.size ≤ c
  hd : X.calm = true → X.A.handled = none
  frames : X.A.frames = some X.stack
  stk : X.stack = X.outer ∨ (X.stack = X.env :: X.outer ∧ X.env.frame = some X.env.locals)
  exf : ∀ b ∈ X.ex, b ≠ X.env.locals ∧ ∀ x c, X.env.cells.lookup x = some c → c ≠ b
  bs : ∀ b o, X.base.get? b = some o → X.s₀.heap.get? b = some o ∧ X.H₀ b = none
  bsz : X.base.objs.size ≤ X.s₀.heap.objs.size
  noex : ∀ b o, X.base.get? b = some o → b ∉ X.ex
  exfs : ∀ b ∈ X.ex, b ∉ X.fs
  funs : X.s₀.heap.FunFrames X.base X.outer
  frf : ∀ b ∈ X.fs, X.H₀ b = none
structure Inv (X : Cx) (pins : List (Addr × Obj)) (σ : List (Option V)) (H : Hp) (s : Shared) : Prop where
  ok : X.Ok
  os : s.os = X.s₀.os
  bare : AllBare s.gens
  base : Un X.fs X.ex X.H₀ H X.s₀.heap s.heap
  loc : ∃ m, s.heap.Ns X.env.locals m ∧ ∀ (i : Nat) (x : Str) (v : V), X.N[i]? = some x → σ[i]? = some (some v) → Vis X.env.scope x → ∃ u, RelV v u ∧ Look X.env s.heap m x u
  cell : ∀ x c, X.env.cells.lookup x = some c → ∃ v, s.heap.IsCell c v
  free : H X.env.locals = none
  freeC : ∀ x c, X.env.cells.lookup x = some c → H c = none
  pin : ∀ p ∈ X.pn ++ pins, s.heap.get? p.1 = some p.2 ∧ H p.1 = none ∧ p.1 ≠ X.env.locals ∧ p.1 ∉ X.fs ∧ ∀ v, p.2.data ≠ .cell v
  hok : HOk X.prog X.w H s.heap
  len : σ.length = X.N.length
section
variable {X : Cx} {pins : List (Addr × Obj)} {σ : List (Option V)} {H H' : Hp} {s : Shared} {h' : Heap}
theorem Cx.Ok.nofr (ok : X.Ok) {b : Addr} {o : Obj} (e : X.base.get? b = some o) : b ∉ X.fs := fun hb => by
  have := (ok.funs.mem hb).1
  rw [e] at this; cases this
theorem Inv.bs (I : Inv X pins σ H s) : ∀ b o, X.base.get? b = some o → s.heap.get? b = some o ∧ H b = none := fun b o e =>
  ⟨I.base.keep b o (I.ok.bs b o e).1 (I.ok.bs b o e).2 (I.ok.nofr e) (I.ok.noex b o e), I.base.free b o (I.ok.bs b o e).1 (I.ok.bs b o e).2 (I.ok.noex b o e)⟩
theorem Inv.bk (I : Inv X pins σ H s) : ∀ b o, X.base.get? b = some o → s.heap.get? b = some o := fun b o e => (I.bs b o e).1
theorem Inv.mod (I : Inv X pins σ H s) : Mod X.K X.mg X.base := I.ok.mod
theorem Inv.kIn (I : Inv X pins σ H s) : X.K.In s.heap := I.ok.mod.kin.keeps I.bk
theorem Inv.nolimit (I : Inv X pins σ H s) : s.heap.NoLimit := I.ok.mod.nolimit.keeps I.bk
theorem Inv.fr (I : Inv X pins σ H s) : ∃ m, Fr X.base X.env.locals s.heap m :=
  let ⟨m, hn, _⟩ := I.loc
  ⟨m, hn, I.bk, Nat.le_trans I.ok.bsz I.ok.above⟩
theorem Inv.lt (I : Inv X pins σ H s) : X.env.locals < s.heap.objs.size := let ⟨_, hn, _⟩ := I.loc; hn.lt
theorem Inv.sz (I : Inv X pins σ H s) : X.s₀.heap.objs.size ≤ s.heap.objs.size := Nat.le_trans I.ok.above (Nat.le_of_lt I.lt)
theorem Inv.nofs (I : Inv X pins σ H s) {a : Addr} (h : s.heap.objs.size ≤ a) : a ∉ X.fs := fun hb => by
  obtain ⟨_, o, ho, _⟩ := I.ok.funs.mem hb
  exact absurd (Nat.lt_of_lt_of_le (Heap.lt_size ho) (Nat.le_trans I.sz h)) (Nat.lt_irrefl _)
theorem Inv.cne (I : Inv X pins σ H s) : ∀ x c, X.env.cells.lookup x = some c → c ≠ X.env.locals := fun x c e z => by
  obtain ⟨v, o, ho, hd⟩ := I.cell x c e
  obtain ⟨m, ⟨o', es, ep, ho', hd', _⟩, _⟩ := I.loc
  rw [z, ho'] at ho; cases ho; rw [hd'] at hd; cases hd
theorem Inv.funs (I : Inv X pins σ H s) : s.heap.FunFrames X.base X.outer := by
  have all : ∀ (l : List Env), (∀ b ∈ frs l, b ∈ X.fs) → X.s₀.heap.FunFrames X.base l → s.heap.FunFrames X.base l := by
    intro l
    induction l with
    | nil => intro _ _; trivial
    | cons env r ih =>
      intro hs hl
      obtain ⟨hk, ⟨L, o, hf, hn, ho, hd⟩, hr⟩ := hl
      have hL : L ∈ X.fs := hs L (by unfold frs; rw [List.filterMap_cons, hf]; exact List.mem_cons_self)
      obtain ⟨sl, e⟩ := I.base.slot L o ho (I.ok.frf L hL) hL fun z => I.ok.exfs L z hL
      exact ⟨hk, ⟨L, _, hf, hn, e, hd⟩, ih (fun b hb => hs b (by unfold frs; rw [List.filterMap_cons, hf]; exact List.mem_cons_of_mem _ hb)) hr⟩
  exact all X.outer (fun _ hb => hb) I.ok.funs
theorem Inv.stack (I : Inv X pins σ H s) : s.heap.FunFrames X.base X.stack := by
  rcases I.ok.stk with e | ⟨e, hf⟩
  · rw [e]; exact I.funs
  · rw [e]
    obtain ⟨m, hn, _⟩ := I.loc
    refine .cons (by rw [I.ok.kind]; decide) hf hn ?_ I.funs
    exact Heap.get?_none_of_le (Nat.le_trans I.ok.bsz I.ok.above)
theorem Inv.stkSub (I : Inv X pins σ H s) : ∀ b ∈ frs X.stack, b ∈ X.env.locals :: X.fs := fun b hb => by
  rcases I.ok.stk with e | ⟨e, hf⟩
  · rw [e] at hb; exact List.mem_cons_of_mem _ hb
  · rw [e] at hb
    unfold frs at hb
    rw [List.filterMap_cons, hf] at hb
    exact hb
theorem Inv.stkFree (I : Inv X pins σ H s) : ∀ b ∈ frs X.stack, H b = none := fun b hb => by
  rcases List.mem_cons.mp (I.stkSub b hb) with e | hb
  · rw [e]; exact I.free
  · obtain ⟨_, o, ho, _⟩ := I.ok.funs.mem hb
    exact I.base.free b o ho (I.ok.frf b hb) fun z => I.ok.exfs b z hb
theorem Inv.step {g' : Array GenState} {t' : Nat} {d' : Drawn} {ch : List Addr} (I : Inv X pins σ H s)
    (hch : ∀ b ∈ ch, (b ∈ X.ex ∨ X.s₀.heap.objs.size ≤ b) ∧ b ≠ X.env.locals ∧ (∀ x c, X.env.cells.lookup x = some c → c ≠ b) ∧ ∀ p ∈ X.pn ++ pins, p.1 ≠ b)
    (keep : ∀ b o, b ≠ X.env.locals → b ∉ X.fs → b ∉ ch → s.heap.get? b = some o → H b = none → h'.get? b = some o)
    (slot : ∀ b o, b ≠ X.env.locals → b ∈ X.fs → b ∉ ch → s.heap.get? b = some o → H b = none → ∃ sl, h'.get? b = some { o with slots := sl }) (free : ∀ b o, b ∉ ch → s.heap.get? b = some o → H b = none → H' b = none)
    (there : ∀ b o, b ∉ ch → s.heap.get? b = some o → ∃ o', h'.get? b = some o')
    (tups : ∀ b xs, H b = some (.tup xs) → H' b = some (.tup xs)) (frzs : ∀ b o u, H b = some (.frz o u) → H' b = some (.frz o u)) (tbls : ∀ b ps, H b = some (.tbl ps) → ∃ more, H' b = some (.tbl (ps ++ more)))
    (ns : ∀ m, s.heap.Ns X.env.locals m → h'.Ns X.env.locals m) (hok : HOk X.prog X.w H' h') (hg : AllBare g') :
    Inv X pins σ H' { s with heap := h', gens := g', drawn := d', toks := t' } := by
  have neL : ∀ b o, X.s₀.heap.get? b = some o → b ≠ X.env.locals := fun b o e => Nat.ne_of_lt (Nat.lt_of_lt_of_le (Heap.lt_size e) I.ok.above)
  have neC : ∀ b o, X.s₀.heap.get? b = some o → b ∉ X.ex → b ∉ ch := fun b o e hx hb => by
    rcases (hch b hb).1 with z | z
    · exact hx z
    · exact absurd (Nat.lt_of_lt_of_le (Heap.lt_size e) z) (Nat.lt_irrefl _)
  have cellK : ∀ x c, X.env.cells.lookup x = some c → ∀ v, s.heap.IsCell c v → h'.IsCell c v := fun x c e v ⟨o, ho, hd⟩ => by
    have nch : c ∉ ch := fun z => (hch c z).2.2.1 x c e rfl
    by_cases hc : c ∈ X.fs
    · obtain ⟨sl, q⟩ := slot c o (I.cne x c e) hc nch ho (I.freeC x c e)
      exact ⟨_, q, hd⟩
    · exact ⟨o, keep c o (I.cne x c e) hc nch ho (I.freeC x c e), hd⟩
  refine ⟨I.ok, I.os, hg, ⟨fun b o e n hb hx => ?_, fun b o e n hb hx => ?_, fun b o e n hx => ?_, fun b o e hx => ?_, fun b xs e => tups b xs (I.base.tups b xs e), fun b o xs e => frzs b o xs (I.base.frzs b o xs e), fun b ps e => ?_⟩, ?_, fun x c e => ?_, ?_, fun x c e => ?_, fun p hp => ?_, hok, I.len⟩
  · exact keep b o (neL b o e) hb (neC b o e hx) (I.base.keep b o e n hb hx) (I.base.free b o e n hx)
  · obtain ⟨sl, e1⟩ := I.base.slot b o e n hb hx
    obtain ⟨sl', e2⟩ := slot b _ (neL b o e) hb (neC b o e hx) e1 (I.base.free b o e n hx)
    exact ⟨sl', e2⟩
  · obtain ⟨o', e1⟩ := I.base.there b o e hx
    exact free b o' (neC b o e hx) e1 (I.base.free b o e n hx)
  · obtain ⟨o', e1⟩ := I.base.there b o e hx
    exact there b o' (neC b o e hx) e1
  · obtain ⟨m1, e1⟩ := I.base.tbls b ps e
    obtain ⟨m2, e2⟩ := tbls b _ e1
    exact ⟨m1 ++ m2, by rw [e2, Array.append_assoc]⟩
  · obtain ⟨m, hn, hl⟩ := I.loc
    refine ⟨m, ns m hn, fun i x v e1 e2 e3 => ?_⟩
    obtain ⟨u, r, l⟩ := hl i x v e1 e2 e3
    refine ⟨u, r, ?_⟩
    rcases l with l | ⟨k, c, e, z⟩
    · exact .inl l
    · exact .inr ⟨k, c, e, cellK x c e _ z⟩
  · obtain ⟨v, z⟩ := I.cell x c e
    exact ⟨v, cellK x c e v z⟩
  · obtain ⟨m, ⟨o, _, _, ho, _⟩, _⟩ := I.loc
    exact free _ o (fun z => (hch _ z).2.1 rfl) ho I.free
  · obtain ⟨v, o, ho, hd⟩ := I.cell x c e
    exact free c o (fun z => (hch c z).2.2.1 x c e rfl) ho (I.freeC x c e)
  · obtain ⟨e, n, ne, nf, d⟩ := I.pin p hp
    have nch : p.1 ∉ ch := fun z => (hch p.1 z).2.2.2 p hp rfl
    exact ⟨keep p.1 p.2 ne nf nch e n, free p.1 p.2 nch e n, ne, nf, d⟩
theorem Inv.un {t' : Nat} (I : Inv X pins σ H s) (u : Un X.fs [] H H' s.heap h') (hok : HOk X.prog X.w H' h') : Inv X pins σ H' { s with heap := h', toks := t' } := by
  obtain ⟨m, ⟨o, es, ep, ho, r⟩, _⟩ := id I.loc
  obtain ⟨sl, hL⟩ := u.any ho I.free (by simp)
  exact I.step (g' := s.gens) (d' := s.drawn) (ch := []) (fun _ z => nomatch z) (fun b o _ hb _ e n => u.keep b o e n hb (by simp)) (fun b o _ hb _ e n => u.slot b o e n hb (by simp)) (fun b o _ e n => u.free b o e n (by simp)) (fun b o _ e => u.there b o e (by simp)) u.tups u.frzs u.tbls (fun m' hm => by
    obtain ⟨o', es', ep', ho', r'⟩ := hm
    rw [ho] at ho'; cases ho'
    exact ⟨_, es', ep', hL, r'⟩) hok I.bare
theorem Inv.call {g' : Array GenState} {t' : Nat} {d' : Drawn} {ch : List Addr} (I : Inv X pins σ H s) (u : Un (frs X.stack) ch H H' s.heap h') (hok : HOk X.prog X.w H' h') (hg : AllBare g')
    (hch : ∀ b ∈ ch, (b ∈ X.ex ∨ X.s₀.heap.objs.size ≤ b) ∧ b ≠ X.env.locals ∧ (∀ x c, X.env.cells.lookup x = some c → c ≠ b) ∧ ∀ p ∈ X.pn ++ pins, p.1 ≠ b) :
    Inv X pins σ H' { s with heap := h', gens := g', drawn := d', toks := t' } := by
  obtain ⟨m, ⟨o, es, ep, ho, r⟩, _⟩ := id I.loc
  obtain ⟨sl, hL⟩ := u.any ho I.free fun z => (hch _ z).2.1 rfl
  exact I.step (ch := ch) hch (fun b o hL hb hc e n => u.keep b o e n (fun z => (List.mem_cons.mp (I.stkSub b z)).elim hL hb) hc) (fun b o _ _ hc e n => u.any e n hc) (fun b o hc e n => u.free b o e n hc) (fun b o hc e => u.there b o e hc) u.tups u.frzs u.tbls (fun m' hm => by
    obtain ⟨o', es', ep', ho', r'⟩ := hm
    rw [ho] at ho'; cases ho'
    exact ⟨_, es', ep', hL, r'⟩) hok hg
theorem Inv.turned {t' : Nat} {it : Addr} (I : Inv X pins σ H s) (k : ∀ b o, b ≠ it → s.heap.get? b = some o → h'.get? b = some o) (hn : H it = none) (hL : it ≠ X.env.locals)
    (h1 : it ∈ X.ex ∨ X.s₀.heap.objs.size ≤ it) (h2 : ∀ x c, X.env.cells.lookup x = some c → c ≠ it) (h3 : ∀ p ∈ X.pn ++ pins, p.1 ≠ it) : Inv X pins σ H { s with heap := h', toks := t' } := by
  have nit : ∀ b u, H b = some u → b ≠ it := fun b u e z => by rw [z, hn] at e; cases e
  refine I.step (g' := s.gens) (d' := s.drawn) (ch := [it]) (fun b hb => ?_) (fun b o _ _ hc e _ => k b o (fun z => hc (by simp [z])) e) (fun b o _ _ hc e _ => ⟨o.slots, k b o (fun z => hc (by simp [z])) e⟩) (fun _ _ _ _ n => n)
    (fun b o hc e => ⟨o, k b o (fun z => hc (by simp [z])) e⟩) (fun _ _ e => e) (fun _ _ _ e => e) (fun b ps e => ⟨#[], by rw [e]; simp⟩) (fun m hm => ?_) (fun b u e => ?_) I.bare
  · have e : b = it := by simpa using hb
    subst e
    exact ⟨h1, hL, h2, h3⟩
  · obtain ⟨o, es, ep, ho, r⟩ := hm
    exact ⟨o, es, ep, k _ o (Ne.symm hL) ho, r⟩
  · refine (I.hok b u e).stay (fun c v hc q => k c v ?_ q) (fun _ q => q) fun _ _ q => q
    rcases hc with z | z
    · rw [z]; exact nit b u e
    · exact nit c _ z
theorem Inv.tok (I : Inv X pins σ H s) (t : Nat) : Inv X pins σ H { s with toks := t } := I.un (h' := s.heap) (t' := t) Un.refl I.hok
theorem Inv.kept {t' : Nat} (I : Inv X pins σ H s) (k : ∀ b u, s.heap.get? b = some u → h'.get? b = some u) : Inv X pins σ H { s with heap := h', toks := t' } := I.un (Un.kept k) (I.hok.kept k)
theorem Inv.laid {a : Addr} {o : HO} {t' : Nat} (I : Inv X pins σ H s) (k : ∀ b u, s.heap.get? b = some u → h'.get? b = some u) (hp : s.heap.objs.size ≤ a) (new : ObjOk X.prog X.w (upd H a o) h' a o) :
    Inv X pins σ (upd H a o) { s with heap := h', toks := t' } := I.un (Un.laid k hp (I.hok.fresh hp)) (I.hok.laid k hp new)
theorem Inv.write {x e : Addr} {o : HO} {t' : Nat} (I : Inv X pins σ H s) (mu : Mut (H x)) (he : e = x ∨ H e = some (.own x)) (k : ∀ b u, b ≠ e → s.heap.get? b = some u → h'.get? b = some u) (heo : ∃ u, h'.get? e = some u)
    (new : ObjOk X.prog X.w (upd H x o) h' x o) : Inv X pins σ (upd H x o) { s with heap := h', toks := t' } := I.un (Un.write mu he k heo) (I.hok.write mu he k heo new)
theorem Inv.pins_of {pins' : List (Addr × Obj)} (I : Inv X pins σ H s) (h : ∀ p ∈ pins', s.heap.get? p.1 = some p.2 ∧ H p.1 = none ∧ p.1 ≠ X.env.locals ∧ p.1 ∉ X.fs ∧ ∀ v, p.2.data ≠ .cell v) : Inv X pins' σ H s :=
  ⟨I.ok, I.os, I.bare, I.base, I.loc, I.cell, I.free, I.freeC, fun p hp => (List.mem_append.mp hp).elim (fun z => I.pin p (List.mem_append_left _ z)) (h p), I.hok, I.len⟩
theorem nodup_ix {N : List Str} (hN : N.Nodup) {i j : Nat} {x : Str} (a : N[i]? = some x) (b : N[j]? = some x) : i = j := by
  obtain ⟨h1, e1⟩ := List.getElem?_eq_some_iff.mp a
  obtain ⟨h2, e2⟩ := List.getElem?_eq_some_iff.mp b
  exact (List.getElem_inj hN).mp (e1.trans e2.symm)
theorem store_ok2 {M : Model} {A : Around} {E : Value → Shared → Prop} {i : Nat} {x : Str} {v : V} {u : Value} {Q : Unit → Shared → Prop} (I : Inv X pins σ H s) (hN : X.N.Nodup) (hi : X.N[i]? = some x) (hx : Loc X.env.scope x) (r : RelV v u)
    (h : ∀ s', Inv X pins (σ.set i (some v)) H s' → (∃ a, Heap.SameBut a s.heap s'.heap ∧ (a = X.env.locals ∨ X.env.cells.lookup x = some a)) → Q () s') (hf : X.fn x = true ∨ X.env.scope.names.lookup x = some .local := by first | exact .inl rfl | exact .inr rfl | assumption) : wpAny M A (storeName X.env x u) Q E s := by
  obtain ⟨m, hn, hl⟩ := id I.loc
  have hcls : (X.env.scope.kind == .class || (X.env.scope.kind == .module && X.env.locals != X.env.globals)) = false := by rw [I.ok.kind]; rfl
  have hiσ : i < σ.length := by rw [I.len]; exact (List.getElem?_eq_some_iff.mp hi).1
  have cne := I.cne
  have tracked : ∀ {a : Addr} {h' : Heap}, (∃ o, s.heap.get? a = some o ∧ H a = none) → Heap.SameBut a s.heap h' → HOk X.prog X.w H h' := fun {a h'} ha hs b ob e => by
    obtain ⟨_, _, hfree⟩ := ha
    refine (I.hok b ob e).stay (fun c w' hc q => (hs.2 c ?_).trans q) (fun _ q => q) fun _ _ q => q
    rintro rfl
    rcases hc with rfl | hc
    · rw [hfree] at e; cases e
    · rw [hfree] at hc; cases hc
  rcases hx with hk | hk
  · refine wpAny_storeName_local hk hn (fun h' hn' hs => ?_) hcls
    obtain ⟨oL, _, _, hoL, _⟩ := id hn
    refine h _ ⟨I.ok, I.os, I.bare, ⟨fun b o e n hb hx => ?_, fun b o e n hb hx => ?_, I.base.free, fun b o e hx => ?_, I.base.tups, I.base.frzs, I.base.tbls⟩, ⟨_, hn', fun j y v' e1 e2 e3 => ?_⟩, fun y c e => ?_, I.free, I.freeC, fun p hp => ?_, tracked ⟨oL, hoL, I.free⟩ hs, by simpa using I.len⟩ ⟨_, hs, .inl rfl⟩
    · exact (hs.2 b (Nat.ne_of_lt (Nat.lt_of_lt_of_le (Heap.lt_size e) I.ok.above))).trans (I.base.keep b o e n hb hx)
    · obtain ⟨sl, e1⟩ := I.base.slot b o e n hb hx
      exact ⟨sl, (hs.2 b (Nat.ne_of_lt (Nat.lt_of_lt_of_le (Heap.lt_size e) I.ok.above))).trans e1⟩
    · obtain ⟨o', e1⟩ := I.base.there b o e hx
      exact ⟨o', (hs.2 b (Nat.ne_of_lt (Nat.lt_of_lt_of_le (Heap.lt_size e) I.ok.above))).trans e1⟩
    · by_cases hj : j = i
      · subst hj
        rw [hi] at e1; cases e1
        rw [List.getElem?_set_self hiσ] at e2
        cases e2
        exact ⟨u, r, .inl ⟨hk, by simp⟩⟩
      · rw [List.getElem?_set_ne (Ne.symm hj)] at e2
        obtain ⟨u', r', q⟩ := hl j y v' e1 e2 e3
        refine ⟨u', r', ?_⟩
        rcases q with ⟨k, e⟩ | ⟨k, c, e, z⟩
        · refine .inl ⟨k, ?_⟩
          have : y ≠ x := fun e => hj (nodup_ix hN e1 (e ▸ hi))
          simp [this, e]
        · exact .inr ⟨k, c, e, z.sameBut hs (cne y c e)⟩
    · obtain ⟨w', z⟩ := I.cell y c e
      exact ⟨w', z.sameBut hs (cne y c e)⟩
    · obtain ⟨e, n, ne, nf, d⟩ := I.pin p hp
      exact ⟨(hs.2 p.1 ne).trans e, n, ne, nf, d⟩
  · have hfn : X.fn x = true := by
      rcases hf with z | z
      · exact z
      · rw [z] at hk; cases hk
    obtain ⟨c, hc⟩ := I.ok.has x (.inl hk)
    obtain ⟨w', z⟩ := I.cell x c hc
    refine wpAny_storeName_cell I.ok.kind hk hc z (fun h' hc' hs => ?_)
    obtain ⟨oc, hoc, hocd⟩ := id z
    refine h { s with heap := h' } ⟨I.ok, I.os, I.bare, ⟨fun b o e n hb hx => ?_, fun b o e n hb hx => ?_, I.base.free, fun b o e hx => ?_, I.base.tups, I.base.frzs, I.base.tbls⟩, ⟨m, hn.sameBut hs (Ne.symm (cne x c hc)), fun j y v' e1 e2 e3 => ?_⟩, fun y c' e => ?_, I.free, I.freeC, fun p hp => ?_, tracked ⟨oc, hoc, I.freeC x c hc⟩ hs, by simpa using I.len⟩ ⟨c, hs, .inr hc⟩
    · exact (hs.2 b (Nat.ne_of_lt (Nat.lt_of_lt_of_le (Heap.lt_size e) (I.ok.cab x c hfn hc)))).trans (I.base.keep b o e n hb hx)
    · obtain ⟨sl, e1⟩ := I.base.slot b o e n hb hx
      exact ⟨sl, (hs.2 b (Nat.ne_of_lt (Nat.lt_of_lt_of_le (Heap.lt_size e) (I.ok.cab x c hfn hc)))).trans e1⟩
    · obtain ⟨o', e1⟩ := I.base.there b o e hx
      exact ⟨o', (hs.2 b (Nat.ne_of_lt (Nat.lt_of_lt_of_le (Heap.lt_size e) (I.ok.cab x c hfn hc)))).trans e1⟩
    · by_cases hj : j = i
      · subst hj
        rw [hi] at e1; cases e1
        rw [List.getElem?_set_self hiσ] at e2
        cases e2
        exact ⟨u, r, .inr ⟨.inl hk, c, hc, hc'⟩⟩
      · rw [List.getElem?_set_ne (Ne.symm hj)] at e2
        obtain ⟨u', r', q⟩ := hl j y v' e1 e2 e3
        refine ⟨u', r', ?_⟩
        rcases q with q | ⟨k, c', e, z'⟩
        · exact .inl q
        · refine .inr ⟨k, c', e, z'.sameBut hs ?_⟩
          rintro rfl
          exact hj (nodup_ix hN e1 (I.ok.inj _ _ _ e hc ▸ hi))
    · by_cases hcc : c' = c
      · subst hcc; exact ⟨_, hc'⟩
      · obtain ⟨w2, z2⟩ := I.cell y c' e
        exact ⟨w2, z2.sameBut hs hcc⟩
    · obtain ⟨e, n, ne, nf, d⟩ := I.pin p hp
      refine ⟨(hs.2 p.1 ?_).trans e, n, ne, nf, d⟩
      intro q
      rw [q, hoc] at e
      have q' : oc = p.2 := Option.some.inj e
      exact d w' (by rw [← q']; exact hocd)
theorem store_ok {M : Model} {A : Around} {E : Value → Shared → Prop} {i : Nat} {x : Str} {v : V} {u : Value} {Q : Unit → Shared → Prop} (I : Inv X pins σ H s) (hN : X.N.Nodup) (hi : X.N[i]? = some x) (hx : Loc X.env.scope x) (r : RelV v u)
    (h : ∀ s', Inv X pins (σ.set i (some v)) H s' → Q () s') (hf : X.fn x = true ∨ X.env.scope.names.lookup x = some .local := by first | exact .inl rfl | exact .inr rfl | assumption) : wpAny M A (storeName X.env x u) Q E s :=
  store_ok2 I hN hi hx r (fun s' I' _ => h s' I') hf
theorem Inv.call' {s' : Shared} {ch : List Addr} (I : Inv X pins σ H s) (ho : s'.os = s.os) (u : Un (frs X.stack) ch H H' s.heap s'.heap) (hok : HOk X.prog X.w H' s'.heap) (hg : AllBare s'.gens)
    (hch : ∀ b ∈ ch, (b ∈ X.ex ∨ X.s₀.heap.objs.size ≤ b) ∧ b ≠ X.env.locals ∧ (∀ x c, X.env.cells.lookup x = some c → c ≠ b) ∧ ∀ p ∈ X.pn ++ pins, p.1 ≠ b) : Inv X pins σ H' s' := by
  obtain ⟨h', g', d', t', o'⟩ := s'
  have e : o' = s.os := ho
  subst e
  exact I.call (g' := g') (t' := t') (d' := d') u hok hg hch
end
noncomputable abbrev XK := Value → Option Addr → Hp → Prop
noncomputable abbrev St := List (Option V)
noncomputable abbrev VK := V → Hp → Prop
noncomputable abbrev TE := St → Hp → VK → Prop
noncomputable abbrev TT := St → Hp → (Bool → Hp → Prop) → Prop
noncomputable abbrev TA := St → Hp → (List V → Hp → Prop) → Prop
structure Ends where
  nx : St → Hp → Prop
  rt : VK
  bk : St → Hp → Prop := fun _ _ => False
  ct : St → Hp → Prop := fun _ _ => False
noncomputable abbrev TS := Ends → St → Hp → Prop
noncomputable def EP (X : Cx) (pins : List (Addr × Obj)) (σ : St) (Q : VK) (u : Value) (s' : Shared) : Prop := ∃ v H', Inv X pins σ H' s' ∧ RelV v u ∧ Q v H'
noncomputable def TP (X : Cx) (pins : List (Addr × Obj)) (σ : St) (Q : Bool → Hp → Prop) (b : Bool) (s' : Shared) : Prop := ∃ H', Inv X pins σ H' s' ∧ Q b H'
noncomputable def AP (X : Cx) (pins : List (Addr × Obj)) (σ : St) (Q : List V → Hp → Prop) (us : List Value) (s' : Shared) : Prop := ∃ vs H', Inv X pins σ H' s' ∧ Vals vs us ∧ Q vs H'
noncomputable def SP (X : Cx) (pins : List (Addr × Obj)) (D : Ends) (f : Flow) (s' : Shared) : Prop :=
  match f with
  | .next => ∃ σ' H', Inv X pins σ' H' s' ∧ D.nx σ' H'
  | .brk => ∃ σ' H', Inv X pins σ' H' s' ∧ D.bk σ' H'
  | .cont => ∃ σ' H', Inv X pins σ' H' s' ∧ D.ct σ' H'
  | .ret u => ∃ v σ' H', Inv X pins σ' H' s' ∧ RelV v u ∧ D.rt v H'
noncomputable def PE (X : Cx) (e : Expr) (t : TE) : Prop :=
  ∀ (pins : List (Addr × Obj)) (s : Shared) (σ : St) (H : Hp) (Q : VK), Inv X pins σ H s → t σ H Q → wpAny (model X.prog X.w) X.A (eval e X.env) (EP X pins σ Q) X.xe s
noncomputable def PT (X : Cx) (e : Expr) (t : TT) : Prop :=
  ∀ (pins : List (Addr × Obj)) (s : Shared) (σ : St) (H : Hp) (Q : Bool → Hp → Prop), Inv X pins σ H s → t σ H Q → wpAny (model X.prog X.w) X.A (isTrue e X.env (eval e X.env)) (TP X pins σ Q) X.xe s
noncomputable def PW (X : Cx) (e : Expr) (t : TT) : Prop :=
  ∀ (whole : Sem Value) (pins : List (Addr × Obj)) (s : Shared) (σ : St) (H : Hp) (Q : Bool → Hp → Prop), Inv X pins σ H s → t σ H Q → wpAny (model X.prog X.w) X.A (isTrue e X.env whole) (TP X pins σ Q) X.xe s
theorem PW.pt {X : Cx} {e : Expr} {t : TT} (h : PW X e t) : PT X e t := h _
noncomputable def PA (X : Cx) (es : List Expr) (t : TA) : Prop :=
  ∀ (pos : Pos) (pins : List (Addr × Obj)) (s : Shared) (σ : St) (H : Hp) (Q : List V → Hp → Prop), Inv X pins σ H s → t σ H Q → wpAny (model X.prog X.w) X.A (spliced (backTo pos (starEach es X.env))) (AP X pins σ Q) X.xe s
noncomputable def PS (X : Cx) (st : Stmt) (t : TS) : Prop :=
  ∀ (pins : List (Addr × Obj)) (s : Shared) (σ : St) (H : Hp) (D : Ends), Inv X pins σ H s → t D σ H → wpAny (model X.prog X.w) X.A (exec st X.env) (SP X pins D) X.xe s
noncomputable def PSs (X : Cx) (st : List Stmt) (t : TS) : Prop :=
  ∀ (pins : List (Addr × Obj)) (s : Shared) (σ : St) (H : Hp) (D : Ends), Inv X pins σ H s → t D σ H → wpAny (model X.prog X.w) X.A (execs st X.env) (SP X pins D) X.xe s
theorem thn {α : Type} {t : Sem α} {Q Q' : α → Shared → Prop} {M : Model} {A : Around} {E : Value → Shared → Prop} {s : Shared} (h : wpAny M A t Q E s) (hQ : ∀ a s, Q a s → Q' a s) : wpAny M A t Q' E s := wpAny_mono h hQ fun _ _ x => x
end L2
namespace L2
open PySem PySem.Spec PyProof.Rows
section
variable {X : Cx}
noncomputable def tVar (i : Nat) : TE := fun σ H Q => ∃ v, σ[i]? = some (some v) ∧ Q v H
noncomputable def tC (v : V) : TE := fun _ H Q => Q v H
theorem pe_var {i : Nat} {x : Str} {pos : Pos} (hN : X.N[i]? = some x) (hv : Vis X.env.scope x) (hd : (x == ("__debug__" : Str)) = false := by decide) (hcd : (x == ("__classdict__" : Str)) = false := by decide) : PE X (.Name x pos) (tVar i) := by
  intro pins s σ H Q I h
  obtain ⟨v, e, h⟩ := h
  obtain ⟨m, hn, hl⟩ := I.loc
  obtain ⟨u, r, l⟩ := hl i x v hN e hv
  have fin : EP X pins σ Q u s := ⟨v, H, I, r, h⟩
  rcases l with ⟨hk, hm⟩ | ⟨hk, c, hc, hcell⟩
  · exact wpAny_Name (wpAny_loadName_local I.ok.kind hk hn hm fin) hd
  · rcases hk with hk | hk
    · exact wpAny_Name (wpAny_loadName_cell I.ok.kind hk hc hcell fin) hd
    · exact wpAny_Name (wpAny_loadName_free I.ok.kind hk hc hcell fin hcd) hd
theorem pe_int {i j pos} : PE X (.Constant (.int i) j pos) (tC (.int i)) := fun _ _ _ H _ I h => wpAny_Constant_int ⟨.int i, H, I.tok _, ⟨_, rfl⟩, h⟩
theorem pe_bl {b j pos} : PE X (.Constant (.bool b) j pos) (tC (.bl b)) := fun _ _ _ H _ I h => Constant_bool ⟨.bl b, H, I, rfl, h⟩
noncomputable def Gl (X : Cx) (x : Str) : Prop := X.env.kindOf x = some .globalImplicit
theorem ld_glob {E : Value → Shared → Prop} {pins : List (Addr × Obj)} {s : Shared} {σ : St} {H : Hp} {x : Str} {u : Value} {pos : Pos} {Q : Value → Shared → Prop} (I : Inv X pins σ H s) (hg : Gl X x) (hm : X.mg x = some u) (h : Q u s)
    (hd : (x == ("__debug__" : Str)) = false := by decide) : wpAny (model X.prog X.w) X.A (eval (.Name x pos) X.env) Q E s :=
  Calls.Name_function_global I.ok.kind hg (Calls.loadGlobal_global (by rw [I.ok.glob]; exact I.mod.glob.keeps I.bk) hm h) hd
theorem ld_blt {E : Value → Shared → Prop} {pins : List (Addr × Obj)} {s : Shared} {σ : St} {H : Hp} {x : Str} {u : Value} {pos : Pos} {Q : Value → Shared → Prop} (I : Inv X pins σ H s) (hg : Gl X x) (hm : X.mg x = none) (hv : bootBuiltins x = some u) (h : Q u s)
    (hn : x ≠ "__name__" := by decide) (hd : (x == ("__debug__" : Str)) = false := by decide) : wpAny (model X.prog X.w) X.A (eval (.Name x pos) X.env) Q E s := by
  obtain ⟨mb, h1, h2⟩ := I.mod.blt
  exact Calls.Name_function_global I.ok.kind hg (Calls.loadGlobal_builtin (by rw [I.ok.glob]; exact I.mod.glob.keeps I.bk) hm (by rw [I.ok.blt]; exact h1.keeps I.bk) ((h2 x hn).trans hv) h) hd
theorem pe_glob {x : Str} {v : V} {u : Value} {pos : Pos} (hg : Gl X x) (hm : X.mg x = some u) (r : RelV v u) (hd : (x == ("__debug__" : Str)) = false := by decide) : PE X (.Name x pos) (tC v) :=
  fun _ _ _ H _ I h => ld_glob I hg hm ⟨v, H, I, r, h⟩ hd
theorem pe_bltn {x : Str} {v : V} {u : Value} {pos : Pos} (hg : Gl X x) (hm : X.mg x = none) (hv : bootBuiltins x = some u) (r : RelV v u) (hn : x ≠ "__name__" := by decide) (hd : (x == ("__debug__" : Str)) = false := by decide) : PE X (.Name x pos) (tC v) :=
  fun _ _ _ H _ I h => ld_blt I hg hm hv ⟨v, H, I, r, h⟩ hn hd
variable {a b : Expr} {ta tb : TE} {pos : Pos}
noncomputable def tB (t : TE) : TT := fun σ H Q => t σ H fun x H1 => ∃ c, x = .bl c ∧ Q c H1
variable {tA tB' : TT} {rest : List Expr}
noncomputable def tAnd (t u : TT) : TT := fun σ H Q => t σ H fun c H1 => if c = true then u σ H1 Q else Q false H1
noncomputable def tOr (t u : TT) : TT := fun σ H Q => t σ H fun c H1 => if c = true then Q true H1 else u σ H1 Q
noncomputable def tNot (t : TT) : TT := fun σ H Q => t σ H fun c H1 => Q (!c) H1
theorem pw_and1 (ha : PT X a tA) : PW X (.BoolOp .And [a] pos) tA := by
  intro wh pins s σ H Q I h
  refine isTrue_and (thn (ha pins s σ H Q I h) fun c s1 e => ?_)
  cases c with
  | true => exact isTrue_and_nil e
  | false => exact e
theorem pw_or1 (ha : PT X a tA) : PW X (.BoolOp .Or [a] pos) tA := by
  intro wh pins s σ H Q I h
  refine isTrue_or (thn (ha pins s σ H Q I h) fun c s1 e => ?_)
  cases c with
  | false => exact isTrue_or_nil e
  | true => exact e
theorem pw_and (ha : PT X a tA) (hb : PW X (.BoolOp .And (b :: rest) pos) tB') : PW X (.BoolOp .And (a :: b :: rest) pos) (tAnd tA tB') := by
  intro wh pins s σ H Q I h
  refine isTrue_and (thn (ha pins s σ H _ I h) fun c s1 ⟨H1, I1, q1⟩ => ?_)
  cases c with
  | true => exact hb wh pins s1 σ H1 Q I1 q1
  | false => exact ⟨H1, I1, q1⟩
theorem pw_or (ha : PT X a tA) (hb : PW X (.BoolOp .Or (b :: rest) pos) tB') : PW X (.BoolOp .Or (a :: b :: rest) pos) (tOr tA tB') := by
  intro wh pins s σ H Q I h
  refine isTrue_or (thn (ha pins s σ H _ I h) fun c s1 ⟨H1, I1, q1⟩ => ?_)
  cases c with
  | true => exact ⟨H1, I1, q1⟩
  | false => exact hb wh pins s1 σ H1 Q I1 q1
theorem pt_not (ha : PT X a tA) : PT X (.UnaryOp .Not a pos) (tNot tA) := by
  intro pins s σ H Q I h
  exact isTrue_not (ha pins s σ H (fun c H1 => Q (!c) H1) I h)
noncomputable def tAndV (ta tb : TE) : TE := fun σ H Q => ta σ H fun x H1 => ∃ c, x = .bl c ∧ if c = true then tb σ H1 Q else Q (.bl false) H1
noncomputable def tNotV (ta : TE) : TE := fun σ H Q => ta σ H fun x H1 => ∃ c, x = .bl c ∧ Q (.bl (!c)) H1
theorem pe_one {op} {t : TE} (h : PE X a t) : PE X (.BoolOp op [a] pos) t := fun pins s σ H Q I hw => BoolOp_one (h pins s σ H Q I hw)
theorem pe_and (ha : PE X a ta) (hb : PE X (.BoolOp .And (b :: rest) pos) tb) : PE X (.BoolOp .And (a :: b :: rest) pos) (tAndV ta tb) := by
  intro pins s σ H Q I h
  refine BoolOp_and (thn (ha pins s σ H _ I h) fun v s1 ⟨x, H1, I1, r1, q1⟩ => ?_)
  obtain ⟨c, rfl, q1⟩ := q1
  cases r1
  refine wpAny_truthy_bool ?_
  cases c with
  | true => exact hb pins s1 σ H1 Q I1 q1
  | false => exact ⟨.bl false, H1, I1, rfl, q1⟩
theorem pe_not (ha : PE X a ta) : PE X (.UnaryOp .Not a pos) (tNotV ta) := by
  intro pins s σ H Q I h
  refine UnaryOp_ (thn (ha pins s σ H _ I h) fun v s1 ⟨x, H1, I1, r1, q1⟩ => ?_)
  obtain ⟨c, rfl, q1⟩ := q1
  cases r1
  exact not_of (wpAny_truthy_bool ⟨.bl (!c), H1, I1, rfl, q1⟩)
end
end L2
namespace L2
open PySem PySem.Spec PyProof.Rows
noncomputable def SqL (K : PySem.W.Frag) (H : Hp) (a : Addr) (xs : List V) : Prop :=
  Rd H a (.lst xs) ∨
    ∃ (o : Obj) (its : Array Value) (n : Nat), K.lookup a = some o ∧ o.cls = .type "list" ∧ o.dict = none ∧ o.data = .seq its n ∧ its.size ≤ sizeLine ∧ Vals xs its.toList
noncomputable def SqT (K : PySem.W.Frag) (H : Hp) (a : Addr) (xs : List V) : Prop :=
  Rd H a (.tup xs) ∨
    ∃ (o : Obj) (its : Array Value) (n : Nat), K.lookup a = some o ∧ o.cls = .type "tuple" ∧ o.data = .seq its n ∧ its.size ≤ sizeLine ∧ Vals xs its.toList
noncomputable def absV : Value → Option V
  | .none => some .non
  | .bool b => some (.bl b)
  | .int i _ => some (.int i)
  | .str x _ => some (.str x)
  | .bytes b _ => some (.byt b)
  | .float b _ => some (.flt b)
  | .ref a => some (.ref a)
  | .type n => some (.ty n)
  | _ => none
theorem RelV.abs {x : V} {u : Value} (r : RelV x u) : absV u = some x := by
  cases x with
  | non => cases r; rfl
  | bl _ => cases r; rfl
  | int _ => obtain ⟨t, rfl⟩ := r; rfl
  | str _ => obtain ⟨t, rfl⟩ := r; rfl
  | byt _ => obtain ⟨t, rfl⟩ := r; rfl
  | flt _ => obtain ⟨t, rfl⟩ := r; rfl
  | ref _ => cases r; rfl
  | ty _ => cases r; rfl
theorem RelV.inj {x y : V} {u : Value} (r : RelV x u) (q : RelV y u) : x = y := Option.some.inj (r.abs.symm.trans q.abs)
theorem Vals.inj : ∀ {xs ys : List V} {us : List Value}, Vals xs us → Vals ys us → xs = ys
  | _, _, _, .nil, .nil => rfl
  | _, _, _, .cons r t, .cons r' t' => by rw [r.inj r', Vals.inj t t']
section
variable {X : Cx} {pins : List (Addr × Obj)} {σ : St} {H : Hp} {s : Shared} {a : Addr} {xs ys : List V}
theorem SqL.of {K : PySem.W.Frag} (h : H a = some (.lst xs)) : SqL K H a xs := .inl (.inl h)
theorem SqT.of {K : PySem.W.Frag} (h : H a = some (.tup xs)) : SqT K H a xs := .inl (.inl h)
theorem Inv.list (I : Inv X pins σ H s) (h : SqL X.K H a xs) : ∃ its : List Value, Vals xs its ∧ PlainL s.heap a its.toArray ∧ xs.length ≤ sizeLine := by
  rcases h with h | ⟨o, its, n, hk, hc, hd, hs, hz, r⟩
  · obtain ⟨z, its, n, r, e⟩ := h.ok I.hok
    exact ⟨its, r, ⟨_, n, e, rfl, rfl, rfl⟩, z⟩
  · refine ⟨its.toList, r, ⟨o, n, I.kIn a o hk, hc, hd, by simpa using hs⟩, ?_⟩
    have e := r.length
    simp only [Array.length_toList] at e
    omega
theorem Inv.tuple (I : Inv X pins σ H s) (h : SqT X.K H a xs) : ∃ its : List Value, Vals xs its ∧ IsTup s.heap a its.toArray ∧ xs.length ≤ sizeLine := by
  rcases h with h | ⟨o, its, n, hk, hc, hs, hz, r⟩
  · obtain ⟨z, its, r, p, _⟩ := h.ok I.hok
    exact ⟨its, r, p, z⟩
  · refine ⟨its.toList, r, ⟨o, I.kIn a o hk, hc, n, by simpa using hs⟩, ?_⟩
    have e := r.length
    simp only [Array.length_toList] at e
    omega
theorem Inv.list_inj (I : Inv X pins σ H s) (h : SqL X.K H a xs) (h' : SqL X.K H a ys) : xs = ys := by
  obtain ⟨its, r, ⟨o, n, e, _, _, d⟩, _⟩ := I.list h
  obtain ⟨its', r', ⟨o', n', e', _, _, d'⟩, _⟩ := I.list h'
  rw [e] at e'; cases e'
  rw [d] at d'
  injection d' with d1 _
  have : its = its' := by simpa using congrArg Array.toList d1
  subst this
  exact r.inj r'
theorem Inv.tuple_inj (I : Inv X pins σ H s) (h : SqT X.K H a xs) (h' : SqT X.K H a ys) : xs = ys := by
  obtain ⟨its, r, ⟨o, e, _, n, d⟩, _⟩ := I.tuple h
  obtain ⟨its', r', ⟨o', e', _, n', d'⟩, _⟩ := I.tuple h'
  rw [e] at e'; cases e'
  rw [d] at d'
  injection d' with d1 _
  have : its = its' := by simpa using congrArg Array.toList d1
  subst this
  exact r.inj r'
end
noncomputable abbrev Cx.wish (X : Cx) (E : Value → Shared → Prop) : Cx := { X with xe := E }
noncomputable abbrev Cx.nox (X : Cx) : Cx := X.wish fun _ _ => False
theorem Cx.Ok.wish {X : Cx} (ok : X.Ok) (E : Value → Shared → Prop) : (X.wish E).Ok :=
  ⟨ok.mod, ok.kind, ok.glob, ok.blt, ok.above, ok.inj, ok.has, ok.cab, ok.hd, ok.frames, ok.stk, ok.exf, ok.bs, ok.bsz, ok.noex, ok.exfs, ok.funs, ok.frf⟩
theorem Cx.Ok.unwish {X : Cx} {E : Value → Shared → Prop} (ok : (X.wish E).Ok) : X.Ok :=
  ⟨ok.mod, ok.kind, ok.glob, ok.blt, ok.above, ok.inj, ok.has, ok.cab, ok.hd, ok.frames, ok.stk, ok.exf, ok.bs, ok.bsz, ok.noex, ok.exfs, ok.funs, ok.frf⟩
section
variable {X : Cx} {pins : List (Addr × Obj)} {σ : St} {H : Hp} {s : Shared} {E : Value → Shared → Prop}
theorem Inv.wish (I : Inv X pins σ H s) (E : Value → Shared → Prop) : Inv (X.wish E) pins σ H s := ⟨I.ok.wish E, I.os, I.bare, I.base, I.loc, I.cell, I.free, I.freeC, I.pin, I.hok, I.len⟩
theorem Inv.unwish (I : Inv (X.wish E) pins σ H s) : Inv X pins σ H s := ⟨I.ok.unwish, I.os, I.bare, I.base, I.loc, I.cell, I.free, I.freeC, I.pin, I.hok, I.len⟩
theorem SP.unwish {D : Ends} {f : Flow} {s' : Shared} (h : SP (X.wish E) pins D f s') : SP X pins D f s' := by
  cases f with
  | next => obtain ⟨σ', H', I, q⟩ := h; exact ⟨σ', H', I.unwish, q⟩
  | brk => obtain ⟨σ', H', I, q⟩ := h; exact ⟨σ', H', I.unwish, q⟩
  | cont => obtain ⟨σ', H', I, q⟩ := h; exact ⟨σ', H', I.unwish, q⟩
  | ret u => obtain ⟨v, σ', H', I, r, q⟩ := h; exact ⟨v, σ', H', I.unwish, r, q⟩
theorem PE.nox {e : Expr} {t : TE} (h : PE X.nox e t) : PE X e t := fun pins s σ H Q I hw =>
  wpAny_mono (h pins s σ H Q (I.wish _) hw) (fun _ _ ⟨v, H', I', r, q⟩ => ⟨v, H', I'.unwish, r, q⟩) fun _ _ z => False.elim z
theorem PT.nox {e : Expr} {t : TT} (h : PT X.nox e t) : PT X e t := fun pins s σ H Q I hw =>
  wpAny_mono (h pins s σ H Q (I.wish _) hw) (fun _ _ ⟨H', I', q⟩ => ⟨H', I'.unwish, q⟩) fun _ _ z => False.elim z
theorem PSs.nox {st : List Stmt} {t : TS} (h : PSs X.nox st t) : PSs X st t := fun pins s σ H D I hw =>
  wpAny_mono (h pins s σ H D (I.wish _) hw) (fun _ _ q => q.unwish) fun _ _ z => False.elim z
end
section
variable {X : Cx} {st : Stmt} {rest : List Stmt} {t u : TS} {e : Expr} {te : TE} {pos : Pos}
noncomputable def tNext : TS := fun D σ H => D.nx σ H
noncomputable def tSeq (t u : TS) : TS := fun D σ H => t { D with nx := u D } σ H
theorem pss_nil : PSs X [] tNext := fun _ _ σ H _ I h => wpAny_execs_nil ⟨σ, H, I, h⟩
theorem pss_cons (h1 : PS X st t) (h2 : PSs X rest u) : PSs X (st :: rest) (tSeq t u) := by
  intro pins s σ H D I h
  refine wpAny_execs_cons (thn (h1 pins s σ H { D with nx := u D } I h) fun f s1 q => ?_)
  cases f with
  | next =>
    obtain ⟨σ', H', I', q⟩ := q
    exact h2 pins s1 σ' H' D I' q
  | ret v => exact q
  | brk => exact q
  | cont => exact q
theorem Inv.quiet {pins : List (Addr × Obj)} {σ : St} {H : Hp} {s : Shared} (I : Inv X pins σ H s) : interactive X.env = false := by simp [interactive, I.ok.kind]
noncomputable def tDrop (te : TE) : TS := fun D σ H => te σ H fun _ H1 => D.nx σ H1
theorem ps_expr (he : PE X e te) (hs : swapsWith e none pos.line X.env = pure false := by rfl) : PS X (.Expr e pos) (tDrop te) := by
  intro pins s σ H D I h
  exact wpAny_Expr_any (thn (he pins s σ H _ I h) fun v s1 ⟨x, H1, I1, r1, q1⟩ => ⟨σ, H1, I1, q1⟩) I.quiet hs
noncomputable def tRet (te : TE) : TS := fun D σ H => te σ H D.rt
theorem ps_ret (he : PE X e te) : PS X (.Return (some e) pos) (tRet te) := by
  intro pins s σ H D I h
  exact wpAny_Return_some (thn (he pins s σ H _ I h) fun v s1 ⟨x, H1, I1, r1, q1⟩ => ⟨x, σ, H1, I1, r1, q1⟩)
noncomputable def tIfS (c : TT) (t u : TS) : TS := fun D σ H => c σ H fun b H1 => if b = true then t D σ H1 else u D σ H1
theorem ps_if {c : Expr} {a b : List Stmt} {tc : TT} (hc : PT X c tc) (ha : PSs X a t) (hb : PSs X b u) : PS X (.If c a b pos) (tIfS tc t u) := by
  intro pins s σ H D I h
  refine wpAny_If (thn (hc pins s σ H _ I h) fun d s1 ⟨H1, I1, q1⟩ => ?_)
  cases d with
  | true => exact ha pins s1 σ H1 D I1 q1
  | false => exact hb pins s1 σ H1 D I1 q1
noncomputable def tNever : TS := fun _ _ _ => False
theorem ps_never : PS X st tNever := fun _ _ _ _ _ _ h => h.elim
end
noncomputable abbrev TG := V → St → Hp → (St → Hp → Prop) → Prop
noncomputable abbrev TGs := List V → St → Hp → (St → Hp → Prop) → Prop
noncomputable def PG (X : Cx) (target : Expr) (t : TG) : Prop :=
  ∀ (pins : List (Addr × Obj)) (s : Shared) (σ : St) (H : Hp) (v : V) (u : Value) (Q : St → Hp → Prop), Inv X pins σ H s → RelV v u → t v σ H Q →
    wpAny (model X.prog X.w) X.A (assign target X.env u) (fun _ s' => ∃ σ' H', Inv X pins σ' H' s' ∧ Q σ' H') X.xe s
noncomputable def PGs (X : Cx) (ts : List Expr) (t : TGs) : Prop :=
  ∀ (pins : List (Addr × Obj)) (s : Shared) (σ : St) (H : Hp) (vs : List V) (us : List Value) (Q : St → Hp → Prop), Inv X pins σ H s → Vals vs us → t vs σ H Q →
    wpAny (model X.prog X.w) X.A (assignInOrder ((assignEach ts X.env).map (·.2)) us) (fun _ s' => ∃ σ' H', Inv X pins σ' H' s' ∧ Q σ' H') X.xe s
noncomputable abbrev TSet := V → V → V → Hp → (Hp → Prop) → Prop
noncomputable def PSet (X : Cx) (t : TSet) : Prop :=
  ∀ (pins : List (Addr × Obj)) (s : Shared) (σ : St) (H : Hp) (o i v : V) (ov iv u : Value) (Q : Hp → Prop), Inv X pins σ H s → RelV o ov → RelV i iv → RelV v u → t o i v H Q →
    wpAny (model X.prog X.w) X.A (setItem ov iv u) (fun _ s' => ∃ H', Inv X pins σ H' s' ∧ Q H') X.xe s
section
variable {X : Cx} {pos : Pos}
noncomputable def gName (i : Nat) : TG := fun v σ H Q => Q (σ.set i (some v)) H
theorem pg_name {i : Nat} {x : Str} (hN : X.N.Nodup) (hi : X.N[i]? = some x) (hx : Loc X.env.scope x) (hf : X.fn x = true ∨ X.env.scope.names.lookup x = some .local := by first | exact .inl rfl | exact .inr rfl | assumption) : PG X (.Name x pos) (gName i) := by
  intro pins s σ H v u Q I r h
  exact wpAny_assign_Name (store_ok I hN hi hx r (fun s' I' => ⟨_, H, I', h⟩) hf)
noncomputable def gNil : TGs := fun vs σ H Q => vs = [] ∧ Q σ H
noncomputable def gCons (t : TG) (u : TGs) : TGs := fun vs σ H Q => ∃ v r, vs = v :: r ∧ t v σ H fun σ' H' => u r σ' H' Q
theorem pgs_nil : PGs X [] gNil := by
  intro pins s σ H vs us Q I r h
  obtain ⟨e, h⟩ := h
  subst e
  cases r
  exact assignInOrder_nil ⟨σ, H, I, h⟩
theorem pgs_cons {e : Expr} {es : List Expr} {t : TG} {u : TGs} (h1 : PG X e t) (h2 : PGs X es u)
    (hs : (assignEach (e :: es) X.env).map (·.2) = assign e X.env :: (assignEach es X.env).map (·.2) := by rfl) : PGs X (e :: es) (gCons t u) := by
  intro pins s σ H vs us Q I r h
  obtain ⟨v, vr, e1, h⟩ := h
  subst e1
  cases r with
  | cons r rr =>
    rw [hs]
    refine assignInOrder_cons (thn (h1 pins s σ H _ _ _ I r h) fun _ s1 ⟨σ1, H1, I1, q1⟩ => ?_)
    exact h2 pins s1 σ1 H1 _ _ Q I1 rr q1
noncomputable def gTup (K : PySem.W.Frag) (n : Nat) (t : TGs) : TG := fun v σ H Q => ∃ a xs, v = .ref a ∧ SqT K H a xs ∧ xs.length = n ∧ t xs σ H Q
theorem pg_tup {es : List Expr} {k : Nat} {t : TGs} {n : Nat} (hc : X.calm = true) (h : PGs X es t)
    (hn : (assignEach es X.env).length = n := by rfl) (hst : (assignEach es X.env).findIdx? (·.1) = none := by rfl) : PG X (.Tuple es k pos) (gTup X.K n t) := by
  intro pins s σ H v u Q I r hw
  obtain ⟨a, xs, e1, hq, hl, hw⟩ := hw
  subst e1
  cases r
  obtain ⟨its, rv, ht, hz⟩ := I.tuple hq
  refine assign_Tuple_tuple (I.ok.hd hc) ht (by simp [hn, ← hl, rv.length]) hst fun h' hx => ?_
  have I1 : Inv X pins σ H { s with heap := h' } := I.kept (t' := s.toks) fun b o e => hx b o (Nat.ne_of_lt (Heap.lt_size e)) e
  exact h pins _ σ H xs _ Q I1 (by simpa using rv) hw
noncomputable def gSub (to ti : TE) (t : TSet) : TG := fun v σ H Q => to σ H fun o H1 => ti σ H1 fun i H2 => t o i v H2 fun H3 => Q σ H3
theorem pg_sub {o i : Expr} {to ti : TE} {t : TSet} (ho : PE X o to) (hi : PE X i ti) (hs : PSet X t)
    (ha : ∀ v, assign (.Subscript o i pos) X.env v = (do
      let ov ← holding [v] (eval o X.env)
      let iv ← holding [v, ov] (eval i X.env)
      standAt pos
      holding [v, ov, iv] (setItem ov iv v)
      release [v, ov, iv] []) := by intro _; rfl) : PG X (.Subscript o i pos) (gSub to ti t) := by
  intro pins s σ H v u Q I r h
  rw [ha]
  refine wpAny_bind (wpAny_holding (thn (ho pins s σ H _ I h) fun ov s1 ⟨x, H1, I1, r1, q1⟩ => ?_))
  refine wpAny_bind (wpAny_holding (thn (hi pins s1 σ H1 _ I1 q1) fun iv s2 ⟨y, H2, I2, r2, q2⟩ => ?_))
  refine wpAny_bind (wpAny_standAt (wpAny_bind (wpAny_holding (thn (hs pins s2 σ H2 x y v ov iv u _ I2 r1 r2 r q2) fun _ s3 ⟨H3, I3, q3⟩ => ?_))))
  exact wpAny_release ⟨σ, H3, I3, q3⟩
noncomputable def tAsg (te : TE) (g : TG) : TS := fun D σ H => te σ H fun x H1 => g x σ H1 D.nx
theorem ps_asg {tg e : Expr} {te : TE} {g : TG} (he : PE X e te) (hg : PG X tg g) (hs : swapsWithSole [tg] e pos.line X.env = pure false := by rfl) (hw : swappedStores [tg] e X.env = pure none := by rfl)
    (h1 : (assignEach [tg] X.env).map (·.2) = [assign tg X.env] := by rfl) : PS X (.Assign [tg] e pos) (tAsg te g) := by
  intro pins s σ H D I h
  refine wpAny_Assign_stores (thn (he pins s σ H _ I h) fun v s1 ⟨x, H1, I1, r1, q1⟩ => ?_) hs hw
  rw [h1]
  exact thn (hg pins s1 σ H1 x v _ I1 r1 q1) fun _ s2 q => q
theorem ps_set {i : Nat} {x : Str} {e : Expr} {te : TE} {pos' : Pos} (hN : X.N.Nodup) (hi : X.N[i]? = some x) (hx : Loc X.env.scope x) (he : PE X e te) (hs : swapsWith e (some (.Name x pos')) pos.line X.env = pure false := by rfl) (hf : X.fn x = true ∨ X.env.scope.names.lookup x = some .local := by first | exact .inl rfl | exact .inr rfl | assumption) :
    PS X (.Assign [.Name x pos'] e pos) (tAsg te (gName i)) := by
  intro pins s σ H D I h
  refine wpAny_Assign_Name (thn (he pins s σ H _ I h) fun v s1 ⟨y, H1, I1, r1, q1⟩ => ?_) hs
  exact store_ok I1 hN hi hx r1 (fun s2 I2 => ⟨_, H1, I2, q1⟩) hf
end
section
variable {X : Cx} {pos : Pos}
noncomputable def tWhile (c : TT) (tb : TS) : TS := fun D σ H => ∃ W : Nat → St → Hp → Prop, (∃ m, W m σ H) ∧ ∀ m σ H, W m σ H →
  c σ H fun b H1 => if b = true then ∃ N : St → Hp → Prop, (∀ σ' H', N σ' H' → ∃ m', m' < m ∧ W m' σ' H') ∧ tb { D with nx := N, ct := N, bk := D.nx } σ H1 else D.nx σ H1
theorem ps_while {c : Expr} {body : List Stmt} {tc : TT} {tb : TS} (hp : PassesOwn (model X.prog X.w) X.A X.env X.xe) (hc : PT X c tc) (hb : PSs X body tb) : PS X (.While c body [] pos) (tWhile tc tb) := by
  intro pins s σ H D I h
  obtain ⟨W, ⟨m0, w0⟩, turn⟩ := h
  refine wpAny_While (codeAny_whileLoop (fun n s' => ∃ σ' H', Inv X pins σ' H' s' ∧ W n σ' H') ?_ m0 ⟨σ, H, I, w0⟩)
  rintro n s1 ⟨σ1, H1, I1, w1⟩
  refine wpAny_passesOwn hp (thn (hc pins s1 σ1 H1 _ I1 (turn n σ1 H1 w1)) fun b s2 ⟨H2, I2, q2⟩ => ?_)
  cases b with
  | true =>
    obtain ⟨N, hN, q2⟩ := q2
    rw [if_pos rfl]
    refine wpAny_passesOwn hp (thn (hb pins s2 σ1 H2 _ I2 q2) fun f s3 q3 => ?_)
    cases f with
    | next =>
      obtain ⟨σ3, H3, I3, n3⟩ := q3
      obtain ⟨m', hm, w3⟩ := hN σ3 H3 n3
      exact ⟨m', hm, σ3, H3, I3, w3⟩
    | cont =>
      obtain ⟨σ3, H3, I3, n3⟩ := q3
      obtain ⟨m', hm, w3⟩ := hN σ3 H3 n3
      exact ⟨m', hm, σ3, H3, I3, w3⟩
    | brk => exact q3
    | ret v => exact q3
  | false =>
    rw [if_neg Bool.false_ne_true]
    exact wpAny_execs_nil ⟨σ1, H2, I2, q2⟩
end
structure It where
  go : Nat → Hp → Prop
  yld : Nat → Hp → V → Hp → Prop
  stop : Nat → Hp → Prop
noncomputable def FpOk (X : Cx) (pins : List (Addr × Obj)) (H : Hp) (b : Addr) : Prop :=
  H b = none ∧ b ≠ X.env.locals ∧ b ∉ X.fs ∧ (b ∈ X.ex ∨ X.s₀.heap.objs.size ≤ b) ∧ (∀ x c, X.env.cells.lookup x = some c → c ≠ b) ∧ ∀ p ∈ X.pn ++ pins, p.1 ≠ b
theorem Inv.fpOk {X : Cx} {pins : List (Addr × Obj)} {σ : St} {H H' : Hp} {s : Shared} {b : Addr} (I : Inv X pins σ H s) (hb : s.heap.objs.size ≤ b) (hn : H' b = none) : FpOk X pins H' b := by
  refine ⟨hn, Nat.ne_of_gt (Nat.lt_of_lt_of_le I.lt hb), I.nofs hb, .inr (Nat.le_trans I.sz hb), fun x c e z => ?_, fun p hp z => ?_⟩
  · obtain ⟨v, q⟩ := I.cell x c e
    exact absurd (Nat.lt_of_lt_of_le q.lt (by rw [z]; exact hb)) (Nat.lt_irrefl _)
  · exact absurd (Nat.lt_of_lt_of_le (Heap.lt_size (I.pin p hp).1) (by rw [z]; exact hb)) (Nat.lt_irrefl _)
structure Turn (P : Program) (w : World) (K : PySem.W.Frag) (tg : Expr) (J : It) (fp : List Addr) (it : Addr) (tn : Nat → Heap → Prop) : Prop where
  mem : it ∈ fp
  obj : ∀ i h, tn i h → ∀ b ∈ fp, ∃ o, h.get? b = some o ∧ ∀ v, o.data ≠ .cell v
  keep : ∀ i h h', tn i h → (∀ b ∈ fp, ∀ o, h.get? b = some o → h'.get? b = some o) → tn i h'
  item : ∀ (X : Cx), X.prog = P → X.w = w → X.K = K → X.calm = true → ∀ (i : Nat) (pins : List (Addr × Obj)) (s : Shared) (σ : St) (H : Hp) (E : Value → Shared → Prop), Inv X pins σ H s → (∀ b ∈ fp, FpOk X pins H b) → tn i s.heap → J.go i H →
    wpAny (model P w) X.A (pyNext (.ref it)) (fun r s1 => ∃ u, r = some u ∧
      wpAny (model P w) X.A (letOwnedTupleGo tg (.ref it) u) (fun _ s2 => ∃ x H', Inv X pins σ H' s2 ∧ RelV x u ∧ J.yld i H x H' ∧ tn (i + 1) s2.heap ∧ ∀ b ∈ fp, H' b = none) E s1) E s
  done : ∀ (X : Cx), X.prog = P → X.w = w → X.K = K → X.calm = true → ∀ (i : Nat) (pins : List (Addr × Obj)) (s : Shared) (σ : St) (H : Hp) (E : Value → Shared → Prop), Inv X pins σ H s → (∀ b ∈ fp, FpOk X pins H b) → tn i s.heap → J.stop i H →
    wpAny (model P w) X.A (pyNext (.ref it)) (fun r s1 => r = none ∧ Inv X pins σ H s1) E s
  self : ∀ (A : Around) (i : Nat) (s : Shared) (Q : Value → Shared → Prop) (E : Value → Shared → Prop), tn i s.heap → Q (.ref it) s → wpAny (model P w) A (pyIter (.ref it)) Q E s
noncomputable abbrev TI := St → Hp → (It → Hp → Prop) → Prop
noncomputable def PIE (X : Cx) (pins : List (Addr × Obj)) (σ : St) (tg : Expr) (R : It → Hp → Prop) (itv : Value) (s2 : Shared) : Prop :=
  ∃ (it : Addr) (fp : List Addr) (tn : Nat → Heap → Prop) (J : It) (H' : Hp), itv = .ref it ∧ Inv X pins σ H' s2 ∧ Turn X.prog X.w X.K tg J fp it tn ∧ tn 0 s2.heap ∧ (∀ b ∈ fp, FpOk X pins H' b) ∧ R J H'
noncomputable def PI (X : Cx) (tg iter : Expr) (wi : TI) : Prop :=
  ∀ (pins : List (Addr × Obj)) (s : Shared) (σ : St) (H : Hp) (R : It → Hp → Prop), Inv X pins σ H s → wi σ H R →
    wpAny (model X.prog X.w) X.A (eval iter X.env) (fun v s1 => wpAny (model X.prog X.w) X.A (pyIter v) (PIE X pins σ tg R) X.xe s1) X.xe s
theorem go_of {M : Model} {A : Around} {E : Value → Shared → Prop} {s : Shared} {tg : Expr} {it : Addr} {u : Value} {o : Obj} {n : String} {vs : Array Value} {Q : Unit → Shared → Prop} (ho : s.heap.get? it = some o) (hc : o.cls = .type n) (hd : o.data = .fields vs)
    (hn : ["enumerate", "zip", "dict_itemiterator", "dict_reverseitemiterator", "odict_iterator", "itertools.zip_longest", "itertools.pairwise"].contains n = false) (hQ : Q () s) : wpAny M A (letOwnedTupleGo tg (.ref it) u) Q E s := by
  unfold letOwnedTupleGo
  cases tg <;> first
    | exact wpAny_pure hQ
    | (cases u <;> first
        | exact wpAny_pure hQ
        | (refine wpAny_bind (wpAny_load ho ?_)
           rw [hc, hd]
           show wpAny M A (if (["enumerate", "zip", "dict_itemiterator", "dict_reverseitemiterator", "odict_iterator", "itertools.zip_longest", "itertools.pairwise"].contains n && vs[0]? == some (rawInt _)) = true then _ else _) Q E s
           rw [if_neg (by intro h; rw [hn, Bool.false_and] at h; cases h)]
           exact wpAny_pure hQ))
noncomputable def Itl (K : PySem.W.Frag) (a : Addr) : It :=
  ⟨fun i H => ∃ xs x, SqL K H a xs ∧ xs[i]? = some x, fun i H x H' => H' = H ∧ ∀ xs, SqL K H a xs → xs[i]? = some x, fun i H => ∃ xs, SqL K H a xs ∧ xs.length ≤ i⟩
noncomputable def Itt (K : PySem.W.Frag) (a : Addr) : It :=
  ⟨fun i H => ∃ xs x, SqT K H a xs ∧ xs[i]? = some x, fun i H x H' => H' = H ∧ ∀ xs, SqT K H a xs → xs[i]? = some x, fun i H => ∃ xs, SqT K H a xs ∧ xs.length ≤ i⟩
noncomputable def Itr (lo : Int) (n : Nat) : It := ⟨fun i _ => i < n, fun i H x H' => H' = H ∧ x = .int (lo + i), fun i _ => n ≤ i⟩
theorem turn_list {P : Program} {w : World} {K : PySem.W.Frag} {tg : Expr} (a it : Addr) : Turn P w K tg (Itl K a) [it] it (fun i h => h.IsListIter it a i) where
  mem := by simp
  obj := fun i h st b hb => by
    have e : b = it := by simpa using hb
    subst e
    obtain ⟨o, e, c, d⟩ := st
    exact ⟨o, e, fun v z => by rw [d] at z; cases z⟩
  keep := fun i h h' st k => st.at fun o e => k it (by simp) o e
  item := by
    intro X hP hw hK hc i pins s σ H E I hf st hg
    subst hP hw hK
    obtain ⟨xs, x, hq, hx⟩ := hg
    obtain ⟨its, rv, p, hz⟩ := I.list hq
    obtain ⟨u, hu, ru⟩ := rv.get hx
    obtain ⟨f0, f1, f2, f3, f4, f5⟩ := hf it (by simp)
    refine wpAny_pyNext_list_item st p.isList (x := u) (by simpa using hu) fun h' st' sb => ?_
    have I1 : Inv X pins σ H { s with heap := h' } := I.turned (t' := s.toks) (fun b o hb e => (sb.2 b hb).trans e) f0 f1 f3 f4 f5
    obtain ⟨o, e, c, d⟩ := id st'
    exact ⟨u, rfl, go_of (s := { s with heap := h' }) e c d (by decide) ⟨x, H, I1, ru, ⟨rfl, fun ys hy => by rw [I.list_inj hy hq]; exact hx⟩, st', fun b hb => (hf b hb).1⟩⟩
  done := by
    intro X hP hw hK hc i pins s σ H E I hf st hg
    subst hP hw hK
    obtain ⟨xs, hq, hx⟩ := hg
    obtain ⟨its, rv, p, hz⟩ := I.list hq
    obtain ⟨f0, f1, f2, f3, f4, f5⟩ := hf it (by simp)
    have hl := rv.length
    exact wpAny_pyNext_list_end (I.ok.hd hc) st p.isList (by simp; omega) fun h' eb => ⟨rfl, I.turned (t' := s.toks) (fun b o hb e => eb b o hb e) f0 f1 f3 f4 f5⟩
  self := fun _ _ _ _ _ st h => wpAny_pyIter_listiter st h
theorem turn_tuple {P : Program} {w : World} {K : PySem.W.Frag} {tg : Expr} (a it : Addr) : Turn P w K tg (Itt K a) [it] it (fun i h => h.IsTupleIter it a i) where
  mem := by simp
  obj := fun i h st b hb => by
    have e : b = it := by simpa using hb
    subst e
    obtain ⟨o, e, c, d⟩ := st
    exact ⟨o, e, fun v z => by rw [d] at z; cases z⟩
  keep := fun i h h' st k => st.at fun o e => k it (by simp) o e
  item := by
    intro X hP hw hK hc i pins s σ H E I hf st hg
    subst hP hw hK
    obtain ⟨xs, x, hq, hx⟩ := hg
    obtain ⟨its, rv, p, hz⟩ := I.tuple hq
    obtain ⟨u, hu, ru⟩ := rv.get hx
    obtain ⟨f0, f1, f2, f3, f4, f5⟩ := hf it (by simp)
    refine wpAny_pyNext_tuple_item st (show s.heap.IsTuple a its.toArray from p) (x := u) (by simpa using hu) fun h' st' sb => ?_
    have I1 : Inv X pins σ H { s with heap := h' } := I.turned (t' := s.toks) (fun b o hb e => (sb.2 b hb).trans e) f0 f1 f3 f4 f5
    obtain ⟨o, e, c, d⟩ := id st'
    exact ⟨u, rfl, go_of (s := { s with heap := h' }) e c d (by decide) ⟨x, H, I1, ru, ⟨rfl, fun ys hy => by rw [I.tuple_inj hy hq]; exact hx⟩, st', fun b hb => (hf b hb).1⟩⟩
  done := by
    intro X hP hw hK hc i pins s σ H E I hf st hg
    subst hP hw hK
    obtain ⟨xs, hq, hx⟩ := hg
    obtain ⟨its, rv, p, hz⟩ := I.tuple hq
    obtain ⟨f0, f1, f2, f3, f4, f5⟩ := hf it (by simp)
    have hl := rv.length
    exact wpAny_pyNext_tuple_end (I.ok.hd hc) st (show s.heap.IsTuple a its.toArray from p) (by simp; omega) fun h' eb => ⟨rfl, I.turned (t' := s.toks) (fun b o hb e => eb b o hb e) f0 f1 f3 f4 f5⟩
  self := fun _ _ _ _ _ st h => wpAny_pyIter_tupleiter st h
theorem turn_range {P : Program} {w : World} {K : PySem.W.Frag} {tg : Expr} (it : Addr) (lo : Int) (n : Nat) : Turn P w K tg (Itr lo n) [it] it (fun i h => IsRangeIter h it (lo + (i : Nat) * 1) ((n : Int) - (i : Nat)) 1) where
  mem := by simp
  obj := fun i h st b hb => by
    have e : b = it := by simpa using hb
    subst e
    exact ⟨_, st, fun v z => by
      have z' : Data.fields _ = Data.cell v := z
      cases z'⟩
  keep := fun i h h' st k => k it (by simp) _ st
  item := by
    intro X hP hw hK hc i pins s σ H E I hf st hg
    subst hP hw hK
    obtain ⟨f0, f1, f2, f3, f4, f5⟩ := hf it (by simp)
    have W := Walks.range (prog := X.prog) (w := X.w) (I.ok.hd hc) it lo 1 n
    refine W.item i s _ _ hg st fun v h' tk hv st' kk => ?_
    obtain ⟨t, rfl⟩ := hv
    have I1 : Inv X pins σ H { s with heap := h', toks := tk } := I.turned (fun b o hb e => kk b o (by simpa using hb) e) f0 f1 f3 f4 f5
    refine ⟨_, rfl, go_of (s := { s with heap := h', toks := tk }) (n := "range_iterator") st' rfl rfl (by decide) ⟨.int (lo + i), H, I1, ⟨t, ?_⟩, ⟨rfl, rfl⟩, st', fun b hb => (hf b hb).1⟩⟩
    rw [Int.mul_one]
  done := by
    intro X hP hw hK hc i pins s σ H E I hf st hg
    subst hP hw hK
    obtain ⟨f0, f1, f2, f3, f4, f5⟩ := hf it (by simp)
    exact wpAny_pyNext_range_end (I.ok.hd hc) st (by have : n ≤ i := hg; omega) fun h' eb => ⟨rfl, I.turned (t' := s.toks) (fun b o hb e => eb b o hb e) f0 f1 f3 f4 f5⟩
  self := fun _ _ _ _ _ st h => wpAny_pyIter_rangeiter st h
end L2
namespace L2
open PySem PySem.Spec PyProof.Rows
section
variable {X : Cx} {tg : Expr}
theorem range_it {pins : List (Addr × Obj)} {σ : St} {H : Hp} {s : Shared} {R : It → Hp → Prop} {E : Value → Shared → Prop} {lo hi : Int} {t u v : Tok} {tk : Nat} (I : Inv X pins σ H s) (h1 : -(2 ^ 62) ≤ lo) (h2 : lo < 2 ^ 62) (h3 : -(2 ^ 62) ≤ hi) (h4 : hi < 2 ^ 62)
    (q : R (Itr lo (hi - lo).toNat) H) : wpAny (model X.prog X.w) X.A (pyIter (.ref s.heap.objs.size)) (PIE X pins σ tg R) E { s with heap := s.heap.push { cls := .type "range", data := .fields #[.int lo t, .int hi u, .int 1 v] }, toks := tk } := by
  refine wpAny_pyIter_range (IsRange.new ..) (small_one h1 h2 h3 h4) ?_
  have I1 : Inv X pins σ H { s with heap := s.heap.push { cls := .type "range", data := .fields #[.int lo t, .int hi u, .int 1 v] }, toks := tk } := I.kept fun b o e => Heap.get?_push_of_some _ e
  refine ⟨(s.heap.push { cls := .type "range", data := .fields #[.int lo t, .int hi u, .int 1 v] }).objs.size, [(s.heap.push { cls := .type "range", data := .fields #[.int lo t, .int hi u, .int 1 v] }).objs.size], _, _, H, rfl,
    I1.kept (t' := tk) fun b o e => Heap.get?_push_of_some _ e, turn_range _ lo (hi - lo).toNat, ?_, fun b hb => ?_, q⟩
  · have e1 : lo + ((0 : Nat) : Int) * 1 = lo := by simp
    have e2 : (((hi - lo).toNat : Nat) : Int) - ((0 : Nat) : Int) = Builtin.Range.rangeSize lo hi 1 := by rw [rangeSize_one]; split <;> omega
    show IsRangeIter _ _ (lo + ((0 : Nat) : Int) * 1) ((((hi - lo).toNat : Nat) : Int) - ((0 : Nat) : Int)) 1
    rw [e1, e2]
    exact Heap.get?_push_size _ rfl
  · have e : b = (s.heap.push { cls := .type "range", data := .fields #[.int lo t, .int hi u, .int 1 v] }).objs.size := by simpa using hb
    subst e
    exact I1.fpOk (Nat.le_refl _) (I1.hok.fresh (Nat.le_refl _))
noncomputable def iRng1 (ta : TA) : TI := fun σ H R => ta σ H fun vs H1 => ∃ j : Int, vs = [.int j] ∧ -(2 ^ 62) ≤ j ∧ j < 2 ^ 62 ∧ R (Itr 0 j.toNat) H1
theorem pi_range1 {a : Expr} {ta : TA} {p pos : Pos} (hg : Gl X "range") (hm : X.mg "range" = none) (ha : PA X [a] ta) (hs : starEach [a] X.env = [(false, eval a X.env)] := by rfl) : PI X tg (.Call (.Name "range" p) [a] [] pos) (iRng1 ta) := by
  intro pins s σ H R I h
  refine Call_ (ld_blt I hg hm boot_range (PyProof.Rows.callWith_type1 (thn (ha pos pins s σ H _ I h) fun us s1 ⟨vs, H1, I1, r1, q1⟩ => ?_) hs rfl))
  obtain ⟨j, e, q1, q2, q⟩ := q1
  subst e
  cases r1 with
  | cons r rr =>
    cases rr
    obtain ⟨t, rfl⟩ := r
    exact call_range_1 (range_it I1 (by omega) (by omega) q1 q2 (by simpa using q))
noncomputable def tFor (wi : TI) (g : TG) (tb : TS) : TS := fun D σ H => wi σ H fun J H1 => ∃ W : Nat → Nat → St → Hp → Prop, (∃ m, W 0 m σ H1) ∧ ∀ i m σ H, W i m σ H →
  (J.stop i H ∧ D.nx σ H) ∨ (J.go i H ∧ ∃ N : St → Hp → Prop, (∀ σ' H', N σ' H' → ∃ m', m' < m ∧ W (i + 1) m' σ' H') ∧ ∀ x H', J.yld i H x H' → g x σ H' fun σ2 H2 => tb { D with nx := N, ct := N, bk := D.nx } σ2 H2)
noncomputable def pinsAt (fp : List Addr) (h : Heap) : List (Addr × Obj) := fp.filterMap fun b => (h.get? b).map fun o => (b, o)
theorem mem_pinsAt {fp : List Addr} {h : Heap} {b : Addr} {o : Obj} (hb : b ∈ fp) (e : h.get? b = some o) : (b, o) ∈ pinsAt fp h := List.mem_filterMap.mpr ⟨b, hb, by rw [e]; rfl⟩
theorem of_pinsAt {fp : List Addr} {h : Heap} {p : Addr × Obj} (hp : p ∈ pinsAt fp h) : p.1 ∈ fp ∧ h.get? p.1 = some p.2 := by
  obtain ⟨b, hb, e⟩ := List.mem_filterMap.mp hp
  cases q : h.get? b with
  | none => rw [q] at e; cases e
  | some o =>
    rw [q] at e
    have e' : (b, o) = p := Option.some.inj e
    subst e'
    exact ⟨hb, q⟩
theorem Inv.pinned {pins : List (Addr × Obj)} {σ : St} {H : Hp} {s : Shared} {fp : List Addr} (I : Inv X pins σ H s) (hf : ∀ b ∈ fp, FpOk X pins H b) (ho : ∀ b ∈ fp, ∃ o, s.heap.get? b = some o ∧ ∀ v, o.data ≠ .cell v) : Inv X (pins ++ pinsAt fp s.heap) σ H s :=
  I.pins_of fun p hp => (List.mem_append.mp hp).elim (fun z => I.pin p (List.mem_append_right _ z)) fun z => by
    obtain ⟨hb, e⟩ := of_pinsAt z
    obtain ⟨f0, f1, f2, _⟩ := hf p.1 hb
    obtain ⟨o, e', d⟩ := ho p.1 hb
    rw [e] at e'; cases e'
    exact ⟨e, f0, f1, f2, d⟩
theorem Inv.unpinned {pins pl : List (Addr × Obj)} {σ : St} {H : Hp} {s : Shared} (I : Inv X (pins ++ pl) σ H s) : Inv X pins σ H s := I.pins_of fun p hp => I.pin p (List.mem_append_right _ (List.mem_append_left _ hp))
theorem ps_for {iter : Expr} {body : List Stmt} {wi : TI} {g : TG} {tb : TS} {pos : Pos} (hp : PassesOwn (model X.prog X.w) X.A X.env X.xe) (hc : X.calm = true) (hi : PI X tg iter wi) (hg : PG X tg g) (hb : PSs X body tb)
    (hs : ∀ x, foldedSetIterable iter X.env x = pure x := by intro _; rfl) : PS X (.For tg iter body [] pos) (tFor wi g tb) := by
  intro pins s σ H D I h
  refine wpAny_For (thn (hi pins s σ H _ I h) fun v s1 h1 => thn h1 fun itv s2 h2 => ?_) hs
  obtain ⟨it, fp, tn, J, H2, e, I2, T, st2, f2, W, ⟨m0, w0⟩, turn⟩ := h2
  subst e
  have stat : ∀ {H' : Hp}, (∀ b ∈ fp, H' b = none) → ∀ b ∈ fp, FpOk X pins H' b := fun hn b hb => ⟨hn b hb, (f2 b hb).2⟩
  refine codeAny_forLoop_any (fun n s' => ∃ i σ' H', Inv X pins σ' H' s' ∧ tn i s'.heap ∧ (∀ b ∈ fp, H' b = none) ∧ W i n σ' H') ?_ m0 ⟨0, σ, H2, I2, st2, fun b hb => (f2 b hb).1, w0⟩
  rintro n s3 ⟨i, σ3, H3, I3, st3, fr3, w3⟩
  rcases turn i n σ3 H3 w3 with ⟨stop, qn⟩ | ⟨go, N, hN, step⟩
  · refine wpAny_passesOwn hp (thn (T.done X rfl rfl rfl hc i pins s3 σ3 H3 X.xe I3 (stat fr3) st3 stop) fun r s4 ⟨hr, I4⟩ => ?_)
    subst hr
    exact wpAny_execs_nil ⟨σ3, H3, I4, qn⟩
  · refine wpAny_passesOwn hp (thn (T.item X rfl rfl rfl hc i pins s3 σ3 H3 X.xe I3 (stat fr3) st3 go) fun r s4 ⟨u, hr, h4⟩ => ?_)
    subst hr
    refine wpAny_passesOwn hp (thn h4 fun _ s5 ⟨x, H5, I5, r5, y5, st5, fr5⟩ => ?_)
    have I5' := I5.pinned (stat fr5) (T.obj _ _ st5)
    refine wpAny_passesOwn hp (thn (hg _ s5 σ3 H5 x u _ I5' r5 (step x H5 y5)) fun _ s6 ⟨σ6, H6, I6, q6⟩ => ?_)
    refine wpAny_passesOwn hp (thn (hb _ s6 σ6 H6 _ I6 q6) fun f s7 q7 => ?_)
    have again : ∀ {σ7 : St} {H7 : Hp}, Inv X (pins ++ pinsAt fp s5.heap) σ7 H7 s7 → N σ7 H7 → ∃ m, m < n ∧ ∃ i σ' H', Inv X pins σ' H' s7 ∧ tn i s7.heap ∧ (∀ b ∈ fp, H' b = none) ∧ W i m σ' H' := fun {σ7 H7} I7 n7 => by
      obtain ⟨m', hm, w7⟩ := hN σ7 H7 n7
      refine ⟨m', hm, i + 1, σ7, H7, I7.unpinned, T.keep _ _ _ st5 fun b hb o e => (I7.pin (b, o) (List.mem_append_right _ (List.mem_append_right _ (mem_pinsAt hb e)))).1, fun b hb => ?_, w7⟩
      obtain ⟨o, e, d⟩ := T.obj _ _ st5 b hb
      exact (I7.pin (b, o) (List.mem_append_right _ (List.mem_append_right _ (mem_pinsAt hb e)))).2.1
    cases f with
    | next => obtain ⟨σ7, H7, I7, n7⟩ := q7; exact again I7 n7
    | cont => obtain ⟨σ7, H7, I7, n7⟩ := q7; exact again I7 n7
    | brk => obtain ⟨σ7, H7, I7, q7⟩ := q7; exact ⟨σ7, H7, I7.unpinned, q7⟩
    | ret v => obtain ⟨x7, σ7, H7, I7, r7, q7⟩ := q7; exact ⟨x7, σ7, H7, I7.unpinned, r7, q7⟩
end
end L2
namespace L2
open PySem PySem.Spec PyProof.Rows
noncomputable abbrev R2 := V → V → Hp → VK → Prop
noncomputable def OpR (X : Cx) (f : Value → Value → Sem Value) (r : R2) : Prop :=
  ∀ (pins : List (Addr × Obj)) (s : Shared) (σ : St) (H : Hp) (x y : V) (v u : Value) (Q : VK), Inv X pins σ H s → RelV x v → RelV y u → r x y H Q →
    wpAny (model X.prog X.w) X.A (f v u) (EP X pins σ Q) X.xe s
noncomputable def UnR (X : Cx) (f : Value → Sem Value) (r : V → Hp → VK → Prop) : Prop :=
  ∀ (pins : List (Addr × Obj)) (s : Shared) (σ : St) (H : Hp) (x : V) (v : Value) (Q : VK), Inv X pins σ H s → RelV x v → r x H Q →
    wpAny (model X.prog X.w) X.A (f v) (EP X pins σ Q) X.xe s
noncomputable def CallR (X : Cx) (f : Value) (r : List V → Hp → VK → Prop) : Prop :=
  ∀ (pins : List (Addr × Obj)) (s : Shared) (σ : St) (H : Hp) (xs : List V) (us : List Value) (Q : VK), Inv X pins σ H s → Vals xs us → r xs H Q →
    wpAny (model X.prog X.w) X.A (call f us) (EP X pins σ Q) X.xe s
noncomputable def TruR (X : Cx) (r : V → Hp → (Bool → Hp → Prop) → Prop) : Prop :=
  ∀ (pins : List (Addr × Obj)) (s : Shared) (σ : St) (H : Hp) (x : V) (v : Value) (Q : Bool → Hp → Prop), Inv X pins σ H s → RelV x v → r x H Q →
    wpAny (model X.prog X.w) X.A (truthy v) (TP X pins σ Q) X.xe s
noncomputable def tOp (r : R2) (ta tb : TE) : TE := fun σ H Q => ta σ H fun x H1 => tb σ H1 fun y H2 => r x y H2 Q
noncomputable def tUn (r : V → Hp → VK → Prop) (ta : TE) : TE := fun σ H Q => ta σ H fun x H1 => r x H1 Q
noncomputable def rI (C : Int → Int → Prop) (g : Int → Int → V) : R2 := fun x y H Q => ∃ i j, x = .int i ∧ y = .int j ∧ C i j ∧ Q (g i j) H
noncomputable def rI0 (g : Int → Int → V) : R2 := fun x y H Q => ∃ i j, x = .int i ∧ y = .int j ∧ Q (g i j) H
noncomputable def rU (g : Int → V) : V → Hp → VK → Prop := fun x H Q => ∃ i, x = .int i ∧ Q (g i) H
section
variable {X : Cx} {a b c : Expr} {ta tb tc : TE} {pos : Pos}
theorem binT (ha : PE X a ta) (hb : PE X b tb) {pins : List (Addr × Obj)} {s : Shared} {σ : St} {H : Hp} {R : V → V → Hp → Prop} (I : Inv X pins σ H s)
    (h : ta σ H fun x H1 => tb σ H1 fun y H2 => R x y H2) {Q : Value → Shared → Prop} {f : Value → Value → Sem Value}
    (hf : ∀ v u s2 x y H2, Inv X pins σ H2 s2 → RelV x v → RelV y u → R x y H2 → wpAny (model X.prog X.w) X.A (f v u) Q X.xe s2) :
    wpAny (model X.prog X.w) X.A (eval a X.env) (fun v s₁ => wpAny (model X.prog X.w) X.A (eval b X.env) (fun u s₂ => wpAny (model X.prog X.w) X.A (f v u) Q X.xe s₂) X.xe s₁) X.xe s := by
  refine thn (ha pins s σ H _ I h) fun v s1 ⟨x, H1, I1, r1, q1⟩ => ?_
  refine thn (hb pins s1 σ H1 _ I1 q1) fun u s2 ⟨y, H2, I2, r2, q2⟩ => ?_
  exact hf v u s2 x y H2 I2 r1 r2 q2
theorem pe_op {op : Operator} {r : R2} (ho : OpR X (binaryOp op) r) (ha : PE X a ta) (hb : PE X b tb) : PE X (.BinOp a op b pos) (tOp r ta tb) := by
  intro pins s σ H Q I h
  exact wpAny_BinOp (binT ha hb I h fun v u s2 x y H2 I2 rx ry q => ho pins s2 σ H2 x y v u Q I2 rx ry q)
theorem pe_un {op : UnaryOp} {r : V → Hp → VK → Prop} (ho : UnR X (unaryOp op) r) (ha : PE X a ta) : PE X (.UnaryOp op a pos) (tUn r ta) := by
  intro pins s σ H Q I h
  exact UnaryOp_ (thn (ha pins s σ H _ I h) fun v s1 ⟨x, H1, I1, r1, q1⟩ => ho pins s1 σ H1 x v Q I1 r1 q1)
theorem opI {f : Value → Value → Sem Value} {C : Int → Int → Prop} {g : Int → Int → Int}
    (rule : ∀ (i j : Int) (t u : Tok) (s : Shared) (Q : Value → Shared → Prop) (E : Value → Shared → Prop), C i j → Q (.int (g i j) s.toks) { s with toks := s.toks + 1 } → wpAny (model X.prog X.w) X.A (f (.int i t) (.int j u)) Q E s) :
    OpR X f (rI C fun i j => .int (g i j)) := by
  intro pins s σ H x y v u Q I rx ry h
  obtain ⟨i, j, rfl, rfl, hc, q⟩ := h
  obtain ⟨t, rfl⟩ := rx
  obtain ⟨t', rfl⟩ := ry
  exact rule i j t t' s _ _ hc ⟨.int (g i j), H, I.tok _, ⟨_, rfl⟩, q⟩
theorem opI0 {f : Value → Value → Sem Value} {g : Int → Int → Int}
    (rule : ∀ (i j : Int) (t u : Tok) (s : Shared) (Q : Value → Shared → Prop) (E : Value → Shared → Prop), Q (.int (g i j) s.toks) { s with toks := s.toks + 1 } → wpAny (model X.prog X.w) X.A (f (.int i t) (.int j u)) Q E s) :
    OpR X f (rI0 fun i j => .int (g i j)) := by
  intro pins s σ H x y v u Q I rx ry h
  obtain ⟨i, j, rfl, rfl, q⟩ := h
  obtain ⟨t, rfl⟩ := rx
  obtain ⟨t', rfl⟩ := ry
  exact rule i j t t' s _ _ ⟨.int (g i j), H, I.tok _, ⟨_, rfl⟩, q⟩
theorem opB0 {f : Value → Value → Sem Value} {g : Int → Int → Bool}
    (rule : ∀ (i j : Int) (t u : Tok) (s : Shared) (Q : Value → Shared → Prop) (E : Value → Shared → Prop), Q (.bool (g i j)) s → wpAny (model X.prog X.w) X.A (f (.int i t) (.int j u)) Q E s) :
    OpR X f (rI0 fun i j => .bl (g i j)) := by
  intro pins s σ H x y v u Q I rx ry h
  obtain ⟨i, j, rfl, rfl, q⟩ := h
  obtain ⟨t, rfl⟩ := rx
  obtain ⟨t', rfl⟩ := ry
  exact rule i j t t' s _ _ ⟨.bl (g i j), H, I, rfl, q⟩
noncomputable def CDiv (i j : Int) : Prop := 0 < j ∧ j < 1073741824
noncomputable def CPow (i j : Int) : Prop := 0 ≤ j ∧ j ≤ 1000000 ∧ i.natAbs < 2 ^ 64
noncomputable def CMul (i j : Int) : Prop := (-(2 ^ 64) < i ∧ i < 2 ^ 64) ∨ (-(2 ^ 64) < j ∧ j < 2 ^ 64)
theorem CMul.ok {i j : Int} (h : CMul i j) : IntMulOk i j := by
  rcases h with ⟨h1, h2⟩ | ⟨h1, h2⟩
  · exact .of_left (intBits_le_64 h1 h2)
  · exact .of_right (intBits_le_64 h1 h2)
theorem op_add : OpR X (binaryOp .Add) (rI0 fun i j => .int (i + j)) := opI0 fun _ _ _ _ _ _ _ q => add_int q
theorem op_mul : OpR X (binaryOp .Mult) (rI CMul fun i j => .int (i * j)) := opI fun _ _ _ _ _ _ _ hc q => mul_int q hc.ok
theorem op_fdiv : OpR X (binaryOp .FloorDiv) (rI CDiv fun i j => .int (i / j)) := opI fun i j _ _ _ _ _ hc q => by
  have h1 : (0 : Int) < j := hc.1
  have h2 : j < 1073741824 := hc.2
  exact floordiv_int (by omega) (by rw [Int.fdiv_eq_ediv_of_nonneg i (by omega)]; exact q) (.inl (PyProof.noPylong_small (by omega)))
theorem op_mod : OpR X (binaryOp .Mod) (rI (fun _ j => 0 < j) fun i j => .int (i % j)) := opI fun i j _ _ _ _ _ hc q => by
  have h1 : (0 : Int) < j := hc
  exact mod_int' (by omega) (by rw [Int.fmod_eq_emod_of_nonneg i (by omega)]; exact q)
theorem op_pow : OpR X (binaryOp .Pow) (rI CPow fun i j => .int (i ^ j.toNat)) := opI fun _ _ _ _ _ _ _ hc q => pow_int_small hc.1 hc.2.1 hc.2.2 q
theorem unI {f : Value → Sem Value} {g : Int → Int}
    (rule : ∀ (i : Int) (t : Tok) (s : Shared) (Q : Value → Shared → Prop) (E : Value → Shared → Prop), Q (.int (g i) s.toks) { s with toks := s.toks + 1 } → wpAny (model X.prog X.w) X.A (f (.int i t)) Q E s) :
    UnR X f (rU fun i => .int (g i)) := by
  intro pins s σ H x v Q I rx h
  obtain ⟨i, rfl, q⟩ := h
  obtain ⟨t, rfl⟩ := rx
  exact rule i t s _ _ ⟨.int (g i), H, I.tok _, ⟨_, rfl⟩, q⟩
theorem un_neg : UnR X (unaryOp .USub) (rU fun i => .int (-i)) := unI fun _ _ _ _ _ q => neg_int q
end
noncomputable def scal : V → V → Bool
  | .non, .non => true | .non, .int _ => true | .int _, .non => true | .non, .bl _ => true | .bl _, .non => true | .non, .str _ => true | .str _, .non => true
  | .int _, .int _ => true | .bl _, .bl _ => true | .str _, .str _ => true | .byt _, .byt _ => true
  | .int _, .str _ => true | .str _, .int _ => true | .bl _, .str _ => true | .str _, .bl _ => true
  | _, _ => false
noncomputable def rEq : R2 := fun x y H Q => scal x y = true ∧ Q (.bl (decide (x = y))) H
noncomputable def rNe : R2 := fun x y H Q => scal x y = true ∧ Q (.bl (!decide (x = y))) H
theorem dec_int {i j : Int} : decide (V.int i = V.int j) = (i == j) := by
  rw [Bool.eq_iff_iff]
  simp
theorem dec_bl {i j : Bool} : decide (V.bl i = V.bl j) = (i == j) := by
  rw [Bool.eq_iff_iff]
  simp
theorem dec_str {i j : Str} : decide (V.str i = V.str j) = (i == j) := by
  rw [Bool.eq_iff_iff]
  simp
theorem dec_byt {i j : Array UInt8} : decide (V.byt i = V.byt j) = (i.toList == j.toList) := by
  rw [Bool.eq_iff_iff]
  cases i
  cases j
  simp
section
variable {X : Cx} {a b c : Expr} {ta tb tc : TE} {pos : Pos}
theorem fin_bl {pins : List (Addr × Obj)} {σ : St} {H : Hp} {s : Shared} {Q : VK} {k k' : Bool} (I : Inv X pins σ H s) (q : Q (.bl k) H) (e : k = k') : EP X pins σ Q (.bool k') s := by
  subst e
  exact ⟨.bl k, H, I, rfl, q⟩
theorem op_eq : OpR X (compareOp .Eq) rEq := by
  intro pins s σ H x y v u Q I rx ry h
  obtain ⟨hs, q⟩ := h
  cases x with
  | non =>
    cases rx
    cases y with
    | non => cases ry; exact PySem.EqNone.eq_none_none (fin_bl I q (by simp))
    | bl j => cases ry; exact PySem.EqNone.eq_none_bool (fin_bl I q (by simp))
    | int j => obtain ⟨t', rfl⟩ := ry; exact PySem.EqNone.eq_none_int (fin_bl I q (by simp))
    | str j => obtain ⟨t', rfl⟩ := ry; exact PySem.EqNone.eq_none_str (fin_bl I q (by simp))
    | _ => exact absurd (show false = true from hs) Bool.false_ne_true
  | bl i =>
    cases rx
    cases y with
    | non => cases ry; exact PySem.EqNone.eq_bool_none (fin_bl I q (by simp))
    | bl j => cases ry; exact eq_bool (fin_bl I q dec_bl)
    | str j => obtain ⟨t', rfl⟩ := ry; exact PySem.EqMixed.eq_bool_str (fin_bl I q (by simp))
    | _ => exact absurd (show false = true from hs) Bool.false_ne_true
  | int i =>
    obtain ⟨t, rfl⟩ := rx
    cases y with
    | non => cases ry; exact PySem.EqNone.eq_int_none (fin_bl I q (by simp))
    | int j => obtain ⟨t', rfl⟩ := ry; exact eq_int (fin_bl I q dec_int)
    | str j => obtain ⟨t', rfl⟩ := ry; exact PySem.EqMixed.eq_int_str (fin_bl I q (by simp))
    | _ => exact absurd (show false = true from hs) Bool.false_ne_true
  | str i =>
    obtain ⟨t, rfl⟩ := rx
    cases y with
    | non => cases ry; exact PySem.EqNone.eq_str_none (fin_bl I q (by simp))
    | bl j => cases ry; exact PySem.EqMixed.eq_str_bool (fin_bl I q (by simp))
    | int j => obtain ⟨t', rfl⟩ := ry; exact PySem.EqMixed.eq_str_int (fin_bl I q (by simp))
    | str j => obtain ⟨t', rfl⟩ := ry; exact eq_str (fin_bl I q dec_str)
    | _ => exact absurd (show false = true from hs) Bool.false_ne_true
  | byt i =>
    obtain ⟨t, rfl⟩ := rx
    cases y with
    | byt j => obtain ⟨t', rfl⟩ := ry; exact PySem.W.eq_bytes (fin_bl I q dec_byt)
    | _ => exact absurd (show false = true from hs) Bool.false_ne_true
  | _ => cases y <;> exact absurd (show false = true from hs) Bool.false_ne_true
theorem op_ne : OpR X (compareOp .NotEq) rNe := by
  intro pins s σ H x y v u Q I rx ry h
  obtain ⟨hs, q⟩ := h
  cases x with
  | non =>
    cases rx
    cases y with
    | non => cases ry; exact PySem.EqNone.ne_none_none (fin_bl I q (by simp))
    | bl j => cases ry; exact PySem.EqNone.ne_none_bool (fin_bl I q (by simp))
    | int j => obtain ⟨t', rfl⟩ := ry; exact PySem.EqNone.ne_none_int (fin_bl I q (by simp))
    | str j => obtain ⟨t', rfl⟩ := ry; exact PySem.EqNone.ne_none_str (fin_bl I q (by simp))
    | _ => exact absurd (show false = true from hs) Bool.false_ne_true
  | bl i =>
    cases rx
    cases y with
    | non => cases ry; exact PySem.EqNone.ne_bool_none (fin_bl I q (by simp))
    | bl j => cases ry; exact ne_bool (fin_bl I q (congrArg not dec_bl))
    | str j => obtain ⟨t', rfl⟩ := ry; exact PySem.EqMixed.ne_bool_str (fin_bl I q (by simp))
    | _ => exact absurd (show false = true from hs) Bool.false_ne_true
  | int i =>
    obtain ⟨t, rfl⟩ := rx
    cases y with
    | non => cases ry; exact PySem.EqNone.ne_int_none (fin_bl I q (by simp))
    | int j => obtain ⟨t', rfl⟩ := ry; exact ne_int (fin_bl I q (congrArg not dec_int))
    | str j => obtain ⟨t', rfl⟩ := ry; exact PySem.EqMixed.ne_int_str (fin_bl I q (by simp))
    | _ => exact absurd (show false = true from hs) Bool.false_ne_true
  | str i =>
    obtain ⟨t, rfl⟩ := rx
    cases y with
    | non => cases ry; exact PySem.EqNone.ne_str_none (fin_bl I q (by simp))
    | bl j => cases ry; exact PySem.EqMixed.ne_str_bool (fin_bl I q (by simp))
    | int j => obtain ⟨t', rfl⟩ := ry; exact PySem.EqMixed.ne_str_int (fin_bl I q (by simp))
    | str j => obtain ⟨t', rfl⟩ := ry; exact ne_str (fin_bl I q (congrArg not dec_str))
    | _ => exact absurd (show false = true from hs) Bool.false_ne_true
  | byt i =>
    obtain ⟨t, rfl⟩ := rx
    cases y with
    | byt j => obtain ⟨t', rfl⟩ := ry; exact PySem.W.ne_bytes (fin_bl I q (congrArg not dec_byt))
    | _ => exact absurd (show false = true from hs) Bool.false_ne_true
  | _ => cases y <;> exact absurd (show false = true from hs) Bool.false_ne_true
theorem op_lt : OpR X (compareOp .Lt) (rI0 fun i j => .bl (decide (i < j))) := opB0 fun _ _ _ _ _ _ _ q => lt_int q
theorem op_gt : OpR X (compareOp .Gt) (rI0 fun i j => .bl (decide (j < i))) := opB0 fun _ _ _ _ _ _ _ q => gt_int q
theorem OpR.or {f : Value → Value → Sem Value} {r r' : R2} (h : OpR X f r) (h' : OpR X f r') : OpR X f (fun x y H Q => r x y H Q ∨ r' x y H Q) := by
  intro pins s σ H x y v u Q I rx ry q
  rcases q with q | q
  · exact h pins s σ H x y v u Q I rx ry q
  · exact h' pins s σ H x y v u Q I rx ry q
theorem nomark (b : Expr) {op : CmpOp} (h : op ≠ .In := by decide) (h2 : op ≠ .NotIn := by decide) : behindInMarks op b = false := by
  have e1 : (op == CmpOp.In) = false := by cases op <;> first | rfl | exact absurd rfl h
  have e2 : (op == CmpOp.NotIn) = false := by cases op <;> first | rfl | exact absurd rfl h2
  cases b <;> simp [behindInMarks, e1, e2]
theorem pe_cmpR {op : CmpOp} {r : R2} (ho : OpR X (compareOp op) r) (ha : PE X a ta) (hb : PE X b tb) (hm : behindInMarks op b = false) : PE X (.Compare a [op] [b] pos) (tOp r ta tb) := by
  intro pins s σ H Q I h
  exact wpAny_Compare1 (binT ha hb I h fun v u s2 x y H2 I2 rx ry q => ho pins s2 σ H2 x y v u Q I2 rx ry q) hm
noncomputable def tTest (t : TE) : TT := fun σ H Q => t σ H fun x H' => ∃ k, x = .bl k ∧ Q k H'
theorem pt_cmpR {op : CmpOp} {r : R2} (ho : OpR X (compareOp op) r) (ha : PE X a ta) (hb : PE X b tb) (hm : behindInMarks op b = false) : PT X (.Compare a [op] [b] pos) (tTest (tOp r ta tb)) := by
  intro pins s σ H Q I h
  refine wpAny_isTrue_Compare1 (thn (ha pins s σ H _ I h) fun v s1 ⟨x, H1, I1, r1, q1⟩ => thn (hb pins s1 σ H1 _ I1 q1) fun u s2 ⟨y, H2, I2, r2, q2⟩ =>
    thn (ho pins s2 σ H2 x y v u _ I2 r1 r2 q2) fun c s3 ⟨z, H3, I3, r3, k, e, q3⟩ => ?_) hm
  subst e
  cases r3
  exact wpAny_truthy_bool ⟨H3, I3, q3⟩
noncomputable def TruV (K : PySem.W.Frag) (x : V) (H : Hp) (k : Bool) : Prop :=
  match x with
  | .non => k = false
  | .bl b => k = b
  | .int i => k = (i != 0)
  | .str y => y.length ≤ sizeLine ∧ k = ((y.length : Int) != 0)
  | .byt y => y.size ≤ sizeLine ∧ k = ((y.size : Int) != 0)
  | .ref p => (∃ xs, SqL K H p xs ∧ k = !xs.isEmpty) ∨ (∃ xs, SqT K H p xs ∧ k = !xs.isEmpty) ∨ ∃ kvs, Rd H p (.dK kvs) ∧ k = !kvs.isEmpty
  | _ => False
theorem isEmpty_kv {κ : Type} {kvs : List (κ × V)} {vs : List (κ × Value)} (r : KV kvs vs) : (!vs.isEmpty) = !kvs.isEmpty := by
  cases r <;> rfl
theorem isEmpty_of {xs : List V} {its : List Value} (r : Vals xs its) : (!its.toArray.isEmpty) = !xs.isEmpty := by
  cases r <;> simp
theorem line63 : (sizeLine : Nat) < 2 ^ 63 := by rw [sizeLine_eq]; decide
theorem tru_ok : TruR X (fun x H Q => ∃ k, TruV X.K x H k ∧ Q k H) := by
  intro pins s σ H x v Q I rx h
  obtain ⟨k, e, q⟩ := h
  have hl := line63
  have hs : sizeLine = 16777216 := sizeLine_eq
  cases x with
  | non =>
    cases rx
    have e' : k = false := e
    subst e'
    exact truthy_none ⟨H, I, q⟩
  | bl b =>
    cases rx
    have e' : k = b := e
    subst e'
    exact wpAny_truthy_bool ⟨H, I, q⟩
  | int i =>
    obtain ⟨t, rfl⟩ := rx
    have e' : k = (i != 0) := e
    subst e'
    exact PySem.P.truthy_int ⟨H, I, q⟩
  | str y =>
    obtain ⟨t, rfl⟩ := rx
    obtain ⟨hy, e'⟩ : y.length ≤ sizeLine ∧ k = ((y.length : Int) != 0) := e
    subst e'
    exact PySem.P.truthy_str (by omega) ⟨H, I.tok _, q⟩
  | byt y =>
    obtain ⟨t, rfl⟩ := rx
    obtain ⟨hy, e'⟩ : y.size ≤ sizeLine ∧ k = ((y.size : Int) != 0) := e
    subst e'
    exact PySem.W.truthy_bytes (by omega) ⟨H, I.tok _, q⟩
  | ref p =>
    cases rx
    have e' : (∃ xs, SqL X.K H p xs ∧ k = !xs.isEmpty) ∨ (∃ xs, SqT X.K H p xs ∧ k = !xs.isEmpty) ∨ ∃ kvs, Rd H p (.dK kvs) ∧ k = !kvs.isEmpty := e
    rcases e' with ⟨xs, hx, e'⟩ | ⟨xs, hx, e'⟩ | ⟨kvs, hx, e'⟩
    · subst e'
      obtain ⟨its, r, pl, hz⟩ := I.list hx
      have hlen := r.length
      exact wpAny_truthy_list pl.isList (by simp only [List.size_toArray]; omega) ⟨H, I.tok _, by rw [isEmpty_of r]; exact q⟩
    · subst e'
      obtain ⟨its, r, pl, hz⟩ := I.tuple hx
      have hlen := r.length
      exact truthy_tuple pl (by simp only [List.size_toArray]; omega) ⟨H, I.tok _, by rw [isEmpty_of r]; exact q⟩
    · subst e'
      obtain ⟨hz, hS, vs, r, m⟩ : kvs.length ≤ sizeLine ∧ (p == sysModules) = false ∧ ∃ vs, KV kvs vs ∧ s.heap.DictOf (mixKind X.prog X.w) p vs := hx.ok I.hok
      have hlen : kvs.length = vs.length := Paired.length r
      exact wpAny_truthy_dict hS m (by omega) ⟨H, I.tok _, by rw [isEmpty_kv r]; exact q⟩
  | _ => exact (show False from e).elim
theorem pt_truth (ha : PE X a ta) (he : ∀ whole, isTrue a X.env whole = (do let v ← whole; standAt a.pos; holding [v] (truthy v))) :
    PT X a (fun σ H Q => ta σ H fun x H' => ∃ k, TruV X.K x H' k ∧ Q k H') := by
  intro pins s σ H Q I h
  exact isTrue_plain (thn (ha pins s σ H _ I h) fun v s1 ⟨x, H1, I1, r1, q1⟩ => tru_ok pins s1 σ H1 x v Q I1 r1 q1) (he _)
theorem op_add_str : OpR X (binaryOp .Add) (fun x y H Q => ∃ i j, x = .str i ∧ y = .str j ∧ i.length + j.length ≤ sizeLine ∧ Q (.str (i ++ j)) H) := by
  intro pins s σ H x y v u Q I rx ry h
  obtain ⟨i, j, rfl, rfl, hz, q⟩ := h
  obtain ⟨t, rfl⟩ := rx
  obtain ⟨t', rfl⟩ := ry
  exact add_str (fun t' tk => ⟨.str (i ++ j), H, I.tok _, ⟨_, rfl⟩, q⟩) hz
theorem vals1 {x : V} {us : List Value} (r : Vals [x] us) : ∃ u, us = [u] ∧ RelV x u := by
  cases r with
  | cons r1 r2 => cases r2; exact ⟨_, rfl, r1⟩
theorem vals2 {x y : V} {us : List Value} (r : Vals [x, y] us) : ∃ u w', us = [u, w'] ∧ RelV x u ∧ RelV y w' := by
  cases r with
  | cons r1 r2 =>
    cases r2 with
    | cons r3 r4 => cases r4; exact ⟨_, _, rfl, r1, r3⟩
theorem call_abs : CallR X (.builtin "abs") (fun xs H Q => ∃ i, xs = [.int i] ∧ Q (.int (if i < 0 then -i else i)) H) := by
  intro pins s σ H xs us Q I r h
  obtain ⟨i, rfl, q⟩ := h
  obtain ⟨u, rfl, t, rfl⟩ := vals1 r
  exact call_abs_int fun u tk => ⟨.int (if i < 0 then -i else i), H, I.tok _, ⟨_, rfl⟩, q⟩
noncomputable def LenV (K : PySem.W.Frag) (x : V) (H : Hp) (n : Nat) : Prop :=
  match x with
  | .str y => y.length ≤ sizeLine ∧ n = y.length
  | .byt y => y.size ≤ sizeLine ∧ n = y.size
  | .ref p => (∃ xs, SqL K H p xs ∧ n = xs.length) ∨ ∃ xs, SqT K H p xs ∧ n = xs.length
  | _ => False
theorem call_len : CallR X (.builtin "len") (fun xs H Q => ∃ x n, xs = [x] ∧ LenV X.K x H n ∧ Q (.int n) H) := by
  intro pins s σ H xs us Q I r h
  obtain ⟨x, n, rfl, e, q⟩ := h
  obtain ⟨u, rfl, rx⟩ := vals1 r
  have hl := line63
  have hs : sizeLine = 16777216 := sizeLine_eq
  cases x with
  | str y =>
    obtain ⟨t, rfl⟩ := rx
    obtain ⟨hy, e'⟩ : y.length ≤ sizeLine ∧ n = y.length := e
    subst e'
    exact len_str (by omega) ⟨.int _, H, I.tok _, ⟨_, rfl⟩, q⟩
  | byt y =>
    obtain ⟨t, rfl⟩ := rx
    obtain ⟨hy, e'⟩ : y.size ≤ sizeLine ∧ n = y.size := e
    subst e'
    exact PySem.W.len_bytes (by omega) ⟨.int _, H, I.tok _, ⟨_, rfl⟩, q⟩
  | ref p =>
    cases rx
    have e' : (∃ xs, SqL X.K H p xs ∧ n = xs.length) ∨ ∃ xs, SqT X.K H p xs ∧ n = xs.length := e
    rcases e' with ⟨xs, hx, e'⟩ | ⟨xs, hx, e'⟩
    · subst e'
      obtain ⟨its, r', pl, hz⟩ := I.list hx
      have hlen := r'.length
      exact Calls.call_len_list pl.isList (by simp only [List.size_toArray]; omega) ⟨.int xs.length, H, I.tok _, ⟨_, by simp only [List.size_toArray]; rw [hlen]⟩, q⟩
    · subst e'
      obtain ⟨its, r', pl, hz⟩ := I.tuple hx
      have hlen := r'.length
      exact len_tuple pl (by simp only [List.size_toArray]; omega) ⟨.int xs.length, H, I.tok _, ⟨_, by simp only [List.size_toArray]; rw [hlen]⟩, q⟩
  | _ => exact (show False from e).elim
end
end L2
namespace L2
open PySem PySem.Spec PyProof.Rows
structure ObjM (h : Heap) (x dx C : Addr) (mA : Str → Option Value) : Prop where
  obj : h.get? x = some (PySem.W.instObj C dx)
  ns : h.Ns1 dx mA
  ne : dx ≠ x
section
variable {prog : Program} {w : World} {A : Around} {E : Value → Shared → Prop} {s : Shared} {K : PySem.W.Frag} {x dx C f : Addr} {mA : Str → Option Value} {name : Str} {v : Value}
end
noncomputable def putF (f : Str) (v : V) : List (Str × V) → List (Str × V)
  | [] => [(f, v)]
  | (g, x) :: r => if g = f then (g, v) :: r else (g, x) :: putF f v r
theorem RelO.some_of {v : V} {o : Option Value} (r : RelO (some v) o) : ∃ u, o = some u ∧ RelV v u := by
  cases o with
  | none => exact (show False from r).elim
  | some u => exact ⟨u, rfl, r⟩
theorem RelO.none_of {o : Option Value} (r : RelO none o) : o = none := by
  cases o with
  | none => rfl
  | some u => exact (show False from r).elim
section
variable {P : Program} {w : World} {H H' : Hp} {h h' : Heap} {a C dx : Addr} {fs fs' : List (Str × V)}
end
structure Cls (K : PySem.W.Frag) (C : Addr) : Prop where
  pg : PySem.W.plainGet K C Str.empty = true
  hd : PySem.W.hasDictIn K C = true
  po : PySem.W.plainOver K C = true
  sa : PySem.W.findIn K (.ref C) "__setattr__" = some (some (.builtin "object.__setattr__"))
theorem Cls.get {K : PySem.W.Frag} {C : Addr} (c : Cls K C) (f : Str) : PySem.W.plainGet K C f = true := c.pg
structure Con (K : PySem.W.Frag) (C : Addr) (f : Str) (v : V) (u : Value) : Prop where
  at_ : PySem.W.findIn K (.ref C) f = some (some u)
  rel : RelV v u
  get : PySem.W.specialIn K u "__get__" = some none
  cp : PySem.W.copiedNames.contains f = false
structure Meth (K : PySem.W.Frag) (C : Addr) (m : Str) (f : Addr) : Prop where
  at_ : PySem.W.findIn K (.ref C) m = some (some (.ref f))
  fn : PySem.W.isFn K (.ref f) = true
  kp : PySem.W.keepIn K (.ref f) = true
section
variable {X : Cx} {pins : List (Addr × Obj)} {σ : St} {H : Hp} {s : Shared} {a C dx : Addr} {fs : List (Str × V)} {f : Str} {v : V} {A : Around} {E : Value → Shared → Prop}
end
section
variable {X : Cx} {o e value : Expr} {f : Str} {pos pos' tpos : Pos} {ta tv : TE}
end
section
variable {X : Cx} {pins : List (Addr × Obj)} {σ : St} {H : Hp} {s : Shared} {A : Around} {E : Value → Shared → Prop} {Q : Value → Shared → Prop} {c : Value} {b : Bool}
inductive TyOf (K : PySem.W.Frag) (H : Hp) : V → Value → Prop where
  | non : TyOf K H .non (.type "NoneType")
  | bl (x : Bool) : TyOf K H (.bl x) (.type "bool")
  | int (i : Int) : TyOf K H (.int i) (.type "int")
  | str (x : Str) : TyOf K H (.str x) (.type "str")
  | flt (x : UInt64) : TyOf K H (.flt x) (.type "float")
  | lst {a : Addr} {xs : List V} (e : H a = some (.lst xs)) : TyOf K H (.ref a) (.type "list")
  | frz {a : Addr} {o : Obj} {xs : List V} (e : H a = some (.frz o (.lst xs))) : TyOf K H (.ref a) (.type "list")
  | tup {a : Addr} {xs : List V} (e : H a = some (.tup xs)) : TyOf K H (.ref a) (.type "tuple")
  | dK {a : Addr} {kvs : List (Key × V)} (e : H a = some (.dK kvs)) : TyOf K H (.ref a) (.type "dict")
  | dT {a : Addr} {kvs : List (List Key × V)} (e : H a = some (.dT kvs)) : TyOf K H (.ref a) (.type "dict")
  | ins {a C dx : Addr} {fs : List (Str × V)} (e : H a = some (.ins C dx fs)) (cl : Cls K C) (ha : PySem.W.findIn K (.ref C) "__class__" = some (some (.builtin "object.__class__")))
      (hn : PySem.W.specialIn K (.builtin "object.__class__") "__get__" = some (some (.builtin "getset_descriptor.__get__"))) (htk : PySem.W.takesIn K (.builtin "object.__class__") = some true)
      (hm : PySem.W.mroIn K C (.type "object") = some true) : TyOf K H (.ref a) (.ref C)
end
end L2
namespace L2
open PySem PySem.Spec PyProof.Rows
structure Room (k : Nat) (A : Around) : Prop where
  hd : A.handled = none
  dp : A.depth + 3 * k + 5 < recursionLimit
  un : A.units + 16 * k + 200 < cLine
theorem Room.mono {j k : Nat} {A : Around} (r : Room k A) (h : j ≤ k) : Room j A := ⟨r.hd, by have := r.dp; omega, by have := r.un; omega⟩
theorem Room.deeper {k : Nat} {A : Around} (r : Room (k + 1) A) (env : Env) : Room k (A.deeper env) :=
  ⟨r.hd, by have := r.dp; show A.depth + 1 + 3 * k + 5 < _; omega, by have := r.un; show A.units + 3 + 16 * k + 200 < _; omega⟩
theorem Room.in1 {k : Nat} {A : Around} (r : Room (k + 1) A) : Room k A.in1 :=
  ⟨r.hd, by have := r.dp; show A.depth + 3 * k + 5 < _; omega, by have := r.un; show A.units + 1 + 16 * k + 200 < _; omega⟩
theorem make_depth {A : Around} {C : Addr} {us : List Value} {kw : List (Str × Value)} : (A.under (.builtin "type.__call__" ⟨.ref C :: us, kw⟩)).depth = A.depth + 1 := by
  first | rfl | simp [Around.under, Code.weight, Code.isCreation, Code.isGuard, Code.isCaller, Code.frames, Code.isFrame, guardIds]
theorem make_units {A : Around} {C : Addr} {us : List Value} {kw : List (Str × Value)} : (A.under (.builtin "type.__call__" ⟨.ref C :: us, kw⟩)).units = A.units + 1 := by
  first | rfl | simp [Around.under, Code.cUnits, Code.frames, Code.isFrame]
theorem Room.make {k : Nat} {A : Around} (r : Room (k + 1) A) (C : Addr) (us : List Value) (kw : List (Str × Value)) : Room k (A.under (.builtin "type.__call__" ⟨.ref C :: us, kw⟩)) :=
  ⟨r.hd, by have := r.dp; rw [make_depth]; omega, by have := r.un; rw [make_units]; omega⟩
theorem Room.depth {k : Nat} {A : Around} (r : Room k A) : A.depth < recursionLimit := by have := r.dp; omega
theorem Room.units {k : Nat} {A : Around} (r : Room k A) : A.units + 64 < cLine := by have := r.un; omega
noncomputable def tNil : TA := fun _ H Q => Q [] H
noncomputable def tCons (ta : TE) (tr : TA) : TA := fun σ H Q => ta σ H fun x H1 => tr σ H1 fun xs H2 => Q (x :: xs) H2
section
variable {X : Cx} {e : Expr} {es : List Expr} {te : TE} {t : TA} {pos : Pos}
theorem pa_nil : PA X [] tNil := fun _ _ _ _ H Q I h => Calls.spliced_nil ⟨[], H, I, .nil, h⟩
theorem pa_cons (ha : PE X e te) (hr : PA X es t) (hs : starEach (e :: es) X.env = (false, eval e X.env) :: starEach es X.env := by rfl) : PA X (e :: es) (tCons te t) := by
  intro pos pins s σ H Q I h
  rw [hs]
  show wpAny _ _ (spliced ((false, eval e X.env) :: backTo pos (starEach es X.env))) _ _ s
  refine Calls.spliced_cons (thn (ha pins s σ H _ I h) fun u s1 ⟨x, H1, I1, r1, q1⟩ => ?_)
  exact thn (hr pos pins s1 σ H1 _ I1 q1) fun us s2 ⟨xs, H2, I2, r2, q2⟩ => ⟨x :: xs, H2, I2, .cons r1 r2, q2⟩
noncomputable def tTup (t : TA) : TE := fun σ H Q => t σ H fun xs H1 => xs.length ≤ sizeLine ∧ ∀ p, H1 p = none → Q (.ref p) (upd H1 p (.tup xs))
noncomputable def tLst (t : TA) : TE := fun σ H Q => t σ H fun xs H1 => xs.length ≤ sizeLine ∧ ∀ p, H1 p = none → Q (.ref p) (upd H1 p (.lst xs))
theorem pe_tup {x1} (h : PA X es t) : PE X (.Tuple es x1 pos) (tTup t) := by
  intro pins s σ H Q I hq
  refine wpAny_Tuple_spliced (thn (h pos pins s σ H _ I hq) fun us s1 ⟨xs, H1, I1, r, z, q⟩ => ⟨by rw [← r.length]; exact z, ?_⟩)
  have hf : H1 s1.heap.objs.size = none := I1.hok.fresh (Nat.le_refl _)
  refine ⟨.ref s1.heap.objs.size, upd H1 s1.heap.objs.size (.tup xs), I1.laid (t' := s1.toks) (fun b u e => Heap.get?_push_of_some _ e) (Nat.le_refl _) ?_, rfl, q _ hf⟩
  exact ⟨z, us, r, ⟨_, Heap.get?_push_size _ rfl, rfl, _, rfl⟩, _, Heap.get?_push_size _ rfl, rfl⟩
theorem pe_lst (h : PA X es t) : PE X (.List es pos) (tLst t) := by
  intro pins s σ H Q I hq
  refine wpAny_List_spliced (thn (h pos pins s σ H _ I hq) fun us s1 ⟨xs, H1, I1, r, z, q⟩ => ⟨by rw [← r.length]; exact z, ?_⟩)
  have hf : H1 s1.heap.objs.size = none := I1.hok.fresh (Nat.le_refl _)
  refine ⟨.ref s1.heap.objs.size, upd H1 s1.heap.objs.size (.lst xs), I1.laid (t' := s1.toks) (fun b u e => Heap.get?_push_of_some _ e) (Nat.le_refl _) ?_, rfl, q _ hf⟩
  exact ⟨z, us, 0, r, Heap.get?_push_size _ rfl⟩
end
noncomputable abbrev Sp := List V → Hp → VK → XK → Prop
noncomputable abbrev CXT := List Env → Hp → Shared → XK → Value → Shared → Prop
structure Env0 (P : Program) (w : World) (K : PySem.W.Frag) (mg : Str → Option Value) (base : Heap) (A : Around) (outer : List Env) (s : Shared) (H : Hp) : Prop where
  frames : A.frames = some outer
  mod : Mod K mg base
  bs : ∀ b o, base.get? b = some o → s.heap.get? b = some o ∧ H b = none
  bsz : base.objs.size ≤ s.heap.objs.size
  funs : s.heap.FunFrames base outer
  frf : ∀ b ∈ frs outer, H b = none
  hok : HOk P w H s.heap
  bare : AllBare s.gens
noncomputable def CE (outer : List Env) (P : Program) (w : World) (H : Hp) (s : Shared) (Q : VK) (u : Value) (s' : Shared) : Prop :=
  ∃ v H', s'.os = s.os ∧ AllBare s'.gens ∧ Un (frs outer) [] H H' s.heap s'.heap ∧ HOk P w H' s'.heap ∧ RelV v u ∧ Q v H'
noncomputable def CR (CX : CXT) (outer : List Env) (P : Program) (w : World) (H : Hp) (s : Shared) (Q : VK) (E : XK) (r : Result) (s' : Shared) : Prop :=
  match r with
  | .ok (.ret u) => CE outer P w H s Q u s'
  | .ok _ => False
  | .error e => CX outer H s E e s'
structure FnOk (P : Program) (w : World) (K : PySem.W.Frag) (mg : Str → Option Value) (base : Heap) (CX : CXT) (k : Nat) (f : Addr) (fd : FuncData) (ps : List Str) (sp : Sp) : Prop where
  len : ∀ vs H Q E, sp vs H Q E → vs.length = ps.length
  run : ∀ (A : Around) (outer : List Env) (s : Shared) (H : Hp) (args : Args) (us : List Value) (vs : List V) (Q : VK) (E : XK), Room k A → Env0 P w K mg base A outer s H → BindsTo s fd args (ps.zip us) → Vals vs us → sp vs H Q E →
    codeAny (model P w) A (.call (.ref f) args) (CR CX outer P w H s Q E) s
theorem FnOk.mono {P : Program} {w : World} {K : PySem.W.Frag} {mg : Str → Option Value} {base : Heap} {CX : CXT} {j k : Nat} {f : Addr} {fd : FuncData} {ps : List Str} {sp : Sp} (F : FnOk P w K mg base CX j f fd ps sp) (h : j ≤ k) :
    FnOk P w K mg base CX k f fd ps sp := ⟨F.len, fun A outer s H args us vs Q E hr => F.run A outer s H args us vs Q E (hr.mono h)⟩
theorem FnOk.imp {P : Program} {w : World} {K : PySem.W.Frag} {mg : Str → Option Value} {base : Heap} {CX : CXT} {k : Nat} {f : Addr} {fd : FuncData} {ps : List Str} {sp sp' : Sp} (F : FnOk P w K mg base CX k f fd ps sp)
    (h : ∀ vs H Q E, sp' vs H Q E → sp vs H Q E) : FnOk P w K mg base CX k f fd ps sp' :=
  ⟨fun vs H Q E q => F.len vs H Q E (h _ _ _ _ q), fun A outer s H args us vs Q E hr he hb hv hs => F.run A outer s H args us vs Q E hr he hb hv (h _ _ _ _ hs)⟩
theorem Env0.make {P : Program} {w : World} {K : PySem.W.Frag} {mg : Str → Option Value} {base : Heap} {A : Around} {outer : List Env} {s : Shared} {H : Hp} (e : Env0 P w K mg base A outer s H) (C : Addr) (us : List Value) (kw : List (Str × Value)) :
    Env0 P w K mg base (A.under (.builtin "type.__call__" ⟨.ref C :: us, kw⟩)) outer s H := ⟨by first | exact e.frames | (simpa [Around.under, Code.envs, Code.isFrame, pushEnvs] using e.frames), e.mod, e.bs, e.bsz, e.funs, e.frf, e.hok, e.bare⟩
theorem Env0.in1 {P : Program} {w : World} {K : PySem.W.Frag} {mg : Str → Option Value} {base : Heap} {A : Around} {outer : List Env} {s : Shared} {H : Hp} (e : Env0 P w K mg base A outer s H) :
    Env0 P w K mg base A.in1 outer s H := ⟨e.frames, e.mod, e.bs, e.bsz, e.funs, e.frf, e.hok, e.bare⟩
section
variable {X : Cx} {pins : List (Addr × Obj)} {σ : St} {H : Hp} {s s' : Shared}
theorem Inv.env0 (I : Inv X pins σ H s) : Env0 X.prog X.w X.K X.mg X.base X.A X.stack s H :=
  ⟨I.ok.frames, I.ok.mod, I.bs, Nat.le_trans I.ok.bsz I.sz, I.stack, I.stkFree, I.hok, I.bare⟩
theorem Inv.after {Q : VK} {u : Value} (I : Inv X pins σ H s) (h : CE X.stack X.prog X.w H s Q u s') : EP X pins σ Q u s' := by
  obtain ⟨v, H', os, bare, un, hok, r, q⟩ := h
  obtain ⟨hh, g, d, t, os'⟩ := s'
  obtain rfl : os' = s.os := os
  exact ⟨v, H', I.call (h' := hh) (g' := g) (d' := d) (t' := t) (ch := []) un hok bare (fun b z => absurd z (by simp)), r, q⟩
end
noncomputable def tCall (sp : Sp) (dvs : List V) (E : XK) (t : TA) : TE := fun σ H Q => t σ H fun vs H1 => sp (vs ++ dvs) H1 Q E
noncomputable def Binds (K : PySem.W.Frag) (fd : FuncData) (ps : List Str) (ds : List Value) : Prop :=
  ∀ (s : Shared) (us : List Value), K.In s.heap → (us ++ ds).length = ps.length → BindsTo s fd ⟨us, []⟩ (ps.zip (us ++ ds))
theorem Binds.all {K : PySem.W.Frag} {fd : FuncData} {ps : List Str} (h : ∀ us : List Value, us.length = ps.length → bindArgs fd ⟨us, []⟩ = pure (ps.zip us)) : Binds K fd ps [] := fun s us _ hl => by
  rw [List.append_nil] at hl ⊢
  exact .of_eq (h us hl)
noncomputable def Passes (CX : CXT) (X : Cx) (E : XK) : Prop := ∀ (pins : List (Addr × Obj)) (σ : St) (H : Hp) (s : Shared) (e : Value) (s' : Shared), Inv X pins σ H s → CX X.stack H s E e s' → X.xe e s'
section
variable {X : Cx} {CX : CXT} {k : Nat} {f C : Addr} {fd : FuncData} {ps : List Str} {sp : Sp} {dvs : List V} {ds : List Value} {E : XK} {x m : Str} {p pos apos : Pos} {e o : Expr} {es : List Expr} {ta : TE} {t : TA}
theorem run_fn {pins : List (Addr × Obj)} {σ : St} {H : Hp} {s : Shared} {Q : VK} {us : List Value} {vs : List V} (F : FnOk X.prog X.w X.K X.mg X.base CX k f fd ps sp) (hr : Room k X.A) (hb : Binds X.K fd ps ds) (hd : Vals dvs ds) (hx : Passes CX X E)
    (I : Inv X pins σ H s) (r : Vals vs us) (h : sp (vs ++ dvs) H Q E) : wpAny (model X.prog X.w) X.A (call (.ref f) us) (EP X pins σ Q) X.xe s := by
  have r2 : Vals (vs ++ dvs) (us ++ ds) := r.append hd
  have hl : (us ++ ds).length = ps.length := by rw [← r2.length]; exact F.len _ _ _ _ h
  refine wpAny_call (codeAny_mono (F.run X.A X.stack s H ⟨us, []⟩ (us ++ ds) (vs ++ dvs) Q E hr I.env0 (hb s us I.kIn hl) r2 h) fun r s' hq => ?_)
  cases r with
  | error e => exact hx pins σ H s e s' I hq
  | ok fl =>
    cases fl with
    | ret u => exact I.after hq
    | next => exact False.elim hq
    | brk => exact False.elim hq
    | cont => exact False.elim hq
theorem pe_call (F : FnOk X.prog X.w X.K X.mg X.base CX k f fd ps sp) (hr : Room k X.A) (hg : Gl X x) (hm : X.mg x = some (.ref f)) (hk : PySem.W.keepIn X.K (.ref f) = true) (hb : Binds X.K fd ps ds) (hd : Vals dvs ds) (hx : Passes CX X E)
    (ha : PA X (e :: es) t) (hdb : (x == ("__debug__" : Str)) = false := by decide) (he : starEach (e :: es) X.env = (false, eval e X.env) :: starEach es X.env := by rfl) (hpl : (backTo pos (starEach es X.env)).any (·.1) = false := by rfl) :
    PE X (.Call (.Name x p) (e :: es) [] pos) (tCall sp dvs E t) := by
  intro pins s σ H Q I h
  refine wpAny_Call_Name_kw (ld_glob I hg hm ?_ hdb)
  refine PySem.W.callWith_K (h₀ := X.base) I.ok.mod.kin hk (thn (ha pos pins s σ H _ I h) fun us s1 ⟨vs, H1, I1, r, q⟩ => ⟨I1.kIn, ?_⟩) he hpl
  exact run_fn F hr hb hd hx I1 r q
structure Mk (K : PySem.W.Frag) (C f : Addr) : Prop where
  makes : PySem.W.makesIn K C = true
  init : PySem.W.findIn K (.ref C) "__init__" = some (some (.ref f))
  fn : PySem.W.isFn K (.ref f) = true
  kp : PySem.W.keepIn K (.ref C) = true
end
section
variable {X : Cx} {CX : CXT} {k : Nat} {f C : Addr} {fd : FuncData} {ps ks : List Str} {sp : Sp} {E : XK} {x m : Str} {p pos apos kpos : Pos} {e o : Expr} {es : List Expr} {kws : List Keyword} {te ta : TE} {t tk : TA} {nm : Option Str}
structure KBinds (K : PySem.W.Frag) (fd : FuncData) (ps ks : List Str) (g : List Value → List Value → List Value) (gV : List V → List V → List V) : Prop where
  to : ∀ (s : Shared) (us ws : List Value), K.In s.heap → (g us ws).length = ps.length → BindsTo s fd ⟨us, ks.zip ws⟩ (ps.zip (g us ws))
  rel : ∀ {vs : List V} {us : List Value} {zs : List V} {ws : List Value}, Vals vs us → Vals zs ws → Vals (gV vs zs) (g us ws)
variable {g : List Value → List Value → List Value} {gV : List V → List V → List V}
end
structure FnScope (N P : List Str) (sc : Scope) : Prop where
  kind : sc.kind = .function
  co : sc.isCoroutine = false
  gen : sc.isGenerator = false
  nd : N.Nodup
  pre : N.take P.length = P
  par : ∀ x ∈ P, sc.names.lookup x = some .local ∨ sc.names.lookup x = some .cell
  nofree : ∀ y ∈ sc.names, y.2 ≠ .free
theorem bindL_out {kindOf : Str → Option NameKind} {x : Str} : ∀ {binds : List (Str × Value)} {m : Str → Option Value}, (∀ v, (x, v) ∉ binds) → bindL kindOf binds m x = m x
  | [], _, _ => rfl
  | (n, v) :: r, m, h => by
    unfold bindL
    rw [bindL_out fun w hw => h w (List.mem_cons_of_mem _ hw)]
    split
    · have : x ≠ n := by rintro rfl; exact h v List.mem_cons_self
      simp [this]
    · rfl
theorem bindC_out {kindOf : Str → Option NameKind} {x : Str} : ∀ {binds : List (Str × Value)} {m : Str → Option Value}, (∀ v, (x, v) ∉ binds) → bindC kindOf binds m x = m x
  | [], _, _ => rfl
  | (n, v) :: r, m, h => by
    unfold bindC
    rw [bindC_out fun w hw => h w (List.mem_cons_of_mem _ hw)]
    split
    · rfl
    · have : x ≠ n := by rintro rfl; exact h v List.mem_cons_self
      simp [this]
theorem bindL_get {kindOf : Str → Option NameKind} {x : Str} {v : Value} : ∀ {P : List Str} {vs : List Value} {i : Nat} {m : Str → Option Value}, P.Nodup → P[i]? = some x → vs[i]? = some v → kindOf x = some .local →
    bindL kindOf (P.zip vs) m x = some v
  | [], _, _, _, _, h, _, _ => by simp at h
  | _ :: _, [], _, _, _, _, h, _ => by simp at h
  | p :: P, w :: vs, 0, m, nd, h1, h2, hk => by
    simp at h1 h2; subst h1; subst h2
    show bindL kindOf ((p, w) :: P.zip vs) m p = _
    unfold bindL
    rw [bindL_out fun v hv => (List.nodup_cons.mp nd).1 (List.of_mem_zip hv).1, if_pos hk]
    simp
  | p :: P, w :: vs, i + 1, m, nd, h1, h2, hk => by
    show bindL kindOf ((p, w) :: P.zip vs) m x = _
    unfold bindL
    exact bindL_get (i := i) (List.nodup_cons.mp nd).2 (by simpa using h1) (by simpa using h2) hk
theorem bindC_get {kindOf : Str → Option NameKind} {x : Str} {v : Value} : ∀ {P : List Str} {vs : List Value} {i : Nat} {m : Str → Option Value}, P.Nodup → P[i]? = some x → vs[i]? = some v → kindOf x ≠ some .local →
    bindC kindOf (P.zip vs) m x = some v
  | [], _, _, _, _, h, _, _ => by simp at h
  | _ :: _, [], _, _, _, _, h, _ => by simp at h
  | p :: P, w :: vs, 0, m, nd, h1, h2, hk => by
    simp at h1 h2; subst h1; subst h2
    show bindC kindOf ((p, w) :: P.zip vs) m p = _
    unfold bindC
    rw [bindC_out fun v hv => (List.nodup_cons.mp nd).1 (List.of_mem_zip hv).1, if_neg hk]
    simp
  | p :: P, w :: vs, i + 1, m, nd, h1, h2, hk => by
    show bindC kindOf ((p, w) :: P.zip vs) m x = _
    unfold bindC
    exact bindC_get (i := i) (List.nodup_cons.mp nd).2 (by simpa using h1) (by simpa using h2) hk
noncomputable def start (N : List Str) (vs : List V) : St := vs.map some ++ List.replicate (N.length - vs.length) none
noncomputable def cxOf (CX : CXT) (P : Program) (w : World) (K : PySem.W.Frag) (mg : Str → Option Value) (base : Heap) (N : List Str) (qual : Str) (scope : Scope) (f : Addr) (cd : Value) (A : Around) (outer : List Env) (s : Shared) (H : Hp) (E : XK) : Cx where
  prog := P
  w := w
  K := K
  mg := mg
  base := base
  A := A.deeper (envOfC qual scope s.heap.objs.size f cd)
  N := N
  s₀ := s
  H₀ := H
  env := envOfC qual scope s.heap.objs.size f cd
  outer := outer
  stack := envOfC qual scope s.heap.objs.size f cd :: outer
  ex := []
  calm := true
  fn := fun _ => true
  pn := []
  xe := fun e s' => wpAny (model P w) (A.deeper (envOfC qual scope s.heap.objs.size f cd)) (leaving (envOfC qual scope s.heap.objs.size f cd) e) (fun _ s'' => CX outer H s E e s'') (fun e' s'' => CX outer H s E e' s'') s'
theorem cell_has {sc : Scope} {n : Nat} {x : Str} (h : sc.names.lookup x = some .cell) : ∃ c, (cellsFrom n sc.names []).lookup x = some c := by
  have q := PySem.W.cellsFrom_some sc.names n [] (.inl h)
  exact Option.isSome_iff_exists.mp q
theorem inv_start {CX : CXT} {P : Program} {w : World} {K : PySem.W.Frag} {mg : Str → Option Value} {base : Heap} {N ps : List Str} {qual : Str} {scope : Scope} {f : Addr} {cd : Value} {A : Around} {outer : List Env} {s s1 : Shared} {H : Hp} {E : XK} {us : List Value} {vs : List V}
    (S : FnScope N ps scope) (hd : A.handled = none) (e0 : Env0 P w K mg base A outer s H) (hl : vs.length = ps.length) (r : Vals vs us)
    (x : InCallC s s.heap.objs.size (bindL (envOfC qual scope s.heap.objs.size f cd).kindOf (ps.zip us) fun _ => none) (cellsFrom (s.heap.objs.size + 1) scope.names []) (bindC (envOfC qual scope s.heap.objs.size f cd).kindOf (ps.zip us) fun _ => none) s1) :
    Inv (cxOf CX P w K mg base N qual scope f cd A outer s H E) [] (start N vs) H s1 := by
  have hpl : ps.length ≤ N.length := by have := congrArg List.length S.pre; rw [List.length_take] at this; omega
  obtain ⟨h1, tk, rfl, hk⟩ := x.done
  have noA : ∀ b : Addr, b ∉ (cxOf CX P w K mg base N qual scope f cd A outer s H E).ex := fun b z => absurd (show b ∈ ([] : List Addr) from z) (by simp)
  refine ⟨⟨e0.mod, S.kind, rfl, rfl, Nat.le_refl _, fun y z c h1 h2 => ?_, fun y hy => ?_, fun y c _ h => ?_, fun _ => hd, Around.frames_deeper e0.frames, .inr ⟨rfl, rfl⟩, fun b z => absurd z (noA b), e0.bs, e0.bsz, fun b _ _ => noA b, fun b z => absurd z (noA b), e0.funs, e0.frf⟩,
    rfl, e0.bare, Un.kept hk, ⟨_, x.toInCall.ns, fun i y v h1 h2 h3 => ?_⟩, fun y c h => ⟨_, x.cell y c h⟩, e0.hok.fresh (Nat.le_refl _), fun y c h => ?_, fun p hp => absurd (show p ∈ ([] : List (Addr × Obj)) from hp) (by simp), e0.hok.kept hk, ?_⟩
  · exact name_of_addr x.apart (PySem.mem_of_lookup h1) (PySem.mem_of_lookup h2)
  · have hy : scope.names.lookup y = some .cell ∨ scope.names.lookup y = some .free := hy
    rcases hy with hy | hy
    · exact cell_has hy
    · exact absurd rfl (S.nofree _ (PySem.mem_of_lookup hy))
  · exact Nat.le_of_lt (x.above y c (PySem.mem_of_lookup h))
  · have hi : i < vs.length := by
      unfold start at h2
      by_cases hi : i < vs.length
      · exact hi
      · rw [List.getElem?_append_right (by simpa using hi)] at h2
        rw [List.getElem?_replicate] at h2
        split at h2 <;> cases h2
    have ha : vs[i]? = some v := by
      unfold start at h2
      rw [List.getElem?_append_left (by simpa using hi), List.getElem?_map] at h2
      cases e : vs[i]? with
      | none => rw [e] at h2; cases h2
      | some a => rw [e] at h2; cases h2; rfl
    obtain ⟨u, hu, rv⟩ := r.get ha
    have hp : ps[i]? = some y := by
      rw [← S.pre, List.getElem?_take_of_lt (by omega)]; exact h1
    have ndP : ps.Nodup := by rw [← S.pre]; exact S.nd.sublist (List.take_sublist _ _)
    refine ⟨u, rv, ?_⟩
    rcases S.par y (List.mem_of_getElem? hp) with k | k
    · exact .inl ⟨k, bindL_get ndP hp hu k⟩
    · obtain ⟨c, e⟩ := cell_has (n := s.heap.objs.size + 1) k
      refine .inr ⟨.inl k, c, e, ?_⟩
      have q := x.cell y c e
      rw [bindC_get ndP hp hu (by show scope.names.lookup y ≠ _; rw [k]; decide)] at q
      exact q
  · exact e0.hok.fresh (Nat.le_of_lt (x.above y c (PySem.mem_of_lookup h)))
  · unfold start
    show _ = N.length
    rw [List.length_append, List.length_map, List.length_replicate]
    omega
theorem fn_of {CX : CXT} {P : Program} {w : World} {K : PySem.W.Frag} {mg : Str → Option Value} {base : Heap} {k : Nat} {f : Addr} {name qual : Str} {params : Arguments} {body : List Stmt} {scope : Scope} {dV kV doc pm cdv ct oc : Value} {an od : Option Addr}
    {osl : Array (Option Value)} {N ps : List Str} {sp : Sp} (lk : K.lookup f = some ⟨oc, od, .func (PySem.W.fnOf name qual params body scope dV kV doc pm an cdv ct), osl⟩) (hcd : PySem.W.codeIn K cdv qual = true) (S : FnScope N ps scope)
    (len : ∀ vs H Q E, sp vs H Q E → vs.length = ps.length)
    (hbody : ∀ (A : Around) (outer : List Env) (s : Shared) (H : Hp) (vs : List V) (Q : VK) (E : XK), Room k (A.deeper (envOfC qual scope s.heap.objs.size f cdv)) → sp vs H Q E →
      ∃ t, PSs (cxOf CX P w K mg base N qual scope f cdv A outer s H E) body t ∧ t { nx := fun _ H' => Q .non H', rt := Q } (start N vs) H) :
    FnOk P w K mg base CX (k + 1) f (PySem.W.fnOf name qual params body scope dV kV doc pm an cdv ct) ps sp := by
  refine ⟨len, fun A outer s H args us vs Q E hr e0 hb r hsp => ?_⟩
  have hl := len _ _ _ _ hsp
  have KX : K.In s.heap := e0.mod.kin.keeps fun b o e => (e0.bs b o e).1
  have lim : s.heap.NoLimit := e0.mod.nolimit.keeps fun b o e => (e0.bs b o e).1
  have hkind : ∀ y ∈ ps.zip us, scope.names.lookup y.1 = some .local ∨ (scope.names.lookup y.1 = some .cell ∧ ((cellsFrom (s.heap.objs.size + 1) scope.names []).lookup y.1).isSome = true) := fun ⟨n, v⟩ hy => by
    rcases S.par n (List.of_mem_zip hy).1 with q | q
    · exact .inl q
    · exact .inr ⟨q, PySem.W.cellsFrom_some _ _ _ (.inl q)⟩
  refine codeAny_call_function hr.depth (KX _ _ lk) rfl S.co S.gen rfl (PySem.W.codeRec_of KX hcd) (hb _ _ _ _ ?_)
  refine wpAny_newFunctionEnv_cells S.kind hkind fun env he s1 x => ?_
  subst he
  refine ⟨lim.keeps x.toInCall.keep, codeAny_func ?_⟩
  obtain ⟨t, ht, hq⟩ := hbody A outer s H vs Q E (hr.deeper _) hsp
  have I : Inv (cxOf CX P w K mg base N qual scope f cdv A outer s H E) [] (start N vs) H s1 := inv_start S hr.hd e0 hl r x
  refine wpAny_mono (ht [] s1 (start N vs) H _ I hq) (fun fl s' hs => ?_) fun e s' hs => hs
  have fin : ∀ {σ' : St} {H' : Hp} {v : V} {u : Value}, Inv (cxOf CX P w K mg base N qual scope f cdv A outer s H E) [] σ' H' s' → RelV v u → Q v H' → CE outer P w H s Q u s' :=
    fun {σ' H' v u} J rv q => ⟨v, H', J.os, J.bare, J.base, J.hok, rv, q⟩
  cases fl with
  | ret u =>
    obtain ⟨v, σ', H', J, rv, q⟩ := hs
    exact fin J rv q
  | next =>
    obtain ⟨σ', H', J, q⟩ := hs
    exact fin (v := V.non) (u := Value.none) J rfl q
  | brk =>
    obtain ⟨_, _, _, q⟩ := hs
    exact False.elim q
  | cont =>
    obtain ⟨_, _, _, q⟩ := hs
    exact False.elim q
end L2
namespace L2
open PySem PySem.Spec PyProof.Rows
section
variable {X : Cx} {x : Str} {p pos : Pos} {e : Expr} {es : List Expr} {t : TA} {id T : String} {r : List V → Hp → VK → Prop}
noncomputable def tCB (r : List V → Hp → VK → Prop) (t : TA) : TE := fun σ H Q => t σ H fun vs H1 => r vs H1 Q
theorem pe_callB (hc : CallR X (.builtin id) r) (hg : Gl X x) (hm : X.mg x = none) (hv : bootBuiltins x = some (.builtin id)) (ha : PA X (e :: es) t) (hn : x ≠ "__name__" := by decide) (hdb : (x == ("__debug__" : Str)) = false := by decide)
    (he : starEach (e :: es) X.env = (false, eval e X.env) :: starEach es X.env := by rfl) (hpl : (backTo pos (starEach es X.env)).any (·.1) = false := by rfl) : PE X (.Call (.Name x p) (e :: es) [] pos) (tCB r t) := by
  intro pins s σ H Q I h
  refine wpAny_Call_Name_kw (ld_blt I hg hm hv ?_ hn hdb)
  exact PyProof.Rows.callWith_builtin1 (thn (ha pos pins s σ H _ I h) fun us s1 ⟨vs, H1, I1, r1, q1⟩ => hc pins s1 σ H1 vs us Q I1 r1 q1) he hpl
theorem pe_callTy (hc : CallR X (.type T) r) (hg : Gl X x) (hm : X.mg x = none) (hv : bootBuiltins x = some (.type T)) (ha : PA X (e :: es) t) (hn : x ≠ "__name__" := by decide) (hdb : (x == ("__debug__" : Str)) = false := by decide)
    (he : starEach (e :: es) X.env = (false, eval e X.env) :: starEach es X.env := by rfl) (hpl : (backTo pos (starEach es X.env)).any (·.1) = false := by rfl) : PE X (.Call (.Name x p) (e :: es) [] pos) (tCB r t) := by
  intro pins s σ H Q I h
  refine wpAny_Call_Name_kw (ld_blt I hg hm hv ?_ hn hdb)
  exact PyProof.Rows.callWith_type1 (thn (ha pos pins s σ H _ I h) fun us s1 ⟨vs, H1, I1, r1, q1⟩ => hc pins s1 σ H1 vs us Q I1 r1 q1) he hpl
end
end L2
namespace HT
open PySem PyProof.Rows
section
open PySem.SeqAt
open PySem.AutoSeq1 (wpAny_loadPart')
open PySem.MeetsSeq PySem.MeetsSeq2 PySem.MeetsSeq3
end
section
variable {prog : Program} {w : World} {A : Around} {E : Value → Shared → Prop} {s : Shared}
theorem cat_tup {t b : Addr} {vs ws : List Value} {Q : Value → Shared → Prop} (ht : IsTup s.heap t vs.toArray) (hb : IsTup s.heap b ws.toArray) (hv : vs ≠ [])
    (h1 : ws = [] → Q (.ref t) s) (h2 : ws ≠ [] → Q (.ref s.heap.objs.size) { s with heap := s.heap.push { cls := .type "tuple", data := .seq (vs ++ ws).toArray } })
    (hsz : vs.length + ws.length ≤ sizeLine) : wpAny (model prog w) A (binaryOp .Add (.ref t) (.ref b)) Q E s := by
  obtain ⟨⟨cls, dd, data, sl⟩, ho, hc, n, hd⟩ := id ht
  obtain ⟨⟨cls2, dd2, data2, sl2⟩, ho2, hc2, n2, hd2⟩ := id hb
  simp only at hc hd hc2 hd2
  subst hc hd hc2 hd2
  have e : vs.toArray ++ ws.toArray = (vs ++ ws).toArray := by simp
  by_cases hw : ws = []
  · exact concat_meets ⟨_, ho, rfl⟩ ⟨_, ho2, rfl⟩ noFill_tuple_add seq_tuple_add PySem.F.slot_tuple_add PySem.F.entry_tuple_add (PySem.F.args_tuple_add_2 _ _)
      (tuple_addW1 t b vs.toArray ws.toArray n n2 dd dd2 sl sl2 (by simpa using hv) (by simp [hw])) ⟨ho, ho2, h1 hw⟩
  · refine concat_meets ⟨_, ho, rfl⟩ ⟨_, ho2, rfl⟩ noFill_tuple_add seq_tuple_add PySem.F.slot_tuple_add PySem.F.entry_tuple_add (PySem.F.args_tuple_add_2 _ _)
      (tuple_addW2 t b vs.toArray ws.toArray n n2 dd dd2 sl sl2 (by simpa using hv) (by simpa using hw) (by rw [List.size_toArray, List.size_toArray]; exact hsz)) ⟨ho, ho2, ?_⟩
    rw [e]
    exact h2 hw
noncomputable def sIx (n d : Nat) : Option Int → Nat
  | none => d
  | some v => if v < 0 then (v + (n : Int)).toNat else min v.toNat n
end
end HT
namespace L2
open PySem PySem.Spec PyProof.Rows
noncomputable abbrev TO := St → Hp → (Option Int → Hp → Prop) → Prop
noncomputable def PO (X : Cx) (e : Option Expr) (t : TO) : Prop :=
  ∀ (pins : List (Addr × Obj)) (s : Shared) (σ : St) (H : Hp) (Q : Option Int → Hp → Prop), Inv X pins σ H s → t σ H Q →
    wpAny (model X.prog X.w) X.A (evalPart e X.env) (fun u s' => ∃ o H', Inv X pins σ H' s' ∧ IsPart u o ∧ Q o H') X.xe s
theorem intsAre_of {ns : List Int} : ∀ {us : List Value}, Vals (ns.map V.int) us → IntsAre us ns := by
  induction ns with
  | nil => intro us r; rw [List.map_nil] at r; cases r; exact .nil
  | cons n ns ih =>
    intro us r
    rw [List.map_cons] at r
    cases r with
    | cons r1 r2 =>
      obtain ⟨t, e⟩ := r1
      subst e
      exact .cons n t (ih r2)
section
variable {X : Cx} {e : Expr} {te : TE} {lo hi : Option Expr} {tl th : TO} {pos p2 : Pos}
noncomputable def SlR (X : Cx) (r : V → Option Int → Option Int → Hp → VK → Prop) : Prop :=
  ∀ (pins : List (Addr × Obj)) (s : Shared) (σ : St) (H : Hp) (x : V) (v vl vu : Value) (lo hi : Option Int) (sl : Addr) (Q : VK), Inv X pins σ H s → RelV x v → s.heap.IsSliceOf sl vl vu .none → IsPart vl lo → IsPart vu hi → r x lo hi H Q →
    ∃ T id, typeLookup (.type T) "__getitem__" = pure (some (.builtin id)) ∧ s.TypeIs v T ∧ wpAny (model X.prog X.w) X.A (getItem v (.ref sl)) (EP X pins σ Q) X.xe s
theorem SlR.or {r r' : V → Option Int → Option Int → Hp → VK → Prop} (h : SlR X r) (h' : SlR X r') : SlR X (fun x lo hi H Q => r x lo hi H Q ∨ r' x lo hi H Q) := by
  intro pins s σ H x v vl vu lo hi sl Q I rx hs pl pu q
  rcases q with q | q
  · exact h pins s σ H x v vl vu lo hi sl Q I rx hs pl pu q
  · exact h' pins s σ H x v vl vu lo hi sl Q I rx hs pl pu q
noncomputable def rCatT (K : PySem.W.Frag) : R2 := fun x y H Q => ∃ a b xs ys, x = .ref a ∧ y = .ref b ∧ SqT K H a xs ∧ SqT K H b ys ∧ xs ≠ [] ∧ xs.length + ys.length ≤ sizeLine ∧
  (ys = [] → Q (.ref a) H) ∧ (ys ≠ [] → ∀ p, H p = none → Q (.ref p) (upd H p (.tup (xs ++ ys))))
theorem Vals.nil_iff {xs : List V} {us : List Value} (r : Vals xs us) : us = [] ↔ xs = [] := by
  cases r with
  | nil => simp
  | cons _ _ => simp
theorem op_catT : OpR X (binaryOp .Add) (rCatT X.K) := by
  intro pins s σ H x y v u Q I rx ry h
  obtain ⟨a, b, xs, ys, rfl, rfl, ha, hb, hx, hz, q1, q2⟩ := h
  cases rx
  cases ry
  obtain ⟨its, r1, p1, _⟩ := I.tuple ha
  obtain ⟨its2, r2, p2, _⟩ := I.tuple hb
  refine HT.cat_tup p1 p2 (fun z => hx (r1.nil_iff.mp z)) (fun z => ⟨.ref a, H, I, rfl, q1 (r2.nil_iff.mp z)⟩) (fun z => ?_) (by rw [← r1.length, ← r2.length]; exact hz)
  refine ⟨.ref s.heap.objs.size, _, I.laid (t' := s.toks) (o := .tup (xs ++ ys)) (fun b ob q => Heap.get?_push_of_some _ q) (Nat.le_refl _) ?_, rfl, q2 (fun w => z (r2.nil_iff.mpr w)) _ (I.hok.fresh (Nat.le_refl _))⟩
  exact ⟨by rw [List.length_append]; exact hz, _, r1.append r2, IsTup.new _ _, _, Heap.get?_push_size _ rfl, rfl⟩
end
end L2
namespace L2
open PySem PySem.Spec PyProof.Rows
noncomputable def ixN (n : Nat) (i : Int) : Option Nat := if 0 ≤ i then (if i < n then some i.toNat else none) else if -(n : Int) ≤ i then some (i + n).toNat else none
noncomputable def atI {α : Type} (xs : List α) (i : Int) : Option α := (ixN xs.length i).bind fun j => xs[j]?
theorem ixN_seq {n : Nat} {i : Int} {j : Nat} (h : ixN n i = some j) : seqIndex? i n = some j ∧ j < n ∧ -(n : Int) ≤ i ∧ i < n := by
  unfold ixN at h
  by_cases h0 : 0 ≤ i
  · rw [if_pos h0] at h
    by_cases h1 : i < n
    · rw [if_pos h1] at h
      have e : i.toNat = j := Option.some.inj h
      exact ⟨by rw [seqIndex_of h0 h1, e], by omega, by omega, h1⟩
    · rw [if_neg h1] at h; cases h
  · rw [if_neg h0] at h
    by_cases h1 : -(n : Int) ≤ i
    · rw [if_pos h1] at h
      have e : (i + n).toNat = j := Option.some.inj h
      exact ⟨by rw [seqIndex_neg (by omega) h1, e], by omega, h1, by omega⟩
    · rw [if_neg h1] at h; cases h
theorem atI_get {α : Type} {xs : List α} {i : Int} {v : α} (h : atI xs i = some v) : ∃ j, seqIndex? i xs.length = some j ∧ xs[j]? = some v ∧ j < xs.length ∧ -(xs.length : Int) ≤ i ∧ i < xs.length := by
  unfold atI at h
  cases e : ixN xs.length i with
  | none => rw [e] at h; cases h
  | some j =>
    rw [e] at h
    obtain ⟨h1, h2, h3, h4⟩ := ixN_seq e
    exact ⟨j, h1, h, h2, h3, h4⟩
noncomputable def PlainIx (b : Expr) : Prop := ∀ o i, subscripted b false o i = operate [o, i] (getItem o i)
noncomputable def IxR (X : Cx) (r : R2) : Prop :=
  ∀ (value slice : Expr) (pins : List (Addr × Obj)) (s : Shared) (σ : St) (H : Hp) (x y : V) (v u : Value) (Q : VK), Inv X pins σ H s → RelV x v → RelV y u → r x y H Q →
    subscripted slice false v u = operate [v, u] (getItem v u) → wpAny (model X.prog X.w) X.A (subscriptTail value slice v u) (EP X pins σ Q) X.xe s
noncomputable def MtR (X : Cx) (id : String) (r : V → List V → Hp → VK → Prop) : Prop :=
  ∀ (pins : List (Addr × Obj)) (s : Shared) (σ : St) (H : Hp) (x : V) (xs : List V) (v : Value) (us : List Value) (Q : VK), Inv X pins σ H s → RelV x v → Vals xs us → r x xs H Q →
    wpAny (model X.prog X.w) X.A (call (.builtin id) (v :: us)) (EP X pins σ Q) X.xe s
section
variable {X : Cx} {a b : Expr} {ta tb : TE} {pos : Pos}
theorem IxR.or {r r' : R2} (h : IxR X r) (h' : IxR X r') : IxR X (fun x y H Q => r x y H Q ∨ r' x y H Q) := by
  intro value slice pins s σ H x y v u Q I rx ry q hs
  rcases q with q | q
  · exact h value slice pins s σ H x y v u Q I rx ry q hs
  · exact h' value slice pins s σ H x y v u Q I rx ry q hs
theorem MtR.or {id : String} {r r' : V → List V → Hp → VK → Prop} (h : MtR X id r) (h' : MtR X id r') : MtR X id (fun x xs H Q => r x xs H Q ∨ r' x xs H Q) := by
  intro pins s σ H x xs v us Q I rx rs q
  rcases q with q | q
  · exact h pins s σ H x xs v us Q I rx rs q
  · exact h' pins s σ H x xs v us Q I rx rs q
theorem pe_ix {r : R2} (hr : IxR X r) (ha : PE X a ta) (hb : PE X b tb) (hs : PlainIx b) : PE X (.Subscript a b pos) (tOp r ta tb) := by
  intro pins s σ H Q I h
  exact Subscript_ (binT ha hb I h fun v u s2 x y H2 I2 rx ry q => hr a b pins s2 σ H2 x y v u Q I2 rx ry q (hs _ _))
noncomputable def rIxL (K : PySem.W.Frag) : R2 := fun x y H Q => ∃ p xs i v, x = .ref p ∧ y = .int i ∧ SqL K H p xs ∧ atI xs i = some v ∧ Q v H
noncomputable def rIxT (K : PySem.W.Frag) : R2 := fun x y H Q => ∃ p xs i v, x = .ref p ∧ y = .int i ∧ SqT K H p xs ∧ atI xs i = some v ∧ Q v H
noncomputable def rIxS : R2 := fun x y H Q => ∃ z i c, x = .str z ∧ y = .int i ∧ z.length ≤ sizeLine ∧ atI z.cps.toList i = some c ∧ Q (.str ⟨#[c]⟩) H
theorem ix_list : IxR X (rIxL X.K) := by
  intro value slice pins s σ H x y v u Q I rx ry h hs
  obtain ⟨p, xs, i, z, rfl, rfl, hq, he, q⟩ := h
  cases rx
  obtain ⟨t, rfl⟩ := ry
  obtain ⟨its, r, pl, hz⟩ := I.list hq
  obtain ⟨j, h1, h2, h3, h4, h5⟩ := atI_get he
  obtain ⟨w, ew, rw'⟩ := r.get h2
  have hl := r.length
  have hn := line63
  have fin : EP X pins σ Q w s := ⟨z, H, I, rw', q⟩
  by_cases h0 : 0 ≤ i
  · have hj : i.toNat = j := by
      rw [seqIndex_of h0 h5] at h1
      exact Option.some.inj h1
    exact item_listR pl.isList h0 (by omega) (by rw [hj]; simpa using ew) fin hs
  · have hj : (i + (its.toArray.size : Int)).toNat = j := by
      rw [seqIndex_neg (by omega) h4] at h1
      rw [List.size_toArray, ← hl]
      exact Option.some.inj h1
    exact subscriptTail_builtinR (x := w) pl.isList.typeIs slot_list_getitem.lookup
      (wpAny_getItem_list_neg (Q := fun r s' => r = w ∧ EP X pins σ Q r s') pl.isList (by omega) (by rw [List.size_toArray] <;> omega) (by omega) (by rw [hj]; simpa using ew) ⟨rfl, fin⟩) hs
theorem ix_tup : IxR X (rIxT X.K) := by
  intro value slice pins s σ H x y v u Q I rx ry h hs
  obtain ⟨p, xs, i, z, rfl, rfl, hq, he, q⟩ := h
  cases rx
  obtain ⟨t, rfl⟩ := ry
  obtain ⟨its, r, pl, hz⟩ := I.tuple hq
  obtain ⟨j, h1, h2, h3, h4, h5⟩ := atI_get he
  obtain ⟨w, ew, rw'⟩ := r.get h2
  have hl := r.length
  have hn := line63
  have fin : EP X pins σ Q w s := ⟨z, H, I, rw', q⟩
  exact subscriptTail_builtinR (x := w) pl.typeIs slot_tuple_getitem.lookup
    (getItem_tuple (j := j) (Q := fun r s' => r = w ∧ EP X pins σ Q r s') pl (by omega) (by omega) (by rw [List.size_toArray, ← hl]; exact h1) (by simpa using ew) ⟨rfl, fin⟩) hs
theorem ix_str : IxR X rIxS := by
  intro value slice pins s σ H x y v u Q I rx ry h hs
  obtain ⟨z, i, c, rfl, rfl, hz, he, q⟩ := h
  obtain ⟨t, rfl⟩ := rx
  obtain ⟨t', rfl⟩ := ry
  obtain ⟨j, h1, h2, h3, h4, h5⟩ := atI_get he
  have hl : z.cps.toList.length = z.length := by simp [Str.length]
  rw [hl] at h1 h4 h5
  have hn := line63
  exact tail_any (typeIs_str s z t) slot_str_getitem.lookup (getItem_str (c := c) (by
    have e1 : decide (i < -(2 ^ 63 : Int)) = false := decide_eq_false (by omega)
    have e2 : decide (i ≥ 2 ^ 63) = false := decide_eq_false (by omega)
    rw [e1, e2, Bool.or_false]) (by rw [h1]; simpa using h2) ⟨.str ⟨#[c]⟩, H, I.tok _, ⟨_, rfl⟩, q⟩) hs
noncomputable def rIx (K : PySem.W.Frag) : R2 := fun x y H Q => rIxL K x y H Q ∨ rIxT K x y H Q ∨ rIxS x y H Q
theorem ix_seq : IxR X (rIx X.K) := ix_list.or (ix_tup.or ix_str)
theorem mapSeq_set (its : List Value) (n j : Nat) (u : Value) : Obj.mapSeq (·.setIfInBounds j u) { cls := .type "list", data := .seq its.toArray n } = { cls := .type "list", data := .seq (its.set j u).toArray n } := by
  simp [Obj.mapSeq]
theorem Inv.lst {pins : List (Addr × Obj)} {σ : St} {H : Hp} {s : Shared} {p : Addr} {xs : List V} (I : Inv X pins σ H s) (h : H p = some (.lst xs)) :
    ∃ (its : List Value) (n : Nat), Vals xs its ∧ s.heap.get? p = some { cls := .type "list", data := .seq its.toArray n } ∧ xs.length ≤ sizeLine := by
  obtain ⟨z, its, n, r, e⟩ := I.hok p _ h
  exact ⟨its, n, r, e, z⟩
theorem Inv.lstUpd {pins : List (Addr × Obj)} {σ : St} {H : Hp} {s : Shared} {p : Addr} {xs ys : List V} {its its' : List Value} {n n' : Nat} {f : Obj → Obj} (I : Inv X pins σ H s) (h : H p = some (.lst xs))
    (ho : s.heap.get? p = some { cls := .type "list", data := .seq its.toArray n }) (hf : f { cls := .type "list", data := .seq its.toArray n } = { cls := .type "list", data := .seq its'.toArray n' }) (r : Vals ys its') (hz : ys.length ≤ sizeLine) (t : Nat) :
    Inv X pins σ (upd H p (.lst ys)) { s with heap := s.heap.update p f, toks := t } := by
  have e : (s.heap.update p f).get? p = some { cls := .type "list", data := .seq its'.toArray n' } := by
    rw [Heap.get?_update_self f ho (by rw [hf] <;> rfl), hf]
  refine I.write (x := p) (e := p) (by rw [h]; trivial) (.inl rfl) (fun b u hb q => (Heap.get?_update_other _ _ (Ne.symm hb)).trans q) ⟨_, e⟩ ?_
  exact ⟨hz, its', n', r, e⟩
noncomputable def rSetL : V → V → V → Hp → (Hp → Prop) → Prop := fun o i v H Q => ∃ p xs k j, o = .ref p ∧ i = .int k ∧ H p = some (.lst xs) ∧ ixN xs.length k = some j ∧ Q (upd H p (.lst (xs.set j v)))
theorem set_list : PSet X rSetL := by
  intro pins s σ H o i v ov iv u Q I ro ri rv h
  obtain ⟨p, xs, k, j, rfl, rfl, hp, hj, q⟩ := h
  cases ro
  obtain ⟨t, rfl⟩ := ri
  obtain ⟨its, n, r, ho, hz⟩ := I.lst hp
  obtain ⟨h1, h2, h3, h4⟩ := ixN_seq hj
  have hl := r.length
  have hn := line63
  have I' : Inv X pins σ (upd H p (.lst (xs.set j v))) { s with heap := s.heap.update p (Obj.mapSeq (·.setIfInBounds j u)) } :=
    I.lstUpd hp ho (mapSeq_set its n j u) (r.set rv j) (by rw [List.length_set]; exact hz) s.toks
  by_cases h0 : 0 ≤ k
  · have hk : k.toNat = j := by
      rw [seqIndex_of h0 h4] at h1
      exact Option.some.inj h1
    exact PySem.W.ki_setAt ho h0 (by omega) (by rw [List.size_toArray, ← hl]; exact h4) (by rw [hk]; exact ⟨_, I', q⟩)
  · have hk : (k + (its.toArray.size : Int)).toNat = j := by
      rw [seqIndex_neg (by omega) h3] at h1
      rw [List.size_toArray, ← hl]
      exact Option.some.inj h1
    exact PySem.W.ki_setBack ho (by omega) (by rw [List.size_toArray, ← hl]; exact h3) (by omega) (by rw [hk]; exact ⟨_, I', q⟩)
noncomputable def flatV : V → Bool
  | .non => true
  | .bl _ => true
  | .int _ => true
  | .str _ => true
  | _ => false
noncomputable def eqV : V → V → Bool
  | .non, .non => true
  | .bl a, .bl b => a == b
  | .bl a, .int b => (if a then 1 else 0) == b
  | .int a, .bl b => a == (if b then 1 else 0)
  | .int a, .int b => a == b
  | .str a, .str b => a == b
  | _, _ => false
theorem CallR.or {f : Value} {r r' : List V → Hp → VK → Prop} (h : CallR X f r) (h' : CallR X f r') : CallR X f (fun xs H Q => r xs H Q ∨ r' xs H Q) := by
  intro pins s σ H xs us Q I rs q
  rcases q with q | q
  · exact h pins s σ H xs us Q I rs q
  · exact h' pins s σ H xs us Q I rs q
theorem call_list_of : CallR X (.type "list") (fun xs H Q => ∃ p ys, xs = [.ref p] ∧ (SqL X.K H p ys ∨ SqT X.K H p ys) ∧ ∀ l, H l = none → Q (.ref l) (upd H l (.lst ys))) := by
  intro pins s σ H xs us Q I r h
  obtain ⟨p, ys, rfl, hq, q⟩ := h
  obtain ⟨u, rfl, rx⟩ := vals1 r
  cases rx
  have fin : ∀ (its : List Value), Vals ys its → ys.length ≤ sizeLine → ∀ (h' : Heap) (c' : Nat), (∀ b o', s.heap.get? b = some o' → h'.get? b = some o') →
      h'.get? s.heap.objs.size = some { cls := .type "list", dict := none, data := .seq its.toArray c', slots := #[] } → EP X pins σ Q (.ref s.heap.objs.size) { s with heap := h' } := fun its r' hz h' c' kp e =>
    ⟨.ref s.heap.objs.size, _, I.laid (t' := s.toks) kp (Nat.le_refl _) (show ObjOk X.prog X.w _ h' _ (.lst ys) from ⟨hz, its, c', r', e⟩), rfl, q _ (I.hok.fresh (Nat.le_refl _))⟩
  rcases hq with hq | hq
  · obtain ⟨its, r', pl, hz⟩ := I.list hq
    have hlen := r'.length
    obtain ⟨o, ho, hc, n, hd⟩ := pl.isList
    exact call_list_seq p (.inl rfl) ho hc hd (fun h' c' kp e => fin its r' hz h' c' kp e) (by simp only [List.size_toArray] <;> omega)
  · obtain ⟨its, r', pl, hz⟩ := I.tuple hq
    have hlen := r'.length
    obtain ⟨o, ho, hc, n, hd⟩ := pl
    exact call_list_seq p (.inr rfl) ho hc hd (fun h' c' kp e => fin its r' hz h' c' kp e) (by simp only [List.size_toArray] <;> omega)
theorem call_tuple_of : CallR X (.type "tuple") (fun xs H Q => ∃ p ys, xs = [.ref p] ∧ ((SqL X.K H p ys ∧ ∀ l, H l = none → Q (.ref l) (upd H l (.tup ys))) ∨ (SqT X.K H p ys ∧ Q (.ref p) H))) := by
  intro pins s σ H xs us Q I r h
  obtain ⟨p, ys, rfl, h⟩ := h
  obtain ⟨u, rfl, rx⟩ := vals1 r
  cases rx
  rcases h with ⟨hq, q⟩ | ⟨hq, q⟩
  · obtain ⟨its, r', pl, hz⟩ := I.list hq
    have hlen := r'.length
    refine call_tuple_list pl.isList (fun h' kp => ?_) (by simp only [List.size_toArray] <;> omega)
    have I1 : Inv X pins σ H { s with heap := h' } := I.kept (t' := s.toks) kp
    have I2 : Inv X pins σ (upd H h'.objs.size (.tup ys)) { s with heap := h'.push { cls := .type "tuple", data := .seq its.toArray } } :=
      I1.laid (t' := s.toks) (fun b o e => Heap.get?_push_of_some _ e) (Nat.le_refl _) (show ObjOk X.prog X.w _ _ _ (.tup ys) from ⟨hz, its, r', IsTup.new _ _, _, Heap.get?_push_size _ rfl, rfl⟩)
    exact ⟨.ref h'.objs.size, _, I2, rfl, q _ (I1.hok.fresh (Nat.le_refl _))⟩
  · obtain ⟨its, r', pl, hz⟩ := I.tuple hq
    exact call_tuple_same pl ⟨.ref p, H, I, rfl, q⟩
noncomputable def tyV (K : PySem.W.Frag) (T : String) (x : V) (H : Hp) : Prop := match x with
  | .str _ => T = "str"
  | .int _ => T = "int"
  | .ref p => (T = "list" ∧ ∃ xs, SqL K H p xs) ∨ (T = "tuple" ∧ ((∃ o, K.lookup p = some o ∧ o.cls = .type "tuple" ∧ o.dict = none) ∨ ∃ xs, Rd H p (.tup xs))) ∨
      (T = "dict" ∧ ((∃ kvs, Rd H p (.dK kvs)) ∨ ∃ kvs, H p = some (.dT kvs))) ∨ (T = "set" ∧ ∃ S n, H p = some (.set S n))
  | _ => False
theorem tyV_is {pins : List (Addr × Obj)} {σ : St} {H : Hp} {s : Shared} {T : String} {x : V} {v : Value} (I : Inv X pins σ H s) (r : RelV x v) (ty : tyV X.K T x H) :
    s.TypeIs v T ∧ ∀ a, v = .ref a → ∃ ob, s.heap.get? a = some ob ∧ ob.dict = none := by
  cases x with
  | str z =>
    obtain ⟨t, rfl⟩ := r
    cases (show T = "str" from ty)
    exact ⟨typeIs_str s z t, fun _ e => nomatch e⟩
  | int i =>
    obtain ⟨t, rfl⟩ := r
    cases (show T = "int" from ty)
    exact ⟨typeIs_int s i t, fun _ e => nomatch e⟩
  | ref p =>
    cases r
    rcases ty with ⟨rfl, xs, hq⟩ | ⟨rfl, ⟨o, hk, hc, hd⟩ | ⟨xs, hq⟩⟩ | ⟨rfl, hk⟩ | ⟨rfl, S, n, hk⟩
    · obtain ⟨its, _, pl, _⟩ := I.list hq
      refine ⟨pl.isList.typeIs, fun a e => ?_⟩
      cases e
      obtain ⟨o, n, e, c, hd, _⟩ := pl
      exact ⟨o, e, hd⟩
    · refine ⟨⟨o, I.kIn p o hk, hc⟩, fun a e => ?_⟩
      cases e
      exact ⟨o, I.kIn _ o hk, hd⟩
    · obtain ⟨_, its, _, ⟨o, ho, hc, _⟩, o2, ho2, hd2⟩ := hq.ok I.hok
      refine ⟨⟨o, ho, hc⟩, fun a e => ?_⟩
      cases e
      exact ⟨o2, ho2, hd2⟩
    · have z : ∃ o, s.heap.get? p = some o ∧ o.ExactDict := by
        rcases hk with ⟨kvs, hk⟩ | ⟨kvs, hk⟩
        · obtain ⟨_, _, _, _, o, _, _, e, ex, _⟩ := (show ObjOk X.prog X.w H s.heap p (.dK kvs) from hk.ok I.hok)
          exact ⟨o, e, ex⟩
        · obtain ⟨_, _, _, _, o, _, _, e, ex, _⟩ := I.hok p _ hk
          exact ⟨o, e, ex⟩
      obtain ⟨o, e, ex⟩ := z
      refine ⟨⟨o, e, ex.1⟩, fun a e2 => ?_⟩
      cases e2
      exact ⟨o, e, ex.2.1⟩
    · obtain ⟨o, _, _, _, e, ex, _⟩ := I.hok p _ hk
      refine ⟨⟨o, e, ex.1⟩, fun a e2 => ?_⟩
      cases e2
      exact ⟨o, e, ex.2.1⟩
  | _ => exact False.elim ty
noncomputable def tBM (K : PySem.W.Frag) (T : String) (r : V → List V → Hp → VK → Prop) (to : TE) (t : TA) : TE := fun σ H Q => to σ H fun x H1 => tyV K T x H1 ∧ t σ H1 fun xs H2 => r x xs H2 Q
variable {o e : Expr} {es : List Expr} {to : TE} {t : TA} {name : Str} {apos cpos : Pos} {T id : String} {r : V → List V → Hp → VK → Prop}
theorem pe_bm (pa : PlainAttrs T) (slot : Slot T name id) (hty : typeOf (.builtin id) = pure (.type "method_descriptor")) (hm : MtR X id r) (ho : PE X o to) (ha : PA X (e :: es) t)
    (hbase : attributeBase o name X.env (eval o X.env) = eval o X.env := by rfl)
    (hfew : ((backTo cpos (starEach (e :: es) X.env)).all (fun x => !x.1) && (backToKw cpos (keywordEach [] X.env)).all (fun x => x.1.isSome)
      && decide ((e :: es).length + ([] : List Keyword).length + (if ([] : List Keyword).isEmpty then 0 else 1) < 30)) = true := by rfl)
    (hline : (apos.endLine == cpos.line) = true := by rfl) (hs : starEach (e :: es) X.env = (false, eval e X.env) :: starEach es X.env := by rfl) (hplain : (backTo cpos (starEach es X.env)).any (·.1) = false := by rfl) :
    PE X (.Call (.Attribute o name apos) (e :: es) [] cpos) (tBM X.K T r to t) := by
  intro pins s σ H Q I h
  refine wpAny_Call_method_late hbase hfew hline rfl (thn (ho pins s σ H _ I h) fun v s1 ⟨x, H1, I1, r1, ty, q1⟩ => ?_)
  obtain ⟨h1, h2⟩ := tyV_is I1 r1 ty
  refine ⟨T, id, pa, slot, hty, h1, h2, ?_⟩
  have hA := ha cpos pins s1 σ H1 _ I1 q1
  rw [hs] at hA ⊢
  refine Calls.callWith_builtin (by show (false || (backTo cpos (starEach es X.env)).any (·.1)) = false; rw [hplain] <;> rfl) (Calls.evalArgs_plain ?_)
  exact thn hA fun us s2 ⟨vs, H2, I2, r2, q2⟩ => hm pins s2 σ H2 x vs v us Q I2 r1 r2 q2
end
end L2
namespace L2
open PySem PySem.Spec PyProof.Rows
noncomputable def MtM (X : Cx) (id : String) (r : V → List V → Hp → VK → Prop) : Prop :=
  ∀ (pins : List (Addr × Obj)) (s : Shared) (σ : St) (H : Hp) (x : V) (xs : List V) (v : Value) (us : List Value) (Q : VK), Inv X pins σ H s → RelV x v → Vals xs us → r x xs H Q →
    wpAny (model X.prog X.w) X.A (call (.builtin id) (v :: us)) (EP X pins σ Q) X.xe s
theorem Vals.one : ∀ {x : V} {us : List Value}, Vals [x] us → ∃ u, us = [u] ∧ RelV x u
  | _, _, .cons r .nil => ⟨_, rfl, r⟩
theorem Vals.zero : ∀ {us : List Value}, Vals [] us → us = []
  | _, .nil => rfl
theorem Vals.eraseIdx : ∀ {xs : List V} {us : List Value} (i : Nat), Vals xs us → Vals (xs.eraseIdx i) (us.eraseIdx i)
  | _, _, _, .nil => .nil
  | _, _, 0, .cons _ t => t
  | _, _, i + 1, .cons r t => .cons r (Vals.eraseIdx i t)
theorem Vals.reverse {xs : List V} {us : List Value} (h : Vals xs us) : Vals xs.reverse us.reverse := by
  induction h with
  | nil => exact .nil
  | cons r t ih => rw [List.reverse_cons, List.reverse_cons]; exact Vals.append ih (.cons r .nil)
section
variable {X : Cx} {pins : List (Addr × Obj)} {σ : St} {H : Hp} {s : Shared} {l b : Addr} {xs ys zs : List V}
theorem Inv.lset {its its' : List Value} {n : Nat} {f : Array Value → Array Value} {t' : Nat} (I : Inv X pins σ H s) (hH : H l = some (.lst xs))
    (e : s.heap.get? l = some { cls := .type "list", data := .seq its.toArray n }) (hf : f its.toArray = its'.toArray) (hv : Vals ys its') (hz : ys.length ≤ sizeLine) :
    Inv X pins σ (upd H l (.lst ys)) { s with heap := s.heap.update l (Obj.mapSeq f), toks := t' } := by
  have q := PySem.IsL.update e f
  rw [hf] at q
  refine I.write (x := l) (e := l) (by rw [hH]; exact trivial) (.inl rfl) (fun b' u hb hu => (Heap.get?_update_other s.heap (Obj.mapSeq f) (Ne.symm hb)).trans hu) ⟨_, q⟩ ?_
  exact ⟨hz, its', _, hv, q⟩
theorem Inv.lnew {its : List Value} {t' : Nat} (I : Inv X pins σ H s) (hv : Vals ys its) (hz : ys.length ≤ sizeLine) :
    Inv X pins σ (upd H s.heap.objs.size (.lst ys)) { s with heap := s.heap.push { cls := .type "list", data := .seq its.toArray }, toks := t' } :=
  I.laid (fun _ _ q => Heap.get?_push_of_some _ q) (Nat.le_refl _) ⟨hz, its, 0, hv, Heap.get?_push_size _ rfl⟩
theorem Inv.fresh (I : Inv X pins σ H s) : H s.heap.objs.size = none := I.hok.fresh (Nat.le_refl _)
theorem Inv.lstM (I : Inv X pins σ H s) (hH : H l = some (.lst xs)) : xs.length ≤ sizeLine ∧ ∃ (its : List Value) (n : Nat), Vals xs its ∧ xs.length = its.length ∧ s.heap.get? l = some { cls := .type "list", data := .seq its.toArray n } := by
  obtain ⟨z, its, n, r, e⟩ := I.hok l _ hH
  exact ⟨z, its, n, r, r.length, e⟩
end
section
variable {X : Cx}
noncomputable def rAppend : V → List V → Hp → VK → Prop := fun x vs H Q => ∃ l xs y, x = .ref l ∧ vs = [y] ∧ H l = some (.lst xs) ∧ xs.length < sizeLine ∧ Q .non (upd H l (.lst (xs ++ [y])))
theorem mt_append : MtM X "list.append" rAppend := by
  intro pins s σ H x vs v us Q I rx rv h
  obtain ⟨l, xs, y, rfl, rfl, hH, hz, q⟩ := h
  cases rx
  obtain ⟨u, rfl, ru⟩ := rv.one
  obtain ⟨z, its, n, r, hl, e⟩ := I.lstM hH
  refine call_meets F.slot_list_append ⟨_, e, rfl⟩ F.entry_list_append (F.args_list_append_2 _ _) (PySem.list_append l its.toArray n u (by rw [List.size_toArray]; omega)) ⟨e, ?_⟩
  refine ⟨.non, _, I.lset (its' := its ++ [u]) hH e (by simp) (r.append (.cons ru .nil)) ?_, rfl, q⟩
  rw [List.length_append, List.length_singleton]
  omega
end
section
variable {prog : Program} {w : World} {A : Around} {E : Value → Shared → Prop} {s : Shared}
end
section
variable {X : Cx}
end
end L2
namespace L2
open PySem PySem.Spec PyProof.Rows
section
variable {κ : Type} [DecidableEq κ]
noncomputable def valV (kvs : List (κ × V)) (k : κ) : Option V := (kvs.find? fun kv => decide (kv.1 = k)).map (·.2)
noncomputable def putK (kvs : List (κ × V)) (k : κ) (v : V) : List (κ × V) :=
  if (kvs.any fun kv => decide (kv.1 = k)) = true then kvs.map (fun kv => if kv.1 = k then (kv.1, v) else kv) else kvs ++ [(k, v)]
noncomputable def dropK (kvs : List (κ × V)) (k : κ) : List (κ × V) := kvs.filter fun kv => decide (kv.1 ≠ k)
theorem valV_pos {p : κ × V} {r : List (κ × V)} {k : κ} (e : p.1 = k) : valV (p :: r) k = some p.2 := by simp [valV, List.find?_cons, e]
theorem valV_neg {p : κ × V} {r : List (κ × V)} {k : κ} (e : ¬ p.1 = k) : valV (p :: r) k = valV r k := by simp [valV, List.find?_cons, e]
theorem valV_any (k : κ) : ∀ kvs : List (κ × V), (kvs.any fun kv => decide (kv.1 = k)) = (valV kvs k).isSome
  | [] => rfl
  | p :: r => by
    rw [List.any_cons]
    by_cases e : p.1 = k
    · simp only [valV_pos e, decide_eq_true e, Bool.true_or, Option.isSome_some]
    · rw [valV_neg e, decide_eq_false e, Bool.false_or]; exact valV_any k r
theorem length_putK (kvs : List (κ × V)) (k : κ) (v : V) : (putK kvs k v).length ≤ kvs.length + 1 := by
  unfold putK
  split
  · rw [List.length_map]; omega
  · rw [List.length_append, List.length_cons, List.length_nil]; omega
theorem RelO.isSome_eq {o : Option V} {u : Option Value} (r : RelO o u) : o.isSome = u.isSome := by
  cases o with
  | none => cases u with
    | none => rfl
    | some _ => exact (show False from r).elim
  | some _ => cases u with
    | none => exact (show False from r).elim
    | some _ => rfl
theorem RelO.getD {o : Option V} {u : Option Value} {d : V} {d' : Value} (r : RelO o u) (rd : RelV d d') : RelV (o.getD d) (u.getD d') := by
  cases o with
  | none => cases u with
    | none => exact rd
    | some _ => exact (show False from r).elim
  | some _ => cases u with
    | none => exact (show False from r).elim
    | some _ => exact r
theorem KV.val {kvs : List (κ × V)} {vs : List (κ × Value)} (r : KV kvs vs) (k : κ) : RelO (valV kvs k) (valueAt vs k) := by
  unfold KV at r
  induction r with
  | nil => exact True.intro
  | @cons p q ps qs h t ih =>
    obtain ⟨h1, h2⟩ := h
    by_cases e : p.1 = k
    · have e' : q.1 = k := h1.symm.trans e
      have b : valueAt (q :: qs) k = some q.2 := by simp [valueAt, List.find?_cons, e']
      rw [valV_pos e, b]; exact h2
    · have e' : ¬ q.1 = k := fun z => e (h1.trans z)
      have b : valueAt (q :: qs) k = valueAt qs k := by simp [valueAt, List.find?_cons, e']
      rw [valV_neg e, b]; exact ih
theorem KV.any {kvs : List (κ × V)} {vs : List (κ × Value)} (r : KV kvs vs) (k : κ) : (kvs.any fun kv => decide (kv.1 = k)) = vs.any fun kv => decide (kv.1 = k) := by
  unfold KV at r
  induction r with
  | nil => rfl
  | cons h t ih => rw [List.any_cons, List.any_cons, ih, h.1]
theorem KV.repl {kvs : List (κ × V)} {vs : List (κ × Value)} (r : KV kvs vs) (k : κ) {y : V} {u : Value} (ry : RelV y u) :
    KV (kvs.map fun kv => if kv.1 = k then (kv.1, y) else kv) (vs.map fun kv => if kv.1 = k then (kv.1, u) else kv) := by
  unfold KV at r ⊢
  induction r with
  | nil => exact .nil
  | @cons p q ps qs h t ih =>
    rw [List.map_cons, List.map_cons]
    refine .cons ?_ ih
    obtain ⟨h1, h2⟩ := h
    by_cases e : p.1 = k
    · rw [if_pos e, if_pos (h1.symm.trans e)]; exact ⟨h1, ry⟩
    · rw [if_neg e, if_neg (fun z => e (h1.trans z))]; exact ⟨h1, h2⟩
theorem KV.put {kvs : List (κ × V)} {vs : List (κ × Value)} (r : KV kvs vs) (k : κ) {y : V} {u : Value} (ry : RelV y u) : KV (putK kvs k y) (stored vs k u) := by
  unfold putK stored
  rw [r.any k]
  by_cases e : (vs.any fun kv => decide (kv.1 = k)) = true
  · rw [if_pos e, if_pos e]; exact r.repl k ry
  · rw [if_neg e, if_neg e]; exact Paired.snoc r ⟨rfl, ry⟩
theorem KV.drop {kvs : List (κ × V)} {vs : List (κ × Value)} (r : KV kvs vs) (k : κ) : KV (dropK kvs k) (without vs k) := by
  unfold KV at r ⊢
  unfold dropK without
  induction r with
  | nil => exact .nil
  | @cons p q ps qs h t ih =>
    obtain ⟨h1, h2⟩ := h
    rw [List.filter_cons, List.filter_cons]
    by_cases e : p.1 = k
    · have a : ¬ decide (p.1 ≠ k) = true := by simp [e]
      have b : ¬ decide (q.1 ≠ k) = true := by simp [h1.symm.trans e]
      rw [if_neg a, if_neg b]; exact ih
    · have e' : ¬ q.1 = k := fun z => e (h1.trans z)
      have a : decide (p.1 ≠ k) = true := by simp [e]
      have b : decide (q.1 ≠ k) = true := by simp [e']
      rw [if_pos a, if_pos b]; exact .cons ⟨h1, h2⟩ ih
theorem KV.length {kvs : List (κ × V)} {vs : List (κ × Value)} (r : KV kvs vs) : kvs.length = vs.length := Paired.length r
end
theorem kV_is {P : Program} {w : World} {k : Key} {u : Value} (r : RelV (kV k) u) : (mixKind P w).is k u = true := by
  cases k with
  | inl i => obtain ⟨t, e⟩ := (show ∃ t, u = Value.int i t from r); subst e; exact mixKind_int P w i t
  | inr x => obtain ⟨t, e⟩ := (show ∃ t, u = Value.str x t from r); subst e; exact mixKind_str P w x t
theorem items_are {P : Program} {w : World} : ∀ {ks : List Key} {us : List Value}, Vals (ks.map kV) us → ItemsAre (mixKind P w) ks us
  | [], _, r => by rw [List.map_nil] at r; cases r; exact .nil
  | k :: ks, _, r => by
    rw [List.map_cons] at r
    cases r with
    | cons h t => exact .cons (kV_is h) (items_are t)
noncomputable abbrev KT (H : Hp) : List (List Key × V) → List (List Key × Addr × Value) → Prop := Paired fun p q => p.1 = q.1 ∧ H q.2.1 = some (.tup (p.1.map kV)) ∧ RelV p.2 q.2.2
theorem KT.val {H : Hp} {kvs : List (List Key × V)} {xs : List (List Key × Addr × Value)} (r : KT H kvs xs) (k : List Key) : RelO (valV kvs k) ((atKey xs k).map (·.2)) := by
  induction r with
  | nil => exact True.intro
  | @cons p q ps qs h t ih =>
    obtain ⟨h1, _, h2⟩ := h
    by_cases e : p.1 = k
    · have e' : q.1 = k := h1.symm.trans e
      have b : atKey (q :: qs) k = some q.2 := by simp [atKey, List.find?_cons, e']
      rw [valV_pos e, b]; exact h2
    · have e' : ¬ q.1 = k := fun z => e (h1.trans z)
      have b : atKey (q :: qs) k = atKey qs k := by simp [atKey, List.find?_cons, e']
      rw [valV_neg e, b]; exact ih
theorem KT.repl {H : Hp} {kvs : List (List Key × V)} {xs : List (List Key × Addr × Value)} (r : KT H kvs xs) (k : List Key) {y : V} {u : Value} (ry : RelV y u) :
    KT H (kvs.map fun kv => if kv.1 = k then (kv.1, y) else kv) (xs.map (putAt k u)) := by
  induction r with
  | nil => exact .nil
  | @cons p q ps qs h t ih =>
    rw [List.map_cons, List.map_cons]
    refine .cons ?_ ih
    obtain ⟨h1, h2, h3⟩ := h
    unfold putAt
    by_cases e : p.1 = k
    · rw [if_pos e, if_pos (h1.symm.trans e)]; exact ⟨h1, h2, ry⟩
    · rw [if_neg e, if_neg (fun z => e (h1.trans z))]; exact ⟨h1, h2, h3⟩
theorem KT.put {H : Hp} {kvs : List (List Key × V)} {xs : List (List Key × Addr × Value)} (r : KT H kvs xs) (k : List Key) {b : Addr} {y : V} {u : Value} (hb : H b = some (.tup (k.map kV))) (ry : RelV y u) :
    KT H (putK kvs k y) (storedH xs k b u) := by
  have e : (kvs.any fun kv => decide (kv.1 = k)) = (atKey xs k).isSome := by
    rw [valV_any, (r.val k).isSome_eq, Option.isSome_map]
  unfold putK storedH
  rw [e]
  by_cases q : (atKey xs k).isSome = true
  · rw [if_pos q, if_pos q]; exact r.repl k ry
  · rw [if_neg q, if_neg q]; exact Paired.snoc r ⟨rfl, hb, ry⟩
theorem KT.keeps {H H' : Hp} {kvs : List (List Key × V)} {xs : List (List Key × Addr × Value)} (r : KT H kvs xs) (ht : ∀ b ys, H b = some (.tup ys) → H' b = some (.tup ys)) : KT H' kvs xs :=
  Paired.mapP r fun _ _ z => ⟨z.1, ht _ _ z.2.1, z.2.2⟩
section
variable {P : Program} {w : World} {H : Hp} {h : Heap} {a : Addr}
theorem rd_of {u : HO} (ok : HOk P w H h) (e : Rd H a u) : ObjOk P w H h a u := e.ok ok
theorem dk_rd {kvs : List (Key × V)} (ok : HOk P w H h) (e : Rd H a (.dK kvs)) : kvs.length ≤ sizeLine ∧ (a == sysModules) = false ∧ ∃ vs, KV kvs vs ∧ h.DictOf (mixKind P w) a vs :=
  show ObjOk P w H h a (.dK kvs) from rd_of ok e
theorem dk_of {kvs : List (Key × V)} (ok : HOk P w H h) (e : H a = some (.dK kvs)) : kvs.length ≤ sizeLine ∧ (a == sysModules) = false ∧ ∃ vs, KV kvs vs ∧ h.DictOf (mixKind P w) a vs := dk_rd ok (.inl e)
theorem key_of {ks : List Key} (ok : HOk P w H h) (e : H a = some (.tup (ks.map kV))) : (tupleKind (mixKind P w)).is h ks a := by
  obtain ⟨_, its, r, ⟨o, h1, h2, n, h3⟩, _⟩ := (show ObjOk P w H h a (.tup (ks.map kV)) from ok a _ e)
  exact ⟨o, its.toArray, n, h1, h2, h3, by simpa using items_are r⟩
theorem dt_rd {kvs : List (List Key × V)} (ok : HOk P w H h) (e : Rd H a (.dT kvs)) : kvs.length ≤ sizeLine ∧ (a == sysModules) = false ∧
    ∃ xs, KT H kvs xs ∧ h.DictOfH (tupleKind (mixKind P w)) a xs := by
  obtain ⟨z, y, xs, r, o, es, ep, h1, h2, h3, h4, h5⟩ := (show ObjOk P w H h a (.dT kvs) from rd_of ok e)
  refine ⟨z, y, xs, r, o, es, ep, h1, h2, h3, h4, fun x hx => ?_, h5⟩
  have all : ∀ {l : List (List Key × V)} {m : List (List Key × Addr × Value)}, KT H l m → ∀ x ∈ m, (tupleKind (mixKind P w)).is h x.1 x.2.1 := by
    intro l m q
    induction q with
    | nil => intro x hx; exact nomatch hx
    | @cons p q ps qs hq t ih =>
      intro x hx
      rcases List.mem_cons.mp hx with e | hx
      · subst e
        exact key_of ok (by rw [← hq.1]; exact hq.2.1)
      · exact ih x hx
  exact all r x hx
theorem dt_of {kvs : List (List Key × V)} (ok : HOk P w H h) (e : H a = some (.dT kvs)) : kvs.length ≤ sizeLine ∧ (a == sysModules) = false ∧
    ∃ xs, KT H kvs xs ∧ h.DictOfH (tupleKind (mixKind P w)) a xs := dt_rd ok (.inl e)
end
noncomputable def DGet (H : Hp) (a : Addr) (y : V) (r : Option V) : Prop :=
  (∃ kvs k, Rd H a (.dK kvs) ∧ y = kV k ∧ r = valV kvs k) ∨ ∃ kvs k b, Rd H a (.dT kvs) ∧ y = .ref b ∧ H b = some (.tup (k.map kV)) ∧ r = valV kvs k
noncomputable def DPut (H : Hp) (a : Addr) (y v : V) (H' : Hp) : Prop :=
  (∃ kvs k, H a = some (.dK kvs) ∧ y = kV k ∧ kvs.length < sizeLine ∧ H' = upd H a (.dK (putK kvs k v))) ∨
  ∃ kvs k b, H a = some (.dT kvs) ∧ y = .ref b ∧ H b = some (.tup (k.map kV)) ∧ kvs.length < sizeLine ∧ H' = upd H a (.dT (putK kvs k v))
theorem DGet.k {H : Hp} {a : Addr} {kvs : List (Key × V)} {k : Key} (e : H a = some (.dK kvs)) : DGet H a (kV k) (valV kvs k) := .inl ⟨kvs, k, .inl e, rfl, rfl⟩
theorem DGet.t {H : Hp} {a b : Addr} {kvs : List (List Key × V)} {k : List Key} (e : H a = some (.dT kvs)) (eb : H b = some (.tup (k.map kV))) : DGet H a (.ref b) (valV kvs k) := .inr ⟨kvs, k, b, .inl e, rfl, eb, rfl⟩
theorem DPut.k {H : Hp} {a : Addr} {kvs : List (Key × V)} {k : Key} {v : V} (e : H a = some (.dK kvs)) (hl : kvs.length < sizeLine) : DPut H a (kV k) v (upd H a (.dK (putK kvs k v))) := .inl ⟨kvs, k, e, rfl, hl, rfl⟩
theorem DPut.t {H : Hp} {a b : Addr} {kvs : List (List Key × V)} {k : List Key} {v : V} (e : H a = some (.dT kvs)) (eb : H b = some (.tup (k.map kV))) (hl : kvs.length < sizeLine) :
    DPut H a (.ref b) v (upd H a (.dT (putK kvs k v))) := .inr ⟨kvs, k, b, e, rfl, eb, hl, rfl⟩
section
variable {X : Cx} {pins : List (Addr × Obj)} {σ : St} {H : Hp} {s : Shared} {a : Addr} {y v : V} {u r : Value} {o : Option V} {A : Around} {E : Value → Shared → Prop}
theorem d_getItem {Q : Value → Shared → Prop} (hu : A.units + 1 < cLine) (I : Inv X pins σ H s) (g : DGet H a y (some v)) (ry : RelV y u) (h : ∀ w' s', Inv X pins σ H s' → RelV v w' → Q w' s') :
    wpAny (model X.prog X.w) A (getItem (.ref a) u) Q E s := by
  rcases g with ⟨kvs, k, e, ey, l⟩ | ⟨kvs, k, b, e, ey, eb, l⟩
  · subst ey
    obtain ⟨z, hd, vs, rel, dd⟩ := dk_rd I.hok e
    obtain ⟨w', hw, rw'⟩ := RelO.some_of (v := v) (o := valueAt vs k) (by rw [l]; exact rel.val k)
    exact wpAny_getItem_of (kV_is ry) dd.mapOf hw (h w' _ (I.tok _) rw')
  · subst ey
    cases (show u = Value.ref b from ry)
    obtain ⟨z, hd, xs, rel, dd⟩ := dt_rd I.hok e
    obtain ⟨w', hw, rw'⟩ := RelO.some_of (v := v) (o := (atKey xs k).map (·.2)) (by rw [l]; exact rel.val k)
    obtain ⟨p, hp, hp2⟩ := Option.map_eq_some_iff.mp hw
    refine wpAny_getItem_heap (tupleKind_room_in1 hu) (key_of I.hok eb) dd hp ?_
    rw [hp2]
    exact h w' _ (I.tok _) rw'
theorem d_write {h' : Heap} {t' : Nat} {ob : HO} (I : Inv X pins σ H s) (mu : Mut (H a)) (hs : Heap.SameBut a s.heap h') (he : ∃ q, h'.get? a = some q) (new : ObjOk X.prog X.w (upd H a ob) h' a ob) :
    Inv X pins σ (upd H a ob) { s with heap := h', toks := t' } :=
  I.write (x := a) (e := a) mu (.inl rfl) (fun b q hb z => (hs.2 b hb).trans z) he new
theorem dk_new {P : Program} {w : World} {H' : Hp} {h' : Heap} {kvs : List (Key × V)} {vs : List (Key × Value)} (z : kvs.length ≤ sizeLine) (hd : (a == sysModules) = false) (rel : KV kvs vs) (dd : h'.DictOf (mixKind P w) a vs) :
    ObjOk P w H' h' a (.dK kvs) := ⟨z, hd, vs, rel, dd⟩
theorem d_setItem {H' : Hp} {Q : Unit → Shared → Prop} (hu : A.units + 1 < cLine) (I : Inv X pins σ H s) (g : DPut H a y v H') (ry : RelV y u) (rv : RelV v r) (h : ∀ s', Inv X pins σ H' s' → Q () s') :
    wpAny (model X.prog X.w) A (setItem (.ref a) u r) Q E s := by
  rcases g with ⟨kvs, k, e, ey, l, eH⟩ | ⟨kvs, k, b, e, ey, eb, l, eH⟩
  · subst ey eH
    obtain ⟨z, hd, vs, rel, dd⟩ := dk_of I.hok e
    have hz : vs.length ≤ sizeLine := by rw [← rel.length]; exact z
    have hl : (putK kvs k v).length ≤ sizeLine := by have := length_putK kvs k v; omega
    refine wpAny_setItem_pairs (hsz := hz) (kV_is ry) dd fun h' dd' hs => h _ ?_
    have he : ∃ q, h'.get? a = some q := let ⟨q, _, _, hq, _⟩ := dd'; ⟨q, hq⟩
    exact d_write I (by rw [e]; exact True.intro) hs he (dk_new hl hd (rel.put k rv) dd')
  · subst ey eH
    cases (show u = Value.ref b from ry)
    obtain ⟨z, hd, xs, rel, dd⟩ := dt_of I.hok e
    have hz : xs.length ≤ sizeLine := by rw [← Paired.length rel]; exact z
    have hl : (putK kvs k v).length ≤ sizeLine := by have := length_putK kvs k v; omega
    refine wpAny_setItem_heap (hsz := hz) (tupleKind_room_in1 hu) (key_of I.hok eb) dd fun h' dd' hs => h _ ?_
    obtain ⟨q, es, ep, hq, h2, h3, h4, _, h5⟩ := dd'
    refine d_write I (by rw [e]; exact True.intro) hs ⟨q, hq⟩ ⟨hl, hd, _, (rel.put k eb rv).keeps fun c ys ec => ?_, q, es, ep, hq, h2, h3, h4, h5⟩
    rw [upd_ne (ne_of ec e (fun z => nomatch z))]
    exact ec
end
section
variable {X : Cx} {pins : List (Addr × Obj)} {σ : St} {H : Hp} {s : Shared} {a : Addr} {kvs : List (Key × V)} {k : Key} {u : Value} {A : Around} {E : Value → Shared → Prop}
theorem d_len {Q : Value → Shared → Prop} (I : Inv X pins σ H s) (e : Rd H a (.dK kvs)) (h : ∀ t s', Inv X pins σ H s' → Q (.int kvs.length t) s') : wpAny (model X.prog X.w) A (call (.builtin "len") [.ref a]) Q E s := by
  obtain ⟨z, hd, vs, rel, dd⟩ := dk_rd I.hok e
  refine call_len_dict hd dd (by rw [← rel.length]; rw [sizeLine_eq] at z; omega) ?_
  rw [← rel.length]
  exact h _ _ (I.tok _)
end
theorem dict_typeIs {X : Cx} {pins : List (Addr × Obj)} {σ : St} {H : Hp} {s : Shared} {a : Addr} {y : V} {o : Option V} (I : Inv X pins σ H s) (g : DGet H a y o) : s.TypeIs (.ref a) "dict" := by
  rcases g with ⟨kvs, k, e, _, _⟩ | ⟨kvs, k, b, e, _, _, _⟩
  · obtain ⟨_, _, vs, _, dd⟩ := dk_rd I.hok e
    exact dd.typeIs
  · obtain ⟨_, _, xs, _, dd⟩ := dt_rd I.hok e
    exact dd.typeIs
section
variable {X : Cx} {o i e value : Expr} {pos pos' tpos : Pos} {td ty tv : TE}
end
section
variable {X : Cx} {pos : Pos}
end
structure M1 (X : Cx) (o : Expr) (m : Str) (apos : Pos) (e : Expr) (cpos : Pos) : Prop where
  base : attributeBase o m X.env (eval o X.env) = eval o X.env
  few : ((backTo cpos (starEach [e] X.env)).all (fun x => !x.1) && (backToKw cpos (keywordEach [] X.env)).all (fun x => x.1.isSome)
    && decide (([e] : List Expr).length + ([] : List Keyword).length + (if ([] : List Keyword).isEmpty then 0 else 1) < 30)) = true
  line : (apos.endLine == cpos.line) = true
  trees : backTo cpos (starEach [e] X.env) = [(false, eval e X.env)]
structure M2 (X : Cx) (o : Expr) (m : Str) (apos : Pos) (e f : Expr) (cpos : Pos) : Prop where
  base : attributeBase o m X.env (eval o X.env) = eval o X.env
  few : ((backTo cpos (starEach [e, f] X.env)).all (fun x => !x.1) && (backToKw cpos (keywordEach [] X.env)).all (fun x => x.1.isSome)
    && decide (([e, f] : List Expr).length + ([] : List Keyword).length + (if ([] : List Keyword).isEmpty then 0 else 1) < 30)) = true
  line : (apos.endLine == cpos.line) = true
  trees : backTo cpos (starEach [e, f] X.env) = [(false, eval e X.env), (false, eval f X.env)]
section
variable {X : Cx} {pins : List (Addr × Obj)} {σ : St} {H : Hp} {s : Shared} {a : Addr} {y d : V} {u r : Value} {o : Option V} {A : Around} {E : Value → Shared → Prop}
end
section
variable {X : Cx} {o e f : Expr} {apos cpos : Pos} {td ty tx : TE}
end
section
variable {X : Cx} {pins : List (Addr × Obj)} {σ : St} {H : Hp} {s : Shared} {a : Addr} {kvs : List (Key × V)} {A : Around} {E : Value → Shared → Prop}
end
section
variable {X : Cx} {pins : List (Addr × Obj)} {σ : St} {H : Hp} {s : Shared} {a : Addr} {y : V} {u : Value} {A : Around} {E : Value → Shared → Prop}
end
end L2
namespace Att
open PySem PySem.W PySem.Calls PyProof.Rows
theorem ints_of_wellAll {P : Params} {h : Heap} : ∀ (ns : List Int) (vs : List Value), WellAll P h vs (ns.map WData.int) → IntsAre vs ns := by
  intro ns
  induction ns with
  | nil =>
    intro vs w
    rw [List.map_nil] at w
    cases w
    exact .nil
  | cons n ns ih =>
    intro vs w
    rw [List.map_cons] at w
    cases w with
    | cons a b =>
      cases a
      exact .cons _ _ (ih _ b)
theorem script_of {l : OpenLaw} {n : Nat} (hn : l.most = some n) {P : Params} {h : Heap} {args : List WData} {vals : List Value}
    (hpre : l.row.toRowW.claim.pre args = true) (hwl : WellAll P h vals args) :
    ∃ a vs ns, vals = [Value.ref a] ∧ args = [WData.list (ns.map WData.int)] ∧ h.get? a = some { cls := .type "list", data := .seq vs.toArray } ∧ IntsAre vs ns ∧ ns.length ≤ n := by
  have hsh : WShape.hasAll [] args [.list .int] = true := (pre_splitW hpre).1
  have hc : l.pre.holds [] { args := args } = true := (pre_splitW hpre).2
  obtain ⟨d, r, rfl, h1, h2⟩ := hasAllW_cons hsh
  obtain rfl := hasAllW_nil h2
  obtain ⟨xs, rfl, h3⟩ := hasW_list h1
  obtain ⟨ns, rfl⟩ := items_int h3
  have hlen : ns.length ≤ n := by
    unfold OpenLaw.pre at hc
    have h4 : (WTm.not (.lt (.lit (.int (n : Int))) (.len (.arg 0)))).holds [] { args := [.list (ns.map .int)] } = true := by
      have h4 := (holds_andW hc).1
      rw [hn] at h4
      exact h4
    have h5 := condW_of h4 (w_not (w_lt w_lit (w_len_list (w_arg rfl))))
    rw [List.length_map] at h5
    refine Nat.le_of_not_lt fun q => ?_
    have q' : (n : Int) < ((ns.length : Nat) : Int) := by omega
    first
      | (rw [decide_eq_true q'] at h5; exact absurd h5 (by decide))
      | (simp at h5; omega)
  cases hwl with
  | cons w1 w2 =>
    cases w2
    cases w1 with
    | list ho hall => exact ⟨_, _, ns, rfl, rfl, ho, ints_of_wellAll ns _ hall, hlen⟩
theorem post_true (l : OpenLaw) (args : List WData) : l.row.toRowW.claim.post args (.bool true) args = true :=
  postW_of (r := l.row.toRowW) (X := (true == true))
    (show WShape.has [] (.bool true) .bool = true by first | rfl | decide | simp [WShape.has, WShape.arms, WShape.armsAll])
    (show (WTm.eq .res (.lit (.bool true))).value [] { args := args, res := some (.bool true), after := args } = some (.bool (true == true)) from w_eq_bool (w_res rfl) w_lit) rfl
theorem attach_call {l : OpenLaw} {n : Nat} {q : Program} {loose : List Str} {XP : (Str → Option Value) → Heap → Prop} {YP : World → Heap → Prop} {d : DefRec}
    (hn : l.most = some n) (hdf : d.params.defaults = [])
    (call : ∀ (w : World) (s₀ s₁ : Shared) (mg mb : Str → Option Value) (fa : Addr) (o : Obj) (pm cd doc : Value) (a : Addr) (vs : List Value) (ns : List Int),
      Ground q loose [] XP w s₀ mg mb s₁.heap → YP w s₁.heap →
      s₁.heap.get? fa = some o → o.data = .func (docDef d.name d.params d.body d.scope pm cd doc) → s₁.heap.CodeRec cd d.name → mg d.name = some (.ref fa) →
      s₁.heap.get? a = some { cls := .type "list", data := .seq vs.toArray } → IntsAre vs ns → ns.length ≤ n → s₁.gens = #[] →
      codeAny (model l.prog w) callerA (.call (.ref fa) ⟨[.ref a], []⟩) (fun r s' => r = .ok (.ret (.bool true)) ∧ OldK s₁.heap s'.heap ∧ s'.os = s₁.os ∧ AllBare s'.gens) s₁) :
    WalkO q loose XP YP l.row.toRowW d [] (fun f vs => PySem.call f vs) := by
  intro w s₀ s₁ mg mb G Y fa o pm cd doc dV kV ho hd hcd hD hmg hg args vals as hpre hlay hrd hwl hlo
  obtain rfl : dV = .none := Dflts.none hD hdf
  obtain rfl : kV = .none := Dflts.noKw hD
  obtain ⟨a, vs, ns, rfl, rfl, hobj, hints, hlen⟩ := script_of hn hpre hwl
  refine enter_call (codeAny_mono (call w s₀ s₁ mg mb fa o pm cd doc a vs ns G Y ho (fd_plain hd) hcd hmg hobj hints hlen hg) fun r s' hq => ?_)
  obtain ⟨rfl, h2, h3, h4⟩ := hq
  exact ⟨.inl ⟨.bool true, .bool true, [], rfl, fun _ => rfl, .bool true, post_true l _, fun _ => ⟨List.Pairwise.nil, fun _ hm => (nomatch hm)⟩⟩, h2, h3, h4⟩
section
variable {prog : Program} {w : World} {A : Around} {E : Value → Shared → Prop} {s : Shared} {K : Frag}
end
end Att
namespace L2
open PySem PySem.Spec PyProof.Rows
theorem vals_ints : ∀ {vs : List Value} {ns : List Int}, IntsAre vs ns → Vals (ns.map V.int) vs
  | _, _, .nil => .nil
  | _, _, .cons n t h => .cons ⟨t, rfl⟩ (vals_ints h)
noncomputable def Only (H : Hp) : Prop := ∀ b, H b = none ∨ ∃ o xs, H b = some (.frz o (.lst xs))
theorem law_call {P : Program} {w : World} {K : PySem.W.Frag} {mg mb : Str → Option Value} {CX : CXT} {k : Nat} {fa a : Addr} {fd : FuncData} {x : Str} {sp : Sp} {s₁ : Shared} {vs : List Value} {ns : List Int}
    (KX : K.In s₁.heap) (hns : s₁.heap.Ns mainGlobals mg) (hb : s₁.heap.Ns builtinsNs mb) (hbb : ∀ x : Str, x ≠ "__name__" → mb x = bootBuiltins x) (hlim : s₁.heap.NoLimit) (hg : s₁.gens = #[])
    (ha : s₁.heap.get? a = some { cls := .type "list", data := .seq vs.toArray }) (hi : IntsAre vs ns) (hl : ns.length ≤ sizeLine) (hr : Room k callerA)
    (F : ∀ base : Heap, K.In base → base.Ns mainGlobals mg → FnOk P w K mg base CX k fa fd [x] sp) (hbind : ∀ (s : Shared) (u : Value), BindsTo s fd ⟨[u], []⟩ [(x, u)])
    (hsp : ∀ H : Hp, Only H → SqL K H a (ns.map V.int) → sp [.ref a] H (fun v _ => v = .bl true) fun _ _ _ => False)
    (hCX : ∀ H e s', CX [] H s₁ (fun _ _ _ => False) e s' → False) :
    codeAny (model P w) callerA (.call (.ref fa) ⟨[.ref a], []⟩) (fun r s' => r = .ok (.ret (.bool true)) ∧ OldK s₁.heap s'.heap ∧ s'.os = s₁.os ∧ AllBare s'.gens) s₁ := by
  have rv := vals_ints hi
  have lenV := hi.length
  have core : ∀ H : Hp, Only H → SqL K H a (ns.map V.int) → HOk P w H s₁.heap → (∀ b, H b ≠ none → b = a) → (H a ≠ none → K.lookup a = none) →
      codeAny (model P w) callerA (.call (.ref fa) ⟨[.ref a], []⟩) (fun r s' => r = .ok (.ret (.bool true)) ∧ OldK s₁.heap s'.heap ∧ s'.os = s₁.os ∧ AllBare s'.gens) s₁ := by
    intro H hO hS hok hA hK
    have base_of : ∀ {b : Addr} {o : Obj}, s₁.heap.get? b = some o → H b = none → (hidT s₁.heap H).get? b = some o := fun e n => hidT_get e n
    have noA : ∀ {b : Addr} {o : Obj} {es : Array DictEntry} {ep : Nat}, s₁.heap.get? b = some o → o.data = .dict es ep → H b = none := fun {b o es ep} e d => by
      cases q : H b with
      | none => rfl
      | some u =>
        have e' : b = a := hA b (by rw [q]; simp)
        subst e'
        rw [ha] at e; cases e
        have d' : Data.seq vs.toArray _ = Data.dict es ep := d
        cases d'
    have nsK : ∀ {b : Addr} {m : Str → Option Value}, s₁.heap.Ns b m → (hidT s₁.heap H).Ns b m := fun {b m} ⟨o, es, ep, e, d, r⟩ => ⟨o, es, ep, base_of e (noA e d), d, r⟩
    have hKb : K.In (hidT s₁.heap H) := fun b o e => base_of (KX b o e) (by
      cases q : H b with
      | none => rfl
      | some u =>
        have e' : b = a := hA b (by rw [q]; simp)
        subst e'
        rw [hK (by rw [q]; simp)] at e; cases e)
    have hM : Mod K mg (hidT s₁.heap H) := ⟨hKb, nsK hns, ⟨mb, nsK hb, hbb⟩, let ⟨mc, h1, h2⟩ := hlim; ⟨mc, nsK h1, h2⟩⟩
    have e0 : Env0 P w K mg (hidT s₁.heap H) callerA [] s₁ H := ⟨rfl, hM, fun b o e => of_hidT e, Nat.le_of_eq (hidT_size _ _), trivial, fun b hb => absurd (show b ∈ ([] : List Addr) from hb) (by simp), hok, .of_eq hg⟩
    refine codeAny_mono ((F _ hKb (nsK hns)).run callerA [] s₁ H ⟨[.ref a], []⟩ [.ref a] [.ref a] _ _ hr e0 (hbind s₁ (.ref a)) (.cons rfl .nil) (hsp H hO hS)) fun r s' h => ?_
    cases r with
    | error e => exact (hCX H e s' h).elim
    | ok fl =>
      cases fl with
      | next => exact False.elim h
      | brk => exact False.elim h
      | cont => exact False.elim h
      | ret u =>
        obtain ⟨v, H', os, bare, un, hok', r', q⟩ := h
        have q' : v = .bl true := q
        subst q'
        obtain rfl : u = Value.bool true := r'
        refine ⟨rfl, OldK.of_keep fun b o e => ?_, os, bare⟩
        cases q : H b with
        | none => exact un.keep b o e q (by intro z; exact absurd (show b ∈ ([] : List Addr) from z) (by simp)) (by simp)
        | some u =>
          rcases hO b with z | ⟨ob, xs, z⟩
          · rw [q] at z; cases z
          · have z2 := un.frzs b ob _ z
            obtain ⟨e1, _⟩ := hok b _ z
            obtain ⟨e2, _⟩ := hok' b _ z2
            rw [e] at e1; cases e1
            exact e2
  cases hk : K.lookup a with
  | some o =>
    have e := KX a o hk
    rw [ha] at e
    cases e
    refine core (fun _ => none) (fun _ => .inl rfl) (.inr ⟨_, vs.toArray, _, hk, rfl, rfl, rfl, by rw [List.size_toArray, lenV]; exact hl, by simpa using rv⟩) (fun b u z => by have z' : (none : Option HO) = some u := z; cases z') (fun b z => absurd rfl z) fun z => absurd rfl z
  | none =>
    refine core (fun b => if b = a then some (.frz { cls := .type "list", data := .seq vs.toArray } (.lst (ns.map V.int))) else none) (fun b => ?_) (.inl (.inr ⟨{ cls := .type "list", data := .seq vs.toArray }, if_pos rfl⟩)) (fun b u z => ?_) (fun b z => ?_) fun _ => hk
    · by_cases hb : b = a
      · exact .inr ⟨_, _, if_pos hb⟩
      · exact .inl (if_neg hb)
    · by_cases hb : b = a
      · have z' := (if_pos hb).symm.trans z
        cases z'
        subst hb
        exact ⟨ha, by rw [List.length_map]; exact hl, vs, _, rv, ha⟩
      · have z' := (if_neg hb).symm.trans z
        cases z'
    · by_cases hb : b = a
      · exact hb
      · exact absurd (if_neg hb) z
end L2
namespace L2
open PySem PySem.Spec PyProof.Rows
noncomputable abbrev KOf {K : PySem.W.Frag} {h : Heap} (_ : K.In h) : PySem.W.Frag := K
theorem walk_of {l : PySem.W.OpenLaw} {n k : Nat} {q : Program} {loose : List Str} {XP : (Str → Option Value) → Heap → Prop} {YP : World → Heap → Prop} {d : DefRec} {K : Params → PySem.W.Frag} {CX : World → CXT} {sp : World → Sp} {x : Str}
    (hn : l.most = some n) (hn2 : n ≤ sizeLine) (hdf : d.params.defaults = []) (hr : Room k callerA)
    (hY : ∀ (w : World) (h : Heap), YP w h → (K w.params).In h)
    (F : ∀ (w : World) (mg : Str → Option Value) (fa : Addr) (h : Heap), (K w.params).In h → h.Ns mainGlobals mg → mg d.name = some (.ref fa) →
      ∃ fd : FuncData, (∀ (s : Shared) (u : Value), BindsTo s fd ⟨[u], []⟩ [(x, u)]) ∧
        ∀ base : Heap, (K w.params).In base → base.Ns mainGlobals mg → FnOk l.prog w (K w.params) mg base (CX w) k fa fd [x] (sp w))
    (hsp : ∀ (w : World) (H : Hp) (a : Addr) (ns : List Int), ns.length ≤ n → Only H → SqL (K w.params) H a (ns.map V.int) → sp w [.ref a] H (fun v _ => v = .bl true) fun _ _ _ => False)
    (hCX : ∀ (w : World) (H : Hp) (s : Shared) (e : Value) (s' : Shared), CX w [] H s (fun _ _ _ => False) e s' → False) :
    PySem.W.WalkO q loose XP YP l.row.toRowW d [] (fun f vs => PySem.call f vs) := by
  refine Att.attach_call hn hdf fun w s₀ s₁ mg mb fa o pm cd doc a vs ns G Y ho hd hcd hmg hobj hints hlen hg => ?_
  have KX := hY w _ Y
  obtain ⟨fd, hb, hF⟩ := F w mg fa _ KX G.T.g hmg
  exact law_call KX G.T.g G.T.b G.T.builtins G.T.nolimit hg hobj hints (Nat.le_trans hlen hn2) hr hF hb (fun H hO hS => hsp w H a ns hlen hO hS) fun H e s' => hCX w H s₁ e s'
end L2
namespace L2
open PySem PySem.Spec PyProof.Rows
noncomputable def defArgs (s : Stmt) : Arguments := match s with
  | .FunctionDef _ a _ _ _ _ _ _ _ _ => a
  | _ => { posonlyargs := [], args := [], vararg := none, kwonlyargs := [], kw_defaults := [], kwarg := none, defaults := [] }
noncomputable def defBody (s : Stmt) : List Stmt := match s with
  | .FunctionDef _ _ b _ _ _ _ _ _ _ => b
  | _ => []
noncomputable def defScope (s : Stmt) : Scope := match s with
  | .FunctionDef _ _ _ _ _ _ sc _ _ _ => sc
  | _ => { kind := .function, names := [], isGenerator := false, isCoroutine := false }
noncomputable abbrev CX0 : CXT := fun _ _ _ _ _ _ => False
noncomputable abbrev E0 : XK := fun _ _ _ => False
theorem pass0 {X : Cx} : Passes CX0 X E0 := fun _ _ _ _ _ _ _ h => h.elim
structure Fun (K : PySem.W.Frag) (x qual : Str) (st : Stmt) (f : Addr) (fd : FuncData) : Prop where
  ex : ∃ (oc : Value) (od : Option Addr) (kV doc pm : Value) (an : Option Addr) (cdv ct : Value) (osl : Array (Option Value)),
    fd = PySem.W.fnOf x qual (defArgs st) (defBody st) (defScope st) .none kV doc pm an cdv ct ∧ K.lookup f = some ⟨oc, od, .func fd, osl⟩ ∧ PySem.W.codeIn K cdv qual = true
  kp : PySem.W.keepIn K (.ref f) = true
section
variable {P : Program} {w : World} {K : PySem.W.Frag} {mg : Str → Option Value} {base : Heap}
theorem Fun.ok {x qual : Str} {st : Stmt} {f : Addr} {fd : FuncData} {N ps : List Str} {k : Nat} {sp : Sp} (F : Fun K x qual st f fd) (S : FnScope N ps (defScope st)) (len : ∀ vs H Q E, sp vs H Q E → vs.length = ps.length)
    (hbody : ∀ (cdv : Value) (A : Around) (outer : List Env) (s : Shared) (H : Hp) (vs : List V) (Q : VK) (E : XK), Room k (A.deeper (envOfC qual (defScope st) s.heap.objs.size f cdv)) → sp vs H Q E →
      ∃ t, PSs (cxOf CX0 P w K mg base N qual (defScope st) f cdv A outer s H E).nox (defBody st) t ∧ t { nx := fun _ H' => Q .non H', rt := Q } (start N vs) H) : FnOk P w K mg base CX0 (k + 1) f fd ps sp := by
  obtain ⟨oc, od, kV, doc, pm, an, cdv, ct, osl, rfl, lk, hcd⟩ := F.ex
  refine fn_of lk hcd S len fun A outer s H vs Q E hr hsp => ?_
  obtain ⟨t, h, q⟩ := hbody cdv A outer s H vs Q E hr hsp
  exact ⟨t, h.nox, q⟩
theorem Fun.binds {x qual : Str} {st : Stmt} {f : Addr} {fd : FuncData} {ps : List Str} (F : Fun K x qual st f fd)
    (h : ∀ (kV doc pm : Value) (an : Option Addr) (cdv ct : Value) (us : List Value), us.length = ps.length → bindArgs (PySem.W.fnOf x qual (defArgs st) (defBody st) (defScope st) .none kV doc pm an cdv ct) ⟨us, []⟩ = pure (ps.zip us)) : Binds K fd ps [] := by
  obtain ⟨oc, od, kV, doc, pm, an, cdv, ct, osl, rfl, lk, hcd⟩ := F.ex
  exact .all (h kV doc pm an cdv ct)
theorem fun_mk {x qual : Str} {st : Stmt} {f : Addr} {oc : Value} {od an : Option Addr} {osl : Array (Option Value)} {kV doc pm cdv ct : Value} (l : K.lookup f = some ⟨oc, od, .func (PySem.W.fnOf x qual (defArgs st) (defBody st) (defScope st) .none kV doc pm an cdv ct), osl⟩)
    (c : PySem.W.codeIn K cdv qual = true) (k : PySem.W.keepIn K (.ref f) = true) : Fun K x qual st f (PySem.W.fnOf x qual (defArgs st) (defBody st) (defScope st) .none kV doc pm an cdv ct) := ⟨⟨oc, od, kV, doc, pm, an, cdv, ct, osl, rfl, l, c⟩, k⟩
end
theorem hu_of {A : Around} {k : Nat} (hr : Room k A) : A.units + 1 < cLine := Nat.lt_of_le_of_lt (Nat.add_le_add_left (by decide : 1 ≤ 64) _) hr.units
section
variable {X : Cx}
theorem call_lenD : CallR X (.builtin "len") (fun xs H Q => ∃ a kvs, xs = [V.ref a] ∧ Rd H a (.dK kvs) ∧ Q (.int kvs.length) H) := by
  intro pins s σ H xs us Q I r h
  obtain ⟨a, kvs, rfl, ha, q⟩ := h
  obtain ⟨u, rfl, ru⟩ := vals1 r
  cases ru
  exact d_len I ha fun t s' I' => ⟨.int kvs.length, H, I', ⟨t, rfl⟩, q⟩
end
noncomputable def Same (H H' : Hp) : Prop := ∀ b o, H b = some o → H' b = some o
theorem Same.refl (H : Hp) : Same H H := fun _ _ h => h
theorem Same.trans {H H1 H2 : Hp} (a : Same H H1) (b : Same H1 H2) : Same H H2 := fun c o h => b c o (a c o h)
theorem Same.free {H H' : Hp} (e : Same H H') {l : Addr} (h : H' l = Option.none) : H l = Option.none := by
  cases q : H l with
  | none => rfl
  | some o =>
    rw [e l o q] at h
    cases h
theorem Same.seq {K : PySem.W.Frag} {H H' : Hp} {a : Addr} {xs : List V} (e : Same H H') (h : SqL K H a xs) : SqL K H' a xs := by
  rcases h with (h | ⟨o, h⟩) | h
  · exact .inl (.inl (e _ _ h))
  · exact .inl (.inr ⟨o, e _ _ h⟩)
  · exact .inr h
section
variable {κ : Type} [DecidableEq κ]
end
end L2
end
section
set_option Elab.async false
set_option linter.all false
set_option maxRecDepth 100000
namespace DL
open PySem
open PySem.SeqAt
open PySem.AutoSeq1 (wpAny_loadPart')
open PySem.MeetsSeq PySem.MeetsSeq2 PySem.MeetsSeq3
end DL
end
section
set_option Elab.async false
set_option linter.all false
set_option maxRecDepth 100000
namespace DL
open PySem PyProof.Rows
section
variable {prog : Program} {w : World} {A : Around} {E : Value → Shared → Prop} {s : Shared}
end
end DL
end
section
set_option Elab.async false
set_option linter.all false
set_option maxRecDepth 100000
namespace DL
open PySem PyProof.Rows PySem.W
noncomputable def kasRun {α : Type} (c : Nat → Nat → Bool) : KasT α → α
  | .ret a => a
  | .ask i j k => kasRun c (k (c i j))
inductive Asks (n : Nat) {α : Type} (P : α → Prop) : KasT α → Prop where
  | ret {a : α} : P a → Asks n P (.ret a)
  | ask {i j : Nat} {k : Bool → KasT α} : i < n → j < n → (∀ b, Asks n P (k b)) → Asks n P (.ask i j k)
theorem Asks.bind {n : Nat} {α β : Type} {P : α → Prop} {P' : β → Prop} {t : KasT α} {f : α → KasT β} (h : Asks n P t) (hf : ∀ a, P a → Asks n P' (f a)) : Asks n P' (t.bind f) := by
  induction h with
  | ret h => exact hf _ h
  | ask h1 h2 _ ih => exact .ask h1 h2 ih
theorem Asks.run {n : Nat} {α : Type} {P : α → Prop} {t : KasT α} (h : Asks n P t) (c : Nat → Nat → Bool) : P (kasRun c t) := by
  induction h with
  | ret h => exact h
  | ask _ _ _ ih => exact ih _
theorem Asks.mono {n : Nat} {α : Type} {P P' : α → Prop} {t : KasT α} (h : Asks n P t) (hp : ∀ a, P a → P' a) : Asks n P' t := by
  induction h with
  | ret h => exact .ret (hp _ h)
  | ask h1 h2 _ ih => exact .ask h1 h2 ih
noncomputable def PermR (n : Nat) (p : Array Nat) : Prop := p.toList.Perm (List.range n)
theorem PermR.bd {n : Nat} {p : Array Nat} (h : PermR n p) (hn : 0 < n) (k : Nat) : p.getD k 0 < n := by
  by_cases hk : k < p.size
  · have e : p.getD k 0 = p[k] := by simp [Array.getD, hk]
    rw [e]
    exact List.mem_range.mp (h.mem_iff.mp (by simp))
  · have e : p.getD k 0 = 0 := by simp [Array.getD, hk]
    rw [e]; exact hn
theorem PermR.rev {n : Nat} {p : Array Nat} (h : PermR n p) (i j : Nat) : PermR n (kas_rev p i j) := (Array.perm_iff_toList_perm.mp (mirror_perm p i j ((j - i) / 2))).trans h
section
variable {n : Nat} (hn : 0 < n)
include hn
end
end DL
end
section
set_option Elab.async false
set_option linter.all false
set_option maxRecDepth 100000
set_option maxHeartbeats 1000000
namespace DL
open PySem PyProof.Rows PySem.W PySem.Calls
section
variable {prog : Program} {w : World} {A : Around} {E : Value → Shared → Prop} {s : Shared}
end
end DL
end
section
set_option Elab.async false
set_option linter.all false
set_option maxRecDepth 100000
namespace DL
open PySem PySem.Spec PyProof.Rows L2
inductive D where
  | non | bl (b : Bool) | int (i : Int) | str (x : Str)
  | tup (ds : List D) | lst (ds : List D)
  | dic (kvs : List (Key × D))
  | obj (c : Nat) (fs : List (Str × D))
instance : Inhabited D := ⟨.non⟩
inductive Res (α : Type) where
  | ok (a : α) | exc (x : D) | stuck
noncomputable def Res.bind {α β : Type} (r : Res α) (f : α → Res β) : Res β := match r with
  | .ok a => f a
  | .exc x => .exc x
  | .stuck => .stuck
@[simp] theorem bind_ok {α β : Type} (a : α) (f : α → Res β) : (Res.ok a).bind f = f a := rfl
@[simp] theorem bind_exc {α β : Type} (x : D) (f : α → Res β) : (Res.exc x : Res α).bind f = .exc x := rfl
@[simp] theorem bind_stuck {α β : Type} (f : α → Res β) : (Res.stuck : Res α).bind f = .stuck := rfl
noncomputable def fin {α : Type} (r : Res α) (q : α → Prop) (x : D → Prop) : Prop := match r with
  | .ok a => q a
  | .exc e => x e
  | .stuck => False
theorem fin_mono {α : Type} {r : Res α} {q q' : α → Prop} {x : D → Prop} (h : fin r q x) (hq : ∀ a, q a → q' a) : fin r q' x := by
  cases r with
  | ok a => exact hq a h
  | exc e => exact h
  | stuck => exact h
theorem fin_bind {α β : Type} {r : Res α} {f : α → Res β} {q : β → Prop} {x : D → Prop} (h : fin (r.bind f) q x) : fin r (fun a => fin (f a) q x) x := by
  cases r with
  | ok a => exact h
  | exc e => exact h
  | stuck => exact h
noncomputable abbrev GH := Addr → Option D
inductive Scl : V → D → Prop where
  | non : Scl .non .non
  | bl (b : Bool) : Scl (.bl b) (.bl b)
  | int (i : Int) : Scl (.int i) (.int i)
  | str (x : Str) : Scl (.str x) (.str x)
inductive KC (K : PySem.W.Frag) (a : Addr) : D → Prop where
  | lst {xs : List V} {ds : List D} : SqL K (fun _ => none) a xs → Paired Scl xs ds → KC K a (.lst ds)
  | tup {xs : List V} {ds : List D} : SqT K (fun _ => none) a xs → Paired Scl xs ds → (∃ o, K.lookup a = some o ∧ o.cls = .type "tuple" ∧ o.dict = none) → KC K a (.tup ds)
inductive RG (K : PySem.W.Frag) (G : GH) : V → D → Prop where
  | scl {v : V} {d : D} : Scl v d → RG K G v d
  | ref {a : Addr} {d : D} : G a = some d → RG K G (.ref a) d
  | kc {a : Addr} {d : D} : KC K a d → RG K G (.ref a) d
noncomputable abbrev RGs (K : PySem.W.Frag) (G : GH) : List V → List D → Prop := Paired (RG K G)
noncomputable abbrev RKs (K : PySem.W.Frag) (G : GH) : List (Key × V) → List (Key × D) → Prop := Paired fun p q => p.1 = q.1 ∧ RG K G p.2 q.2
inductive OB (K : PySem.W.Frag) (G : GH) (H : Hp) (a : Addr) : D → Prop where
  | lst {xs : List V} {ds : List D} : Rd H a (.lst xs) → RGs K G xs ds → OB K G H a (.lst ds)
  | tup {xs : List V} {ds : List D} : Rd H a (.tup xs) → RGs K G xs ds → OB K G H a (.tup ds)
  | dic {ob : Obj} {ps : List (Key × V)} {kvs : List (Key × D)} : H a = some (.frz ob (.dK ps)) → RKs K G ps kvs → OB K G H a (.dic kvs)
noncomputable def GOk (K : PySem.W.Frag) (G : GH) (H : Hp) : Prop := ∀ a d, G a = some d → OB K G H a d
inductive OwnO (K : PySem.W.Frag) (G : GH) (H : Hp) (a : Addr) : D → Prop where
  | lst {xs : List V} {ds : List D} : H a = some (.lst xs) → RGs K G xs ds → OwnO K G H a (.lst ds)
  | dic {ps : List (Key × V)} {kvs : List (Key × D)} : H a = some (.dK ps) → RKs K G ps kvs → OwnO K G H a (.dic kvs)
structure Own (K : PySem.W.Frag) (G : GH) (H : Hp) (a : Addr) (d : D) : Prop where
  un : G a = none
  ob : OwnO K G H a d
structure Grow (K : PySem.W.Frag) (G : GH) (H : Hp) (G' : GH) (H' : Hp) : Prop where
  ok : GOk K G' H'
  he : ∀ a o, H a = some o → H' a = some o
  ge : ∀ a d, G a = some d → G' a = some d
  gf : ∀ a, H a ≠ none → G' a = G a
section
variable {K : PySem.W.Frag} {G G' G1 G2 : GH} {H H' H1 H2 : Hp} {a p : Addr} {d : D} {v : V}
theorem Rd.mono {u : HO} (h : Rd H a u) (he : ∀ a o, H a = some o → H' a = some o) : Rd H' a u := by
  rcases h with h | ⟨o, h⟩
  · exact .inl (he _ _ h)
  · exact .inr ⟨o, he _ _ h⟩
theorem Rd.isS {u : HO} (h : Rd H a u) : H a ≠ none := by
  rcases h with h | ⟨o, h⟩ <;> rw [h] <;> simp
theorem RG.mono (h : RG K G v d) (ge : ∀ a d, G a = some d → G' a = some d) : RG K G' v d := by
  cases h with
  | scl s => exact .scl s
  | ref e => exact .ref (ge _ _ e)
  | kc k => exact .kc k
theorem RGs.mono {xs : List V} {ds : List D} (h : RGs K G xs ds) (ge : ∀ a d, G a = some d → G' a = some d) : RGs K G' xs ds := Paired.mono (fun _ _ r => r.mono ge) h
theorem RKs.mono {xs : List (Key × V)} {ds : List (Key × D)} (h : RKs K G xs ds) (ge : ∀ a d, G a = some d → G' a = some d) : RKs K G' xs ds := Paired.mono (fun _ _ r => ⟨r.1, r.2.mono ge⟩) h
theorem OB.mono (h : OB K G H a d) (ge : ∀ a d, G a = some d → G' a = some d) (he : ∀ o, H a = some o → H' a = some o) : OB K G' H' a d := by
  have rd : ∀ {u : HO}, Rd H a u → Rd H' a u := fun r => by
    rcases r with r | ⟨o, r⟩
    · exact .inl (he _ r)
    · exact .inr ⟨o, he _ r⟩
  cases h with
  | lst r s => exact .lst (rd r) (s.mono ge)
  | tup r s => exact .tup (rd r) (s.mono ge)
  | dic r s => exact .dic (he _ r) (RKs.mono s ge)
theorem OB.isS (h : OB K G H a d) : H a ≠ none := by
  cases h with
  | lst r s => exact Rd.isS r
  | tup r s => exact Rd.isS r
  | dic r s => rw [r]; simp
theorem GOk.isN (g : GOk K G H) (h : H p = none) : G p = none := by
  cases e : G p with
  | none => rfl
  | some d => exact absurd h (g p d e).isS
theorem OwnO.isS (h : OwnO K G H a d) : H a ≠ none := by
  cases h with
  | lst r s => rw [r]; simp
  | dic r s => rw [r]; simp
theorem OwnO.mono (h : OwnO K G H a d) (ge : ∀ a d, G a = some d → G' a = some d) (he : ∀ o, H a = some o → H' a = some o) : OwnO K G' H' a d := by
  cases h with
  | lst r s => exact .lst (he _ r) (s.mono ge)
  | dic r s => exact .dic (he _ r) (RKs.mono s ge)
theorem Own.mono (h : Own K G H a d) (w : Grow K G H G' H') : Own K G' H' a d :=
  ⟨by rw [w.gf a h.ob.isS]; exact h.un, h.ob.mono w.ge fun o e => w.he _ _ e⟩
noncomputable def fz (H : Hp) (a : Addr) (ob : Obj) : Hp := match H a with
  | some (.dK ps) => upd H a (.frz ob (.dK ps))
  | _ => H
theorem fz_ne {b : Addr} {ob : Obj} (h : b ≠ a) : fz H a ob b = H b := by
  unfold fz
  cases e : H a with
  | none => rfl
  | some u => cases u <;> first | rfl | exact upd_ne h
theorem fz_lst {xs : List V} {ob : Obj} (h : H a = some (.lst xs)) : fz H a ob = H := by
  unfold fz
  rw [h]
theorem fz_dic {ps : List (Key × V)} {ob : Obj} (h : H a = some (.dK ps)) : fz H a ob a = some (.frz ob (.dK ps)) := by
  unfold fz
  rw [h]; exact upd_same
theorem OwnO.fast (h : OwnO K G H a d) (ob : Obj) : OB K G (fz H a ob) a d := by
  cases h with
  | lst r s => rw [fz_lst r]; exact .lst (.inl r) s
  | dic r s => exact .dic (fz_dic r) s
theorem GOk.fast (g : GOk K G H) (hn : G a = none) (ob : Obj) : GOk K G (fz H a ob) := fun b d e => by
  have hb : b ≠ a := by rintro rfl; rw [hn] at e; cases e
  exact (g b d e).mono (fun _ _ z => z) fun o z => by rw [fz_ne hb]; exact z
theorem Grow.refl (g : GOk K G H) : Grow K G H G H := ⟨g, fun _ _ e => e, fun _ _ e => e, fun _ _ => rfl⟩
theorem Grow.trans (x : Grow K G H G1 H1) (y : Grow K G1 H1 G2 H2) : Grow K G H G2 H2 :=
  ⟨y.ok, fun a o e => y.he _ _ (x.he _ _ e), fun a d e => y.ge _ _ (x.ge _ _ e), fun a h => by
    have h1 : H1 a ≠ Option.none := by
      cases e : H a with
      | none => exact absurd e h
      | some o => rw [x.he _ _ e]; simp
    rw [y.gf a h1, x.gf a h]⟩
noncomputable def gset (G : GH) (a : Addr) (d : D) : GH := fun b => if b = a then some d else G b
theorem gset_same : gset G a d a = some d := if_pos rfl
theorem gset_ne {b : Addr} (h : b ≠ a) : gset G a d b = G b := if_neg h
theorem gset_ge (hn : G a = none) : ∀ b e, G b = some e → gset G a d b = some e := fun b e h => by
  have : b ≠ a := by rintro rfl; rw [hn] at h; cases h
  rw [gset_ne this]; exact h
theorem GOk.gset (g : GOk K G H) (hn : G a = none) (o : OB K G H a d) : GOk K (gset G a d) H := fun b e h => by
  by_cases hb : b = a
  · subst hb; rw [gset_same] at h; cases h
    exact o.mono (gset_ge hn) fun _ q => q
  · rw [gset_ne hb] at h
    exact (g b e h).mono (gset_ge hn) fun _ q => q
theorem upd_he (hn : H p = none) {o : HO} : ∀ a u, H a = some u → upd H p o a = some u := fun a u e => by
  rw [upd_ne (ne_of_none e hn)]; exact e
theorem Grow.new (g : GOk K G H) (hn : H p = none) (o : HO) : Grow K G H G (upd H p o) :=
  ⟨fun a d e => (g a d e).mono (fun _ _ q => q) fun u q => upd_he hn _ _ q, fun a u e => upd_he hn _ _ e, fun _ _ e => e, fun _ _ => rfl⟩
theorem Grow.newF (g : GOk K G H) (hn : H p = none) {o : HO} (ob : OB K G (upd H p o) p d) : Grow K G H (gset G p d) (upd H p o) := by
  have w := Grow.new g hn o
  have gn := g.isN hn
  exact ⟨w.ok.gset gn ob, w.he, fun a e h => gset_ge gn a e h, fun a h => gset_ne (by rintro rfl; exact h hn)⟩
theorem Grow.frz (w : Grow K G H G' H') (hn : H a = none) (o : Own K G' H' a d) (ob : Obj) : Grow K G H (gset G' a d) (fz H' a ob) :=
  ⟨(w.ok.fast o.un ob).gset o.un (o.ob.fast ob), fun b u e => by rw [fz_ne (by rintro rfl; rw [hn] at e; cases e)]; exact w.he b u e, fun b e h => gset_ge o.un b e (w.ge b e h), fun b h => by rw [gset_ne (by rintro rfl; exact h hn)]; exact w.gf b h⟩
theorem RG.lst {ds : List D} (g : GOk K G H) (h : RG K G v (.lst ds)) : ∃ a xs, v = .ref a ∧ SqL K H a xs ∧ RGs K G xs ds := by
  cases h with
  | scl s => cases s
  | ref e =>
    cases g _ _ e with
    | lst r s => exact ⟨_, _, rfl, .inl r, s⟩
  | kc k =>
    cases k with
    | lst r s =>
      refine ⟨_, _, rfl, ?_, Paired.mono (fun _ _ z => .scl z) s⟩
      rcases r with (r | ⟨o, r⟩) | r
      · cases r
      · cases r
      · exact .inr r
theorem RG.tup {ds : List D} (g : GOk K G H) (h : RG K G v (.tup ds)) : ∃ a xs, v = .ref a ∧ SqT K H a xs ∧ RGs K G xs ds := by
  cases h with
  | scl s => cases s
  | ref e =>
    cases g _ _ e with
    | tup r s => exact ⟨_, _, rfl, .inl r, s⟩
  | kc k =>
    cases k with
    | tup r s _ =>
      refine ⟨_, _, rfl, ?_, Paired.mono (fun _ _ z => .scl z) s⟩
      rcases r with (r | ⟨o, r⟩) | r
      · cases r
      · cases r
      · exact .inr r
theorem RG.dic {kvs : List (Key × D)} (g : GOk K G H) (h : RG K G v (.dic kvs)) : ∃ a ps, v = .ref a ∧ Rd H a (.dK ps) ∧ RKs K G ps kvs := by
  cases h with
  | scl s => cases s
  | ref e =>
    cases g _ _ e with
    | dic r s => exact ⟨_, _, rfl, .inr ⟨_, r⟩, s⟩
  | kc k => cases k
theorem RG.int {i : Int} (g : GOk K G H) (h : RG K G v (.int i)) : v = .int i := by
  cases h with
  | scl s => cases s; rfl
  | ref e => cases g _ _ e
  | kc k => cases k
theorem RG.str {x : Str} (g : GOk K G H) (h : RG K G v (.str x)) : v = .str x := by
  cases h with
  | scl s => cases s; rfl
  | ref e => cases g _ _ e
  | kc k => cases k
theorem RG.bl {b : Bool} (g : GOk K G H) (h : RG K G v (.bl b)) : v = .bl b := by
  cases h with
  | scl s => cases s; rfl
  | ref e => cases g _ _ e
  | kc k => cases k
theorem RG.non (g : GOk K G H) (h : RG K G v .non) : v = .non := by
  cases h with
  | scl s => cases s; rfl
  | ref e => cases g _ _ e
  | kc k => cases k
noncomputable def RB (K : PySem.W.Frag) (G : GH) (H : Hp) (v : V) (d : D) : Prop := RG K G v d ∨ ∃ a, v = .ref a ∧ Own K G H a d
theorem RG.rb (h : RG K G v d) : RB K G H v d := .inl h
theorem RB.mono (h : RB K G H v d) (w : Grow K G H G' H') : RB K G' H' v d := by
  rcases h with h | ⟨a, e, h⟩
  · exact .inl (h.mono w.ge)
  · exact .inr ⟨a, e, h.mono w⟩
theorem RB.lst {ds : List D} (g : GOk K G H) (h : RB K G H v (.lst ds)) : ∃ a xs, v = .ref a ∧ SqL K H a xs ∧ RGs K G xs ds := by
  rcases h with h | ⟨a, e, h⟩
  · exact h.lst g
  · cases h.ob with
    | lst r s => exact ⟨a, _, e, SqL.of r, s⟩
theorem RB.tup {ds : List D} (g : GOk K G H) (h : RB K G H v (.tup ds)) : ∃ a xs, v = .ref a ∧ SqT K H a xs ∧ RGs K G xs ds := by
  rcases h with h | ⟨a, e, h⟩
  · exact h.tup g
  · cases h.ob
theorem RB.dic {kvs : List (Key × D)} (g : GOk K G H) (h : RB K G H v (.dic kvs)) : ∃ a ps, v = .ref a ∧ Rd H a (.dK ps) ∧ RKs K G ps kvs := by
  rcases h with h | ⟨a, e, h⟩
  · exact h.dic g
  · cases h.ob with
    | dic r s => exact ⟨a, _, e, .inl r, s⟩
theorem RB.int {i : Int} (g : GOk K G H) (h : RB K G H v (.int i)) : v = .int i := by
  rcases h with h | ⟨a, e, h⟩
  · exact h.int g
  · cases h.ob
theorem RB.str {x : Str} (g : GOk K G H) (h : RB K G H v (.str x)) : v = .str x := by
  rcases h with h | ⟨a, e, h⟩
  · exact h.str g
  · cases h.ob
theorem RB.bl {b : Bool} (g : GOk K G H) (h : RB K G H v (.bl b)) : v = .bl b := by
  rcases h with h | ⟨a, e, h⟩
  · exact h.bl g
  · cases h.ob
theorem RB.non (g : GOk K G H) (h : RB K G H v .non) : v = .non := by
  rcases h with h | ⟨a, e, h⟩
  · exact h.non g
  · cases h.ob
theorem Paired.get {α β : Type} {F : α → β → Prop} : ∀ {l : List α} {r : List β} {i : Nat} {b : β}, Paired F l r → r[i]? = some b → ∃ a, l[i]? = some a ∧ F a b
  | _, _, _, _, .nil, e => by simp at e
  | _, _, 0, _, .cons h _, e => by simp at e; subst e; exact ⟨_, rfl, h⟩
  | _, _, i + 1, b, .cons _ t, e => by
    obtain ⟨a, h1, h2⟩ := Paired.get (i := i) t (by simpa using e)
    exact ⟨a, by simpa using h1, h2⟩
theorem Paired.app {α β : Type} {F : α → β → Prop} : ∀ {l l' : List α} {r r' : List β}, Paired F l r → Paired F l' r' → Paired F (l ++ l') (r ++ r')
  | _, _, _, _, .nil, h => h
  | _, _, _, _, .cons h t, q => .cons h (Paired.app t q)
theorem Paired.tk {α β : Type} {F : α → β → Prop} : ∀ {l : List α} {r : List β} (n : Nat), Paired F l r → Paired F (l.take n) (r.take n)
  | _, _, 0, _ => .nil
  | _, _, _ + 1, .nil => .nil
  | _, _, n + 1, .cons h t => .cons h (Paired.tk n t)
theorem Paired.dr {α β : Type} {F : α → β → Prop} : ∀ {l : List α} {r : List β} (n : Nat), Paired F l r → Paired F (l.drop n) (r.drop n)
  | _, _, 0, h => h
  | _, _, _ + 1, .nil => .nil
  | _, _, n + 1, .cons _ t => Paired.dr n t
theorem Paired.st {α β : Type} {F : α → β → Prop} {a : α} {b : β} (h : F a b) : ∀ {l : List α} {r : List β} (n : Nat), Paired F l r → Paired F (l.set n a) (r.set n b)
  | _, _, _, .nil => .nil
  | _, _, 0, .cons _ t => .cons h t
  | _, _, n + 1, .cons q t => .cons q (Paired.st h n t)
theorem Paired.er {α β : Type} {F : α → β → Prop} : ∀ {l : List α} {r : List β} (n : Nat), Paired F l r → Paired F (l.eraseIdx n) (r.eraseIdx n)
  | _, _, _, .nil => .nil
  | _, _, 0, .cons _ t => t
  | _, _, n + 1, .cons q t => .cons q (Paired.er n t)
end
inductive Md where
  | sh | ow | bw
  deriving DecidableEq
noncomputable abbrev Rho := List (Option D)
structure GE where
  gh : GH
  h0 : Hp
  hd : Nat → Option (Option V × Option D)
noncomputable def Bw (K : PySem.W.Frag) (h0 : Hp) (G : GH) (H : Hp) (v : V) (d : D) : Prop := RG K G v d ∨ ∃ a, v = V.ref a ∧ Own K G H a d ∧ h0 a ≠ none
theorem Bw.grow {K : PySem.W.Frag} {h0 : Hp} {G G' : GH} {H H' : Hp} {v : V} {d : D} (h : Bw K h0 G H v d) (w : Grow K G H G' H') : Bw K h0 G' H' v d := by
  rcases h with h | ⟨a, e, h1, h2⟩
  · exact .inl (h.mono w.ge)
  · exact .inr ⟨a, e, h1.mono w, h2⟩
theorem Bw.rb {K : PySem.W.Frag} {h0 : Hp} {G : GH} {H : Hp} {v : V} {d : D} (h : Bw K h0 G H v d) : RB K G H v d := by
  rcases h with h | ⟨a, e, h1, h2⟩
  · exact .inl h
  · exact .inr ⟨a, e, h1⟩
noncomputable def Lk (r : Rho) (st : L2.St) (i : Nat) (o : Option V × Option D) : Prop := st[i]? = some o.1 ∧ ∀ d, r[i]? = some (some d) → o.2 = some d
structure SI (X : Cx) (g : GE) (m : List Md) (r : Rho) (G : GH) (st : L2.St) (H : Hp) : Prop where
  gok : GOk X.K G H
  old : ∀ a o, g.h0 a = some o → H a = some o
  ge : ∀ a d, g.gh a = some d → G a = some d
  gf : ∀ a, g.h0 a ≠ none → G a = g.gh a
  lm : m.length = st.length
  lr : r.length = st.length
  sh : ∀ (i : Nat) d, r[i]? = some (some d) → m[i]? = some .sh → ∃ v, st[i]? = some (some v) ∧ RG X.K G v d
  ow : ∀ (i : Nat) d, r[i]? = some (some d) → m[i]? = some .ow → ∃ a, st[i]? = some (some (V.ref a)) ∧ Own X.K G H a d ∧ g.h0 a = none
  bw : ∀ (i : Nat) d, r[i]? = some (some d) → m[i]? = some .bw → ∃ v, st[i]? = some (some v) ∧ Bw X.K g.h0 G H v d
  dis : ∀ (i j : Nat) a d e, i ≠ j → r[i]? = some (some d) → r[j]? = some (some e) → m[i]? = some .ow → m[j]? = some .ow → st[i]? = some (some (V.ref a)) → st[j]? = some (some (V.ref a)) → False
  lk : ∀ (i : Nat) o, g.hd i = some o → m[i]? = some .bw → Lk r st i o
section
variable {X : Cx} {g : GE} {m : List Md} {r : Rho} {G G' : GH} {st : L2.St} {H H' : Hp}
theorem SI.grow (s : SI X g m r G st H) (w : Grow X.K G H G' H') : SI X g m r G' st H' where
  gok := w.ok
  old := fun a o e => w.he _ _ (s.old a o e)
  ge := fun a d e => w.ge _ _ (s.ge a d e)
  gf := fun a h => by
    have h1 : H a ≠ none := by
      cases e : g.h0 a with
      | none => exact absurd e h
      | some o => rw [s.old _ _ e]; simp
    rw [w.gf a h1, s.gf a h]
  lm := s.lm
  lr := s.lr
  sh := fun i d h1 h2 => by obtain ⟨v, h3, h4⟩ := s.sh i d h1 h2; exact ⟨v, h3, h4.mono w.ge⟩
  ow := fun i d h1 h2 => by obtain ⟨a, h3, h4, h5⟩ := s.ow i d h1 h2; exact ⟨a, h3, h4.mono w, h5⟩
  bw := fun i d h1 h2 => by obtain ⟨v, h3, h4⟩ := s.bw i d h1 h2; exact ⟨v, h3, h4.grow w⟩
  dis := s.dis
  lk := s.lk
theorem SI.grown (s : SI X g m r G st H) : Grow X.K g.gh g.h0 G H := ⟨s.gok, s.old, s.ge, s.gf⟩
theorem SI.frz (s : SI X g m r G st H) (i : Nat) (hi : m[i]? = some .ow) : (∃ G', (∀ a d, G a = some d → G' a = some d) ∧ SI X g (m.set i .sh) r G' st H) ∨ ∃ a, ∀ ob, ∃ G', (∀ a d, G a = some d → G' a = some d) ∧ SI X g (m.set i .sh) r G' st (fz H a ob) := by
  have hlt : i < m.length := (List.getElem?_eq_some_iff.mp hi).1
  by_cases hb : ∃ d, r[i]? = some (some d)
  · obtain ⟨d, hd⟩ := hb
    obtain ⟨a, h1, h2, h3⟩ := s.ow i d hd hi
    refine .inr ⟨a, fun ob => ⟨gset G a d, gset_ge h2.un, (s.gok.fast h2.un ob).gset h2.un (h2.ob.fast ob), fun b o e => by rw [fz_ne (by rintro rfl; rw [h3] at e; cases e)]; exact s.old b o e, fun b e h => gset_ge h2.un b e (s.ge b e h), fun b h => ?_, by simpa using s.lm, s.lr, ?_, ?_, ?_, ?_, fun j o hj hm => ?_⟩⟩
    · rw [gset_ne (by rintro rfl; exact h h3)]; exact s.gf b h
    · intro j e hj hm
      by_cases hij : i = j
      · subst hij
        rw [hd] at hj; cases hj
        exact ⟨_, h1, .ref gset_same⟩
      · rw [List.getElem?_set_ne hij] at hm
        obtain ⟨v, q1, q2⟩ := s.sh j e hj hm
        exact ⟨v, q1, q2.mono (gset_ge h2.un)⟩
    · intro j e hj hm
      by_cases hij : i = j
      · subst hij
        rw [List.getElem?_set_self hlt] at hm; cases hm
      · rw [List.getElem?_set_ne hij] at hm
        obtain ⟨b, q1, q2, q3⟩ := s.ow j e hj hm
        have hba : b ≠ a := by
          rintro rfl
          exact s.dis i j b d e hij hd hj hi hm h1 q1
        exact ⟨b, q1, ⟨by rw [gset_ne hba]; exact q2.un, q2.ob.mono (gset_ge h2.un) fun _ z => by rw [fz_ne hba]; exact z⟩, q3⟩
    · intro j e hj hm
      by_cases hij : i = j
      · subst hij
        rw [List.getElem?_set_self hlt] at hm; cases hm
      · rw [List.getElem?_set_ne hij] at hm
        obtain ⟨v, q1, q2⟩ := s.bw j e hj hm
        refine ⟨v, q1, ?_⟩
        rcases q2 with q2 | ⟨b, rfl, q2, q3⟩
        · exact .inl (q2.mono (gset_ge h2.un))
        · have hba : b ≠ a := by rintro rfl; exact q3 h3
          exact .inr ⟨b, rfl, ⟨by rw [gset_ne hba]; exact q2.un, q2.ob.mono (gset_ge h2.un) fun _ z => by rw [fz_ne hba]; exact z⟩, q3⟩
    · intro j k b e e' hjk hj hk hm hm' q1 q2
      have hij : i ≠ j := by
        rintro rfl
        rw [List.getElem?_set_self hlt] at hm; cases hm
      have hik : i ≠ k := by
        rintro rfl
        rw [List.getElem?_set_self hlt] at hm'; cases hm'
      rw [List.getElem?_set_ne hij] at hm
      rw [List.getElem?_set_ne hik] at hm'
      exact s.dis j k b e e' hjk hj hk hm hm' q1 q2
    · refine s.lk j o hj ?_
      by_cases hij : i = j
      · subst hij; rw [List.getElem?_set_self hlt] at hm; cases hm
      · rw [List.getElem?_set_ne hij] at hm; exact hm
  · refine .inl ⟨G, fun _ _ z => z, s.gok, s.old, s.ge, s.gf, by simpa using s.lm, s.lr, ?_, ?_, ?_, ?_, fun j o hj hm => ?_⟩
    · intro j e hj hm
      have hij : i ≠ j := by rintro rfl; exact hb ⟨e, hj⟩
      rw [List.getElem?_set_ne hij] at hm
      exact s.sh j e hj hm
    · intro j e hj hm
      have hij : i ≠ j := by rintro rfl; exact hb ⟨e, hj⟩
      rw [List.getElem?_set_ne hij] at hm
      exact s.ow j e hj hm
    · intro j e hj hm
      have hij : i ≠ j := by rintro rfl; exact hb ⟨e, hj⟩
      rw [List.getElem?_set_ne hij] at hm
      exact s.bw j e hj hm
    · intro j k b e e' hjk hj hk hm hm' q1 q2
      have hij : i ≠ j := by rintro rfl; exact hb ⟨e, hj⟩
      have hik : i ≠ k := by rintro rfl; exact hb ⟨e', hk⟩
      rw [List.getElem?_set_ne hij] at hm
      rw [List.getElem?_set_ne hik] at hm'
      exact s.dis j k b e e' hjk hj hk hm hm' q1 q2
    · refine s.lk j o hj ?_
      by_cases hij : i = j
      · subst hij; rw [List.getElem?_set_self hlt] at hm; cases hm
      · rw [List.getElem?_set_ne hij] at hm; exact hm
end
end DL
end
section
set_option Elab.async false
set_option linter.all false
set_option maxRecDepth 100000
namespace DL
open PySem PySem.Spec PyProof.Rows L2
theorem PE.imp {X : Cx} {e : Expr} {t t' : TE} (h : PE X e t) (i : ∀ σ H Q, t' σ H Q → t σ H Q) : PE X e t' := fun pins s σ H Q I q => h pins s σ H Q I (i σ H Q q)
theorem PT.imp {X : Cx} {e : Expr} {t t' : TT} (h : PT X e t) (i : ∀ σ H Q, t' σ H Q → t σ H Q) : PT X e t' := fun pins s σ H Q I q => h pins s σ H Q I (i σ H Q q)
theorem PW.imp {X : Cx} {e : Expr} {t t' : TT} (h : PW X e t) (i : ∀ σ H Q, t' σ H Q → t σ H Q) : PW X e t' := fun whole pins s σ H Q I q => h whole pins s σ H Q I (i σ H Q q)
theorem PA.imp {X : Cx} {e : List Expr} {t t' : TA} (h : PA X e t) (i : ∀ σ H Q, t' σ H Q → t σ H Q) : PA X e t' := fun pos pins s σ H Q I q => h pos pins s σ H Q I (i σ H Q q)
theorem PS.imp {X : Cx} {e : Stmt} {t t' : TS} (h : PS X e t) (i : ∀ D σ H, t' D σ H → t D σ H) : PS X e t' := fun pins s σ H D I q => h pins s σ H D I (i D σ H q)
theorem PSs.imp {X : Cx} {e : List Stmt} {t t' : TS} (h : PSs X e t) (i : ∀ D σ H, t' D σ H → t D σ H) : PSs X e t' := fun pins s σ H D I q => h pins s σ H D I (i D σ H q)
noncomputable def ExV (_X : Cx) (_G : GH) (_H : Hp) (_e : Value) (_x : D) : Prop := False
noncomputable def XW (X : Cx) (σ : L2.St) (G : GH) (H : Hp) (x : D) : Prop := ∀ pins e s' G' H', Grow X.K G H G' H' → Inv X pins σ H' s' → ExV X G' H' e x → X.xe e s'
theorem XW.grow {X : Cx} {σ : L2.St} {G G1 : GH} {H H1 : Hp} {x : D} (h : XW X σ G H x) (w : Grow X.K G H G1 H1) : XW X σ G1 H1 x := fun pins e s' G' H' w' I q => h pins e s' G' H' (w.trans w') I q
noncomputable abbrev FE := Rho → Res D
noncomputable def tE (X : Cx) (g : GE) (m : List Md) (f : FE) : TE := fun σ H Q => ∃ r G, SI X g m r G σ H ∧ fin (f r) (fun d => ∀ v G' H', Grow X.K G H G' H' → RG X.K G' v d → Q v H') (XW X σ G H)
noncomputable def tB (X : Cx) (g : GE) (m : List Md) (f : FE) : TE := fun σ H Q => ∃ r G, SI X g m r G σ H ∧ fin (f r) (fun d => ∀ v G' H', Grow X.K G H G' H' → RB X.K G' H' v d → Q v H') (XW X σ G H)
noncomputable def tO (X : Cx) (g : GE) (m : List Md) (f : FE) : TE := fun σ H Q => ∃ r G, SI X g m r G σ H ∧ fin (f r) (fun d => ∀ a G' H', Grow X.K G H G' H' → H a = none → Own X.K G' H' a d → Q (.ref a) H') (XW X σ G H)
noncomputable def tQ (X : Cx) (g : GE) (m : List Md) (f : Rho → Res Bool) : TT := fun σ H Q => ∃ r G, SI X g m r G σ H ∧ fin (f r) (fun b => ∀ G' H', Grow X.K G H G' H' → Q b H') (XW X σ G H)
noncomputable def tL (X : Cx) (g : GE) (m : List Md) (f : Rho → Res (List D)) : TA := fun σ H Q => ∃ r G, SI X g m r G σ H ∧ fin (f r) (fun ds => ∀ vs G' H', Grow X.K G H G' H' → RGs X.K G' vs ds → Q vs H') (XW X σ G H)
noncomputable def tLB (X : Cx) (g : GE) (m : List Md) (f : Rho → Res (List D)) : TA := fun σ H Q => ∃ r G, SI X g m r G σ H ∧ fin (f r) (fun ds => ∀ vs G' H', Grow X.K G H G' H' → Paired (RB X.K G' H') vs ds → Q vs H') (XW X σ G H)
noncomputable def SE (X : Cx) (g : GE) (m : List Md) (e : Expr) (f : FE) : Prop := PE X e (tE X g m f)
noncomputable def SB (X : Cx) (g : GE) (m : List Md) (e : Expr) (f : FE) : Prop := PE X e (tB X g m f)
noncomputable def SO (X : Cx) (g : GE) (m : List Md) (e : Expr) (f : FE) : Prop := PE X e (tO X g m f)
noncomputable def SQ (X : Cx) (g : GE) (m : List Md) (e : Expr) (f : Rho → Res Bool) : Prop := PT X e (tQ X g m f)
noncomputable def SW (X : Cx) (g : GE) (m : List Md) (e : Expr) (f : Rho → Res Bool) : Prop := PW X e (tQ X g m f)
noncomputable def SA (X : Cx) (g : GE) (m : List Md) (es : List Expr) (f : Rho → Res (List D)) : Prop := PA X es (tL X g m f)
noncomputable def SAB (X : Cx) (g : GE) (m : List Md) (es : List Expr) (f : Rho → Res (List D)) : Prop := PA X es (tLB X g m f)
section
variable {X : Cx} {g : GE} {m : List Md} {e a b c : Expr} {f fa fb fc : FE} {pos : Pos}
theorem SE.toB (h : SE X g m e f) : SB X g m e f := PE.imp h fun σ H Q ⟨r, G, si, q⟩ => ⟨r, G, si, fin_mono q fun d k v G' H' w z => k v G' H' w z.rb⟩
theorem Inv.fast {pins : List (Addr × Obj)} {σ : L2.St} {H : Hp} {s : Shared} (I : Inv X pins σ H s) (a : Addr) : ∃ ob, Inv X pins σ (fz H a ob) s := by
  cases e : H a with
  | none => exact ⟨{ cls := .none, data := .fields #[] }, by unfold fz; rw [e]; exact I⟩
  | some u =>
    cases u with
    | dK ps =>
      obtain ⟨z1, z2, vs, z3, o, es, ep, z4, z5⟩ := (show ObjOk X.prog X.w H s.heap a (.dK ps) from I.hok a _ e)
      have ef : fz H a o = upd H a (.frz o (.dK ps)) := by unfold fz; rw [e]
      refine ⟨o, ?_⟩
      rw [ef]
      exact I.write (t' := s.toks) (h' := s.heap) (x := a) (e := a) (by rw [e]; exact trivial) (.inl rfl) (fun b u _ q => q) ⟨o, z4⟩ (show ObjOk X.prog X.w _ s.heap a (.frz o (.dK ps)) from ⟨z4, z1, z2, vs, z3, o, es, ep, z4, z5⟩)
    | _ => exact ⟨{ cls := .none, data := .fields #[] }, by unfold fz; rw [e]; exact I⟩
theorem SO.toE (h : SO X g m e f) : SE X g m e f := by
  intro pins s σ H Q I ⟨r, G, si, q⟩
  refine thn (h pins s σ H (fun v H' => ∃ a, v = .ref a ∧ ∀ ob, Q v (fz H' a ob)) I ⟨r, G, si, fin_mono q fun d k a G' H' w hn o => ⟨a, rfl, fun ob => k _ _ _ (w.frz hn o ob) (.ref gset_same)⟩⟩) fun u s' ⟨v, H', I', rv, a, _, z⟩ => ?_
  obtain ⟨ob, I2⟩ := Inv.fast I' a
  exact ⟨v, _, I2, rv, z ob⟩
theorem SO.toB (h : SO X g m e f) : SB X g m e f := h.toE.toB
theorem SE.eq {f' : FE} (h : SE X g m e f) (q : ∀ r, f' r = f r) : SE X g m e f' := by
  have : f' = f := funext q
  rw [this]; exact h
theorem s_const {v : V} {d : D} (h : PE X e (tC v)) (s : Scl v d) : SE X g m e fun _ => .ok d :=
  PE.imp h fun σ H Q ⟨r, G, si, q⟩ => q v G H (Grow.refl si.gok) (.scl s)
theorem s_int {i : Int} {j} : SE X g m (.Constant (.int i) j pos) fun _ => .ok (.int i) := s_const pe_int (.int i)
theorem s_bl {i : Bool} {j} : SE X g m (.Constant (.bool i) j pos) fun _ => .ok (.bl i) := s_const pe_bl (.bl i)
noncomputable def getV (r : Rho) (i : Nat) : Res D := match r[i]? with
  | some (some d) => .ok d
  | _ => .stuck
theorem fin_getV {r : Rho} {i : Nat} {q : D → Prop} {x : D → Prop} (h : fin (getV r i) q x) : ∃ d, r[i]? = some (some d) ∧ q d := by
  unfold getV at h
  split at h
  · rename_i d e; exact ⟨d, e, h⟩
  · exact h.elim
theorem s_var (i : Nat) {x : Str} (hm : m[i]? = some .sh) (hN : X.N[i]? = some x) (hv : Vis X.env.scope x) (hd : (x == ("__debug__" : Str)) = false := by decide) (hcd : (x == ("__classdict__" : Str)) = false := by decide) :
    SE X g m (.Name x pos) fun r => getV r i := by
  refine PE.imp (pe_var hN hv hd hcd) fun σ H Q ⟨r, G, si, q⟩ => ?_
  obtain ⟨d, e, k⟩ := fin_getV q
  obtain ⟨v, e1, e2⟩ := si.sh i d e hm
  exact ⟨v, e1, k v G H (Grow.refl si.gok) e2⟩
theorem s_varB (i : Nat) {x : Str} (hm : i < m.length) (hN : X.N[i]? = some x) (hv : Vis X.env.scope x) (hd : (x == ("__debug__" : Str)) = false := by decide) (hcd : (x == ("__classdict__" : Str)) = false := by decide) :
    SB X g m (.Name x pos) fun r => getV r i := by
  refine PE.imp (pe_var hN hv hd hcd) fun σ H Q ⟨r, G, si, q⟩ => ?_
  obtain ⟨d, e, k⟩ := fin_getV q
  have hm' : m[i]? = some m[i] := List.getElem?_eq_getElem hm
  cases h : m[i] with
  | sh =>
    obtain ⟨v, e1, e2⟩ := si.sh i d e (hm'.trans (by rw [h]))
    exact ⟨v, e1, k v G H (Grow.refl si.gok) e2.rb⟩
  | ow =>
    obtain ⟨v, e1, e2, _⟩ := si.ow i d e (hm'.trans (by rw [h]))
    exact ⟨_, e1, k _ G H (Grow.refl si.gok) (.inr ⟨v, rfl, e2⟩)⟩
  | bw =>
    obtain ⟨v, e1, e2⟩ := si.bw i d e (hm'.trans (by rw [h]))
    exact ⟨_, e1, k _ G H (Grow.refl si.gok) e2.rb⟩
theorem seq2 {β : Type} {k : D → D → Res β} {q : β → Prop} {R : V → V → Hp → Prop} {r : Rho} {G : GH} {σ : L2.St} {H : Hp} (si : SI X g m r G σ H)
    (h : fin ((fa r).bind fun d1 => (fb r).bind fun d2 => k d1 d2) q (XW X σ G H))
    (hk : ∀ d1 d2 v1 v2 G2 H2, Grow X.K G H G2 H2 → RB X.K G2 H2 v1 d1 → RB X.K G2 H2 v2 d2 → fin (k d1 d2) q (XW X σ G H) → R v1 v2 H2) :
    tB X g m fa σ H fun v1 H1 => tB X g m fb σ H1 fun v2 H2 => R v1 v2 H2 := by
  refine ⟨r, G, si, fin_mono (fin_bind h) fun d1 h1 v1 G1 H1 w1 r1 => ⟨r, G1, si.grow w1, ?_⟩⟩
  cases e : fb r with
  | ok d2 =>
    rw [e] at h1
    exact fun v2 G2 H2 w2 r2 => hk d1 d2 v1 v2 G2 H2 (w1.trans w2) (r1.mono w2) r2 h1
  | exc x =>
    rw [e] at h1
    exact (show XW X σ G H x from h1).grow w1
  | stuck =>
    rw [e] at h1
    exact h1
noncomputable def opt {α : Type} : Option α → Res α
  | some a => .ok a
  | none => .stuck
@[simp] theorem opt_some {α : Type} (a : α) : opt (some a) = .ok a := rfl
@[simp] theorem opt_none {α : Type} : opt (none : Option α) = .stuck := rfl
theorem fin_opt {α : Type} {o : Option α} {q : α → Prop} {x : D → Prop} (h : fin (opt o) q x) : ∃ a, o = some a ∧ q a := by
  cases o with
  | none => exact h.elim
  | some a => exact ⟨a, rfl, h⟩
noncomputable def OpD (K : PySem.W.Frag) (r : R2) (k : D → D → Option D) : Prop := ∀ (G : GH) (H : Hp) (v1 v2 : V) (d1 d2 d : D) (Q : VK), GOk K G H → RB K G H v1 d1 → RB K G H v2 d2 → k d1 d2 = some d →
  (∀ v G' H', Grow K G H G' H' → RG K G' v d → Q v H') → r v1 v2 H Q
noncomputable def f2 (fa fb : FE) (k : D → D → Option D) : FE := fun r => (fa r).bind fun d1 => (fb r).bind fun d2 => opt (k d1 d2)
theorem s_op2 {R : R2} {k : D → D → Option D} (ho : OpD X.K R k) (h : PE X e (tOp R (tB X g m fa) (tB X g m fb))) : SE X g m e (f2 fa fb k) := by
  refine PE.imp h fun σ H Q ⟨r, G, si, q⟩ => ?_
  refine seq2 si q fun d1 d2 v1 v2 G2 H2 w r1 r2 q2 => ?_
  obtain ⟨d, e, q2⟩ := fin_opt q2
  exact ho G2 H2 v1 v2 d1 d2 d Q w.ok r1 r2 e fun v G' H' w' z => q2 v G' H' (w.trans w') z
theorem s_bin {op : Operator} {R : R2} {k : D → D → Option D} (hr : OpR X (binaryOp op) R) (ho : OpD X.K R k) (ha : SB X g m a fa) (hb : SB X g m b fb) : SE X g m (.BinOp a op b pos) (f2 fa fb k) := s_op2 ho (pe_op hr ha hb)
theorem s_cmp {op : CmpOp} {R : R2} {k : D → D → Option D} (hr : OpR X (compareOp op) R) (ho : OpD X.K R k) (ha : SB X g m a fa) (hb : SB X g m b fb) (hm : behindInMarks op b = false) : SE X g m (.Compare a [op] [b] pos) (f2 fa fb k) := s_op2 ho (pe_cmpR hr ha hb hm)
noncomputable def asB : D → Option Bool
  | .bl b => some b
  | _ => none
noncomputable def fTest (f : FE) : Rho → Res Bool := fun r => (f r).bind fun d => opt (asB d)
theorem q_cmp {op : CmpOp} {R : R2} {k : D → D → Option D} (hr : OpR X (compareOp op) R) (ho : OpD X.K R k) (ha : SB X g m a fa) (hb : SB X g m b fb) (hm : behindInMarks op b = false) : SQ X g m (.Compare a [op] [b] pos) (fTest (f2 fa fb k)) := by
  refine PT.imp (pt_cmpR hr ha hb hm) fun σ H Q ⟨r, G, si, q⟩ => ?_
  have e : fTest (f2 fa fb k) r = (fa r).bind fun d1 => (fb r).bind fun d2 => (opt (k d1 d2)).bind fun d => opt (asB d) := by
    unfold fTest f2
    cases fa r with
    | ok d1 => cases fb r <;> rfl
    | exc _ => rfl
    | stuck => rfl
  rw [e] at q
  refine seq2 (R := fun x y H2 => R x y H2 fun x H' => ∃ k, x = V.bl k ∧ Q k H') si q fun d1 d2 v1 v2 G2 H2 w r1 r2 q3 => ?_
  obtain ⟨d, e, q3⟩ := fin_opt (fin_bind q3)
  obtain ⟨b, eb, q3⟩ := fin_opt q3
  cases d with
  | bl b' =>
    cases eb
    exact ho G2 H2 v1 v2 d1 d2 _ _ w.ok r1 r2 e fun v G' H' w' z => ⟨_, z.bl w'.ok, q3 G' H' (w.trans w')⟩
  | _ => cases eb
end
end DL
end
section
set_option Elab.async false
set_option linter.all false
set_option maxRecDepth 100000
namespace DL
open PySem PySem.Spec PyProof.Rows L2
instance decMul (i j : Int) : Decidable (CMul i j) := by unfold CMul; infer_instance
instance decDiv (i j : Int) : Decidable (CDiv i j) := by unfold CDiv; infer_instance
instance decPow (i j : Int) : Decidable (CPow i j) := by unfold CPow; infer_instance
noncomputable def ints2 (k : Int → Int → D) : D → D → Option D
  | .int a, .int b => some (k a b)
  | _, _ => none
noncomputable def intsC (C : Int → Int → Prop) [∀ a b, Decidable (C a b)] (k : Int → Int → D) : D → D → Option D
  | .int a, .int b => if C a b then some (k a b) else none
  | _, _ => none
@[simp] theorem ints2_int (k : Int → Int → D) (a b : Int) : ints2 k (.int a) (.int b) = some (k a b) := rfl
@[simp] theorem intsC_int (C : Int → Int → Prop) [∀ a b, Decidable (C a b)] (k : Int → Int → D) (a b : Int) : intsC C k (.int a) (.int b) = if C a b then some (k a b) else none := rfl
section
variable {K : PySem.W.Frag}
theorem opd_int {gv : Int → Int → V} {gd : Int → Int → D} (hs : ∀ i j, Scl (gv i j) (gd i j)) : OpD K (rI0 gv) (ints2 gd) := by
  intro G H v1 v2 d1 d2 d Q g r1 r2 e q
  unfold ints2 at e
  split at e
  · cases e
    exact ⟨_, _, r1.int g, r2.int g, q _ G H (Grow.refl g) (.scl (hs _ _))⟩
  · cases e
theorem opd_intC {C : Int → Int → Prop} [∀ a b, Decidable (C a b)] {gv : Int → Int → V} {gd : Int → Int → D} (hs : ∀ i j, Scl (gv i j) (gd i j)) : OpD K (rI C gv) (intsC C gd) := by
  intro G H v1 v2 d1 d2 d Q g r1 r2 e q
  unfold intsC at e
  split at e
  · split at e
    · rename_i hc
      cases e
      exact ⟨_, _, r1.int g, r2.int g, hc, q _ G H (Grow.refl g) (.scl (hs _ _))⟩
    · cases e
  · cases e
theorem OpD.or {r r' : R2} {k k' : D → D → Option D} (h : OpD K r k) (h' : OpD K r' k') : OpD K (fun x y H Q => r x y H Q ∨ r' x y H Q) (fun a b => match k a b with | some d => some d | none => k' a b) := by
  intro G H v1 v2 d1 d2 d Q g r1 r2 e q
  cases e1 : k d1 d2 with
  | some d' =>
    simp only [e1] at e
    cases e
    exact .inl (h G H v1 v2 d1 d2 d Q g r1 r2 e1 q)
  | none =>
    simp only [e1] at e
    exact .inr (h' G H v1 v2 d1 d2 d Q g r1 r2 e q)
end
noncomputable abbrev mulI : D → D → Option D := intsC CMul fun a b => .int (a * b)
noncomputable abbrev fdivI : D → D → Option D := intsC CDiv fun a b => .int (a / b)
noncomputable abbrev modI : D → D → Option D := intsC (fun _ b => 0 < b) fun a b => .int (a % b)
noncomputable abbrev powI : D → D → Option D := intsC CPow fun a b => .int (a ^ b.toNat)
noncomputable abbrev ltI : D → D → Option D := ints2 fun a b => .bl (decide (a < b))
noncomputable abbrev gtI : D → D → Option D := ints2 fun a b => .bl (decide (b < a))
section
variable {X : Cx} {g : GE} {m : List Md} {e a b c : Expr} {f fa fb fc : FE} {pos : Pos}
theorem s_mul (ha : SB X g m a fa) (hb : SB X g m b fb) : SE X g m (.BinOp a .Mult b pos) (f2 fa fb mulI) := s_bin op_mul (opd_intC fun _ _ => .int _) ha hb
theorem s_fdiv (ha : SB X g m a fa) (hb : SB X g m b fb) : SE X g m (.BinOp a .FloorDiv b pos) (f2 fa fb fdivI) := s_bin op_fdiv (opd_intC fun _ _ => .int _) ha hb
theorem s_mod (ha : SB X g m a fa) (hb : SB X g m b fb) : SE X g m (.BinOp a .Mod b pos) (f2 fa fb modI) := s_bin op_mod (opd_intC fun _ _ => .int _) ha hb
theorem s_pow (ha : SB X g m a fa) (hb : SB X g m b fb) : SE X g m (.BinOp a .Pow b pos) (f2 fa fb powI) := s_bin op_pow (opd_intC fun _ _ => .int _) ha hb
theorem s_gt (ha : SB X g m a fa) (hb : SB X g m b fb) : SE X g m (.Compare a [.Gt] [b] pos) (f2 fa fb gtI) := s_cmp op_gt (opd_int fun _ _ => .bl _) ha hb (nomark _)
theorem q_lt (ha : SB X g m a fa) (hb : SB X g m b fb) : SQ X g m (.Compare a [.Lt] [b] pos) (fTest (f2 fa fb ltI)) := q_cmp op_lt (opd_int fun _ _ => .bl _) ha hb (nomark _)
theorem q_gt (ha : SB X g m a fa) (hb : SB X g m b fb) : SQ X g m (.Compare a [.Gt] [b] pos) (fTest (f2 fa fb gtI)) := q_cmp op_gt (opd_int fun _ _ => .bl _) ha hb (nomark _)
noncomputable def f1 (fa : FE) (k : D → Option D) : FE := fun r => (fa r).bind fun d => opt (k d)
noncomputable def negI : D → Option D
  | .int a => some (.int (-a))
  | _ => none
@[simp] theorem negI_int (a : Int) : negI (.int a) = some (.int (-a)) := rfl
theorem s_neg (ha : SB X g m a fa) : SE X g m (.UnaryOp .USub a pos) (f1 fa negI) := by
  refine PE.imp (pe_un un_neg ha) fun σ H Q ⟨r, G, si, q⟩ => ⟨r, G, si, fin_mono (fin_bind q) fun d q1 v G1 H1 w1 r1 => ?_⟩
  obtain ⟨d', e, q2⟩ := fin_opt q1
  cases d with
  | int i =>
    cases e
    exact ⟨i, r1.int w1.ok, q2 _ G1 H1 w1 (.scl (.int _))⟩
  | _ => cases e
noncomputable def truD : D → Option Bool
  | .non => some false
  | .bl b => some b
  | .int i => some (i != 0)
  | .str y => if y.length ≤ sizeLine then some ((y.length : Int) != 0) else none
  | .lst ds => some (!ds.isEmpty)
  | .tup ds => some (!ds.isEmpty)
  | .dic kvs => some (!kvs.isEmpty)
  | .obj _ _ => none
theorem isEmpty_p {α β : Type} {F : α → β → Prop} {l : List α} {r : List β} (h : Paired F l r) : l.isEmpty = r.isEmpty := by cases h <;> rfl
theorem truD_ok {K : PySem.W.Frag} {G : GH} {H : Hp} {v : V} {d : D} {b : Bool} (gk : GOk K G H) (h : RB K G H v d) (e : truD d = some b) : TruV K v H b := by
  cases d with
  | non => cases e; rw [h.non gk]; rfl
  | bl b' => cases e; rw [h.bl gk]; rfl
  | int i => cases e; rw [h.int gk]; rfl
  | str y =>
    rw [h.str gk]
    have e' : (if y.length ≤ sizeLine then some ((y.length : Int) != 0) else none) = some b := e
    by_cases hy : y.length ≤ sizeLine
    · rw [if_pos hy] at e'; cases e'; exact ⟨hy, rfl⟩
    · rw [if_neg hy] at e'; cases e'
  | lst ds =>
    cases e
    obtain ⟨a, xs, rfl, s, r⟩ := h.lst gk
    exact .inl ⟨xs, s, by rw [isEmpty_p r]⟩
  | tup ds =>
    cases e
    obtain ⟨a, xs, rfl, s, r⟩ := h.tup gk
    exact .inr (.inl ⟨xs, s, by rw [isEmpty_p r]⟩)
  | dic kvs =>
    cases e
    obtain ⟨a, xs, rfl, s, r⟩ := h.dic gk
    exact .inr (.inr ⟨xs, s, by rw [isEmpty_p r]⟩)
  | obj _ _ => cases e
noncomputable def fTru (f : FE) : Rho → Res Bool := fun r => (f r).bind fun d => opt (truD d)
theorem q_tru (ha : SB X g m a fa) (he : ∀ whole, isTrue a X.env whole = (do let v ← whole; standAt a.pos; holding [v] (truthy v)) := by intro _; rfl) : SQ X g m a (fTru fa) := by
  refine PT.imp (pt_truth ha he) fun σ H Q ⟨r, G, si, q⟩ => ⟨r, G, si, fin_mono (fin_bind q) fun d q1 v G1 H1 w1 r1 => ?_⟩
  obtain ⟨b, e, q2⟩ := fin_opt q1
  exact ⟨b, truD_ok w1.ok r1 e, q2 G1 H1 w1⟩
noncomputable abbrev FQ := Rho → Res Bool
noncomputable def fAnd (p q : FQ) : FQ := fun r => (p r).bind fun c => if c = true then q r else .ok false
noncomputable def fOr (p q : FQ) : FQ := fun r => (p r).bind fun c => if c = true then .ok true else q r
noncomputable def fNot (p : FQ) : FQ := fun r => (p r).bind fun c => .ok (!c)
variable {p q : FQ} {rest : List Expr}
theorem fin_x {α : Type} {r : Res α} {q : α → Prop} {x x' : D → Prop} (h : fin r q x) (hx : ∀ e, x e → x' e) : fin r q x' := by
  cases r with
  | ok a => exact h
  | exc e => exact hx e h
  | stuck => exact h
theorem fin_later {α : Type} {r : Res α} {σ : L2.St} {G G1 : GH} {H H1 : Hp} {P P' : α → Prop} (h : fin r P (XW X σ G H)) (w : Grow X.K G H G1 H1) (hp : ∀ a, P a → P' a) : fin r P' (XW X σ G1 H1) := fin_x (fin_mono h hp) fun _ x => x.grow w
theorem q_and1 (ha : SQ X g m a p) : SW X g m (.BoolOp .And [a] pos) p := pw_and1 ha
theorem q_or1 (ha : SQ X g m a p) : SW X g m (.BoolOp .Or [a] pos) p := pw_or1 ha
theorem q_and (ha : SQ X g m a p) (hb : SW X g m (.BoolOp .And (b :: rest) pos) q) : SW X g m (.BoolOp .And (a :: b :: rest) pos) (fAnd p q) := by
  refine PW.imp (pw_and ha hb) fun σ H Q ⟨r, G, si, k⟩ => ⟨r, G, si, fin_mono (fin_bind k) fun c k1 G1 H1 w1 => ?_⟩
  cases c with
  | true => rw [if_pos rfl] at k1 ⊢; exact ⟨r, G1, si.grow w1, fin_later k1 w1 fun b z G' H' w' => z G' H' (w1.trans w')⟩
  | false => rw [if_neg Bool.false_ne_true] at k1 ⊢; exact k1 G1 H1 w1
theorem q_or (ha : SQ X g m a p) (hb : SW X g m (.BoolOp .Or (b :: rest) pos) q) : SW X g m (.BoolOp .Or (a :: b :: rest) pos) (fOr p q) := by
  refine PW.imp (pw_or ha hb) fun σ H Q ⟨r, G, si, k⟩ => ⟨r, G, si, fin_mono (fin_bind k) fun c k1 G1 H1 w1 => ?_⟩
  cases c with
  | true => rw [if_pos rfl] at k1 ⊢; exact k1 G1 H1 w1
  | false => rw [if_neg Bool.false_ne_true] at k1 ⊢; exact ⟨r, G1, si.grow w1, fin_later k1 w1 fun b z G' H' w' => z G' H' (w1.trans w')⟩
theorem SW.toQ (h : SW X g m e p) : SQ X g m e p := PW.pt h
theorem q_not (ha : SQ X g m a p) : SQ X g m (.UnaryOp .Not a pos) (fNot p) :=
  PT.imp (pt_not ha) fun σ H Q ⟨r, G, si, k⟩ => ⟨r, G, si, fin_mono (fin_bind k) fun c k1 G1 H1 w1 => k1 G1 H1 w1⟩
noncomputable def vAnd (fa fb : FE) : FE := fun r => (fa r).bind fun d => (opt (asB d)).bind fun c => if c = true then fb r else .ok (.bl false)
noncomputable def vOr (fa fb : FE) : FE := fun r => (fa r).bind fun d => (opt (asB d)).bind fun c => if c = true then .ok (.bl true) else fb r
noncomputable def vNot (fa : FE) : FE := fun r => (fa r).bind fun d => (opt (asB d)).bind fun c => .ok (.bl (!c))
theorem s_one {op} (h : SE X g m a fa) : SE X g m (.BoolOp op [a] pos) fa := pe_one h
theorem s_and (ha : SE X g m a fa) (hb : SE X g m (.BoolOp .And (b :: rest) pos) fb) : SE X g m (.BoolOp .And (a :: b :: rest) pos) (vAnd fa fb) := by
  refine PE.imp (pe_and ha hb) fun σ H Q ⟨r, G, si, k⟩ => ⟨r, G, si, fin_mono (fin_bind k) fun d k1 v G1 H1 w1 r1 => ?_⟩
  obtain ⟨c, e, k2⟩ := fin_opt (fin_bind k1)
  cases d with
  | bl c' =>
    cases e
    refine ⟨_, r1.bl w1.ok, ?_⟩
    cases c with
    | true => rw [if_pos rfl] at k2 ⊢; exact ⟨r, G1, si.grow w1, fin_later k2 w1 fun b z v G' H' w' => z v G' H' (w1.trans w')⟩
    | false => rw [if_neg Bool.false_ne_true] at k2 ⊢; exact k2 _ G1 H1 w1 (.scl (.bl _))
  | _ => cases e
theorem s_not (ha : SE X g m a fa) : SE X g m (.UnaryOp .Not a pos) (vNot fa) := by
  refine PE.imp (pe_not ha) fun σ H Q ⟨r, G, si, k⟩ => ⟨r, G, si, fin_mono (fin_bind k) fun d k1 v G1 H1 w1 r1 => ?_⟩
  obtain ⟨c, e, k2⟩ := fin_opt (fin_bind k1)
  cases d with
  | bl c' => cases e; exact ⟨_, r1.bl w1.ok, k2 _ G1 H1 w1 (.scl (.bl _))⟩
  | _ => cases e
noncomputable def fIf (p : FQ) (fa fb : FE) : FE := fun r => (p r).bind fun c => if c = true then fa r else fb r
variable {es : List Expr} {fl fr : Rho → Res (List D)}
noncomputable def lNil : Rho → Res (List D) := fun _ => .ok []
noncomputable def lCons (fa : FE) (fl : Rho → Res (List D)) : Rho → Res (List D) := fun r => (fa r).bind fun d => (fl r).bind fun ds => .ok (d :: ds)
theorem a_nil : SA X g m [] lNil := PA.imp pa_nil fun σ H Q ⟨r, G, si, k⟩ => k [] G H (Grow.refl si.gok) .nil
theorem a_cons (ha : SE X g m e fa) (hr : SA X g m es fl) (hs : starEach (e :: es) X.env = (false, eval e X.env) :: starEach es X.env := by rfl) : SA X g m (e :: es) (lCons fa fl) := by
  refine PA.imp (pa_cons ha hr hs) fun σ H Q ⟨r, G, si, k⟩ => ⟨r, G, si, fin_mono (fin_bind k) fun d k1 v G1 H1 w1 r1 => ⟨r, G1, si.grow w1, ?_⟩⟩
  exact fin_later (fin_bind k1) w1 fun ds z vs G2 H2 w2 r2 => z (v :: vs) G2 H2 (w1.trans w2) (.cons (r1.mono w2.ge) r2)
theorem b_nil : SAB X g m [] lNil := PA.imp pa_nil fun σ H Q ⟨r, G, si, k⟩ => k [] G H (Grow.refl si.gok) .nil
theorem b_cons (ha : SB X g m e fa) (hr : SAB X g m es fl) (hs : starEach (e :: es) X.env = (false, eval e X.env) :: starEach es X.env := by rfl) : SAB X g m (e :: es) (lCons fa fl) := by
  refine PA.imp (pa_cons ha hr hs) fun σ H Q ⟨r, G, si, k⟩ => ⟨r, G, si, fin_mono (fin_bind k) fun d k1 v G1 H1 w1 r1 => ⟨r, G1, si.grow w1, ?_⟩⟩
  exact fin_later (fin_bind k1) w1 fun ds z vs G2 H2 w2 r2 => z (v :: vs) G2 H2 (w1.trans w2) (.cons (r1.mono w2) r2)
noncomputable def sz (ds : List D) : Option (List D) := if ds.length ≤ sizeLine then some ds else none
theorem sz_of {ds ds' : List D} (h : sz ds = some ds') : ds' = ds ∧ ds.length ≤ sizeLine := by
  unfold sz at h; split at h
  · rename_i hl; cases h; exact ⟨rfl, hl⟩
  · cases h
theorem sz_ok {ds : List D} (h : ds.length ≤ sizeLine) : sz ds = some ds := if_pos h
noncomputable def mkT (fl : Rho → Res (List D)) : FE := fun r => (fl r).bind fun ds => (opt (sz ds)).bind fun ds => .ok (.tup ds)
noncomputable def mkL (fl : Rho → Res (List D)) : FE := fun r => (fl r).bind fun ds => (opt (sz ds)).bind fun ds => .ok (.lst ds)
theorem s_tup {x1} (h : SA X g m es fl) : SE X g m (.Tuple es x1 pos) (mkT fl) := by
  refine PE.imp (pe_tup h) fun σ H Q ⟨r, G, si, k⟩ => ⟨r, G, si, fin_mono (fin_bind k) fun ds k1 vs G1 H1 w1 r1 => ?_⟩
  obtain ⟨ds', e, k2⟩ := fin_opt (fin_bind k1)
  obtain ⟨rfl, hl⟩ := sz_of e
  have hlen := Paired.length r1
  refine ⟨by omega, fun p hp => ?_⟩
  exact k2 _ _ _ (w1.trans (Grow.newF (d := .tup ds') w1.ok hp (.tup (.inl upd_same) r1))) (.ref gset_same)
theorem o_lst (h : SA X g m es fl) : SO X g m (.List es pos) (mkL fl) := by
  refine PE.imp (pe_lst h) fun σ H Q ⟨r, G, si, k⟩ => ⟨r, G, si, fin_mono (fin_bind k) fun ds k1 vs G1 H1 w1 r1 => ?_⟩
  obtain ⟨ds', e, k2⟩ := fin_opt (fin_bind k1)
  obtain ⟨rfl, hl⟩ := sz_of e
  have hlen := Paired.length r1
  refine ⟨by omega, fun p hp => ?_⟩
  have hn : H p = none := by
    cases q : H p with
    | none => rfl
    | some o => rw [w1.he _ _ q] at hp; cases hp
  exact k2 p G1 _ (w1.trans (Grow.new w1.ok hp _)) hn ⟨w1.ok.isN hp, .lst upd_same r1⟩
end
end DL
end
section
set_option Elab.async false
set_option linter.all false
set_option maxRecDepth 100000
namespace DL
open PySem PySem.Spec PyProof.Rows L2
noncomputable def CallD (K : PySem.W.Frag) (r : List V → Hp → VK → Prop) (k : List D → Option D) : Prop := ∀ (G : GH) (H : Hp) (vs : List V) (ds : List D) (d : D) (Q : VK), GOk K G H → Paired (RB K G H) vs ds → k ds = some d →
  (∀ v G' H', Grow K G H G' H' → RG K G' v d → Q v H') → r vs H Q
noncomputable def CallO (K : PySem.W.Frag) (r : List V → Hp → VK → Prop) (k : List D → Option D) : Prop := ∀ (G : GH) (H : Hp) (vs : List V) (ds : List D) (d : D) (Q : VK), GOk K G H → Paired (RB K G H) vs ds → k ds = some d →
  (∀ a G' H', Grow K G H G' H' → H a = none → Own K G' H' a d → Q (.ref a) H') → r vs H Q
noncomputable def fC (fl : Rho → Res (List D)) (k : List D → Option D) : FE := fun r => (fl r).bind fun ds => opt (k ds)
theorem Grow.back {K : PySem.W.Frag} {G G1 : GH} {H H1 : Hp} (w : Grow K G H G1 H1) {a : Addr} (hn : H1 a = none) : H a = none := by
  cases q : H a with
  | none => rfl
  | some o => rw [w.he _ _ q] at hn; cases hn
section
variable {X : Cx} {g : GE} {m : List Md} {e a b c : Expr} {f fa fb fc : FE} {pos p p2 : Pos} {es : List Expr} {fl : Rho → Res (List D)} {x : Str} {id T : String} {R : List V → Hp → VK → Prop} {k : List D → Option D}
theorem s_cb (hk : CallD X.K R k) (h : PE X e (tCB R (tLB X g m fl))) : SE X g m e (fC fl k) := by
  refine PE.imp h fun σ H Q ⟨r, G, si, q⟩ => ⟨r, G, si, fin_mono (fin_bind q) fun ds q1 vs G1 H1 w1 r1 => ?_⟩
  obtain ⟨d, e, q2⟩ := fin_opt q1
  exact hk G1 H1 vs ds d Q w1.ok r1 e fun v G' H' w' z => q2 v G' H' (w1.trans w') z
theorem s_cbO (hk : CallO X.K R k) (h : PE X e (tCB R (tLB X g m fl))) : SO X g m e (fC fl k) := by
  refine PE.imp h fun σ H Q ⟨r, G, si, q⟩ => ⟨r, G, si, fin_mono (fin_bind q) fun ds q1 vs G1 H1 w1 r1 => ?_⟩
  obtain ⟨d, e, q2⟩ := fin_opt q1
  exact hk G1 H1 vs ds d Q w1.ok r1 e fun v G' H' w' hn z => q2 v G' H' (w1.trans w') (w1.back hn) z
noncomputable def lenD : List D → Option D
  | [.str y] => if y.length ≤ sizeLine then some (.int y.length) else none
  | [.lst ds] => some (.int ds.length)
  | [.tup ds] => some (.int ds.length)
  | [.dic kvs] => some (.int kvs.length)
  | _ => none
theorem len_ok {K : PySem.W.Frag} : CallD K (fun xs H Q => (∃ x n, xs = [x] ∧ LenV K x H n ∧ Q (.int n) H) ∨ ∃ a kvs, xs = [V.ref a] ∧ Rd H a (.dK kvs) ∧ Q (.int kvs.length) H) lenD := by
  intro G H vs ds d Q gk rs e q
  unfold lenD at e
  split at e
  · split at e
    · cases e
      cases rs with
      | cons r t => cases t; exact .inl ⟨_, _, rfl, by rw [r.str gk]; exact ⟨by assumption, rfl⟩, q _ G H (Grow.refl gk) (.scl (.int _))⟩
    · cases e
  · cases e
    cases rs with
    | cons r t =>
      cases t
      obtain ⟨a, xs, rfl, s, r⟩ := r.lst gk
      have := Paired.length r
      exact .inl ⟨_, _, rfl, .inl ⟨xs, s, rfl⟩, q _ G H (Grow.refl gk) (.scl (by rw [this]; exact .int _))⟩
  · cases e
    cases rs with
    | cons r t =>
      cases t
      obtain ⟨a, xs, rfl, s, r⟩ := r.tup gk
      have := Paired.length r
      exact .inl ⟨_, _, rfl, .inr ⟨xs, s, rfl⟩, q _ G H (Grow.refl gk) (.scl (by rw [this]; exact .int _))⟩
  · cases e
    cases rs with
    | cons r t =>
      cases t
      obtain ⟨a, xs, rfl, s, r⟩ := r.dic gk
      have := Paired.length r
      exact .inr ⟨_, _, rfl, s, q _ G H (Grow.refl gk) (.scl (by rw [this]; exact .int _))⟩
  · cases e
theorem s_len (hg : Gl X "len") (hm : X.mg "len" = none) (ha : SAB X g m (e :: es) fl) (he : starEach (e :: es) X.env = (false, eval e X.env) :: starEach es X.env := by rfl) (hpl : (backTo pos (starEach es X.env)).any (·.1) = false := by rfl) :
    SE X g m (.Call (.Name "len" p) (e :: es) [] pos) (fC fl lenD) := s_cb len_ok (pe_callB (CallR.or call_len call_lenD) hg hm PySem.boot_len ha (by decide) (by decide) he hpl)
noncomputable def listD : List D → Option D
  | [.lst ds] => some (.lst ds)
  | [.tup ds] => some (.lst ds)
  | _ => none
theorem list_ok {K : PySem.W.Frag} : CallO K (fun xs H Q => ∃ p ys, xs = [.ref p] ∧ (SqL K H p ys ∨ SqT K H p ys) ∧ ∀ l, H l = none → Q (.ref l) (upd H l (.lst ys))) listD := by
  intro G H vs ds d Q gk rs e q
  have fin : ∀ {ys : List V} {zs : List D}, RGs K G ys zs → (∀ (a : Addr) (G' : GH) (H' : Hp), Grow K G H G' H' → H a = none → Own K G' H' a (.lst zs) → Q (.ref a) H') → ∀ l, H l = none → Q (.ref l) (upd H l (.lst ys)) :=
    fun r q l hl => q l G _ (Grow.new gk hl _) hl ⟨gk.isN hl, .lst upd_same r⟩
  unfold listD at e
  split at e
  · cases e
    cases rs with
    | cons r t =>
      cases t
      obtain ⟨a, xs, rfl, s, r⟩ := r.lst gk
      exact ⟨a, xs, rfl, .inl s, fin r q⟩
  · cases e
    cases rs with
    | cons r t =>
      cases t
      obtain ⟨a, xs, rfl, s, r⟩ := r.tup gk
      exact ⟨a, xs, rfl, .inr s, fin r q⟩
  · cases e
theorem o_list (hg : Gl X "list") (hm : X.mg "list" = none) (ha : SAB X g m (e :: es) fl) (he : starEach (e :: es) X.env = (false, eval e X.env) :: starEach es X.env := by rfl) (hpl : (backTo pos (starEach es X.env)).any (·.1) = false := by rfl) :
    SO X g m (.Call (.Name "list" p) (e :: es) [] pos) (fC fl listD) := s_cbO list_ok (pe_callTy call_list_of hg hm rfl ha (by decide) (by decide) he hpl)
noncomputable def tupD : List D → Option D
  | [.lst ds] => some (.tup ds)
  | [.tup ds] => some (.tup ds)
  | _ => none
theorem tup_ok {K : PySem.W.Frag} : CallD K (fun xs H Q => ∃ p ys, xs = [.ref p] ∧ ((SqL K H p ys ∧ ∀ l, H l = none → Q (.ref l) (upd H l (.tup ys))) ∨ (SqT K H p ys ∧ Q (.ref p) H))) tupD := by
  intro G H vs ds d Q gk rs e q
  unfold tupD at e
  split at e
  · cases e
    cases rs with
    | cons r t =>
      cases t
      obtain ⟨a, xs, rfl, s, r⟩ := r.lst gk
      exact ⟨a, xs, rfl, .inl ⟨s, fun l hl => q _ _ _ (Grow.newF gk hl (.tup (.inl upd_same) r)) (.ref gset_same)⟩⟩
  · cases e
    cases rs with
    | cons r t =>
      cases t
      rcases r with r | ⟨a, _, o⟩
      · obtain ⟨a, xs, rfl, s, r'⟩ := r.tup gk
        exact ⟨a, xs, rfl, .inr ⟨s, q _ G H (Grow.refl gk) r⟩⟩
      · cases o.ob
  · cases e
theorem s_tuple (hg : Gl X "tuple") (hm : X.mg "tuple" = none) (ha : SAB X g m (e :: es) fl) (he : starEach (e :: es) X.env = (false, eval e X.env) :: starEach es X.env := by rfl) (hpl : (backTo pos (starEach es X.env)).any (·.1) = false := by rfl) :
    SE X g m (.Call (.Name "tuple" p) (e :: es) [] pos) (fC fl tupD) := s_cb tup_ok (pe_callTy call_tuple_of hg hm rfl ha (by decide) (by decide) he hpl)
noncomputable def ixD : D → D → Option D
  | .lst ds, .int i => atI ds i
  | .tup ds, .int i => atI ds i
  | .str z, .int i => if z.length ≤ sizeLine then (atI z.cps.toList i).map fun c => .str ⟨#[c]⟩ else none
  | _, _ => none
theorem atI_p {K : PySem.W.Frag} {G : GH} {xs : List V} {ds : List D} {i : Int} {d : D} (r : RGs K G xs ds) (h : atI ds i = some d) : ∃ v, atI xs i = some v ∧ RG K G v d := by
  unfold atI at h ⊢
  rw [Paired.length r]
  cases e : ixN ds.length i with
  | none => rw [e] at h; cases h
  | some j =>
    rw [e] at h
    exact Paired.get r h
theorem ix_ok {K : PySem.W.Frag} : OpD K (rIx K) ixD := by
  intro G H v1 v2 d1 d2 d Q gk r1 r2 e q
  unfold ixD at e
  split at e
  · obtain ⟨a, xs, rfl, s, r⟩ := r1.lst gk
    obtain ⟨v, ev, rv⟩ := atI_p r e
    exact .inl ⟨a, xs, _, v, rfl, r2.int gk, s, ev, q v G H (Grow.refl gk) rv⟩
  · obtain ⟨a, xs, rfl, s, r⟩ := r1.tup gk
    obtain ⟨v, ev, rv⟩ := atI_p r e
    exact .inr (.inl ⟨a, xs, _, v, rfl, r2.int gk, s, ev, q v G H (Grow.refl gk) rv⟩)
  · split at e
    · rename_i z i hz
      cases ec : atI z.cps.toList i with
      | none => rw [ec] at e; cases e
      | some c =>
        rw [ec] at e; cases e
        exact .inr (.inr ⟨z, i, c, r1.str gk, r2.int gk, hz, ec, q _ G H (Grow.refl gk) (.scl (.str _))⟩)
    · cases e
  · cases e
theorem PO.imp {X : Cx} {e : Option Expr} {t t' : TO} (h : PO X e t) (i : ∀ σ H Q, t' σ H Q → t σ H Q) : PO X e t' := fun pins s σ H Q I q => h pins s σ H Q I (i σ H Q q)
end
end DL
end
section
set_option Elab.async false
set_option linter.all false
set_option maxRecDepth 100000
namespace DL
open PySem PySem.Spec PyProof.Rows L2
inductive Out where
  | nx (r : Rho) | rt (d : D) | bk (r : Rho) | ct (r : Rho) | exc (x : D) (r : Rho) | stuck
noncomputable abbrev FS := Rho → Out
noncomputable def Gle (G G' : GH) : Prop := ∀ a d, G a = some d → G' a = some d
theorem Gle.refl (G : GH) : Gle G G := fun _ _ e => e
theorem Gle.trans {G G1 G2 : GH} (a : Gle G G1) (b : Gle G1 G2) : Gle G G2 := fun x d e => b x d (a x d e)
noncomputable def forget (m : List Md) (r : Rho) : Rho := List.zipWith (fun md o => if md = Md.sh then o else none) m r
noncomputable def allsh (m : List Md) : List Md := m.map fun _ => Md.sh
theorem forget_get {m : List Md} {r : Rho} {i : Nat} {d : D} (h : (forget m r)[i]? = some (some d)) : r[i]? = some (some d) ∧ m[i]? = some .sh := by
  unfold forget at h
  rw [List.getElem?_zipWith] at h
  cases e1 : m[i]? with
  | none => rw [e1] at h; cases h
  | some md =>
    cases e2 : r[i]? with
    | none => rw [e1, e2] at h; cases h
    | some o =>
      rw [e1, e2] at h
      have h' : (if md = Md.sh then o else none) = some d := Option.some.inj h
      split at h'
      · rename_i hm; subst hm; rw [h']; exact ⟨rfl, rfl⟩
      · cases h'
section
variable {X : Cx} {g : GE} {m : List Md} {r : Rho} {G : GH} {st : L2.St} {H : Hp}
theorem SI.forget (s : SI X g m r G st H) : SI X g (allsh m) (forget m r) G st H where
  gok := s.gok
  old := s.old
  ge := s.ge
  gf := s.gf
  lm := by rw [allsh, List.length_map]; exact s.lm
  lr := by rw [DL.forget, List.length_zipWith, s.lm, s.lr, Nat.min_self]
  sh := fun i d h _ => s.sh i d (forget_get h).1 (forget_get h).2
  ow := fun i d h hm => by rw [allsh, List.getElem?_map, (forget_get h).2] at hm; cases hm
  bw := fun i d h hm => by rw [allsh, List.getElem?_map, (forget_get h).2] at hm; cases hm
  dis := fun i j a d e _ h _ hm => by rw [allsh, List.getElem?_map, (forget_get h).2] at hm; cases hm
  lk := fun i o _ hm => by rw [allsh, List.getElem?_map] at hm; cases q : m[i]? <;> rw [q] at hm <;> cases hm
theorem SI.set (s : SI X g m r G st H) (i : Nat) {v : V} {d : D} (hv : RG X.K G v d) : SI X g (m.set i .sh) (r.set i (some d)) G (st.set i (some v)) H where
  gok := s.gok
  old := s.old
  ge := s.ge
  gf := s.gf
  lm := by simp [s.lm]
  lr := by simp [s.lr]
  sh := fun j e h hm => by
    by_cases hij : i = j
    · subst hij
      have hl : i < r.length := by
        have := (List.getElem?_eq_some_iff.mp h).1
        simpa using this
      rw [List.getElem?_set_self hl] at h
      cases h
      exact ⟨v, by rw [List.getElem?_set_self (by rw [← s.lr]; exact hl)], hv⟩
    · rw [List.getElem?_set_ne hij] at h hm
      rw [List.getElem?_set_ne hij]
      exact s.sh j e h hm
  ow := fun j e h hm => by
    by_cases hij : i = j
    · subst hij
      have hl : i < m.length := by
        have := (List.getElem?_eq_some_iff.mp hm).1
        simpa using this
      rw [List.getElem?_set_self hl] at hm; cases hm
    · rw [List.getElem?_set_ne hij] at h hm
      rw [List.getElem?_set_ne hij]
      exact s.ow j e h hm
  bw := fun j e h hm => by
    by_cases hij : i = j
    · subst hij
      have hl : i < m.length := by
        have := (List.getElem?_eq_some_iff.mp hm).1
        simpa using this
      rw [List.getElem?_set_self hl] at hm; cases hm
    · rw [List.getElem?_set_ne hij] at h hm
      rw [List.getElem?_set_ne hij]
      exact s.bw j e h hm
  dis := fun j k a d1 d2 hjk h1 h2 hm hm' q1 q2 => by
    have hij : i ≠ j := by
      rintro rfl
      have hl : i < m.length := by
        have := (List.getElem?_eq_some_iff.mp hm).1
        simpa using this
      rw [List.getElem?_set_self hl] at hm; cases hm
    have hik : i ≠ k := by
      rintro rfl
      have hl : i < m.length := by
        have := (List.getElem?_eq_some_iff.mp h2).1
        rw [List.length_set, s.lr, ← s.lm] at this; exact this
      rw [List.getElem?_set_self hl] at hm'; cases hm'
    rw [List.getElem?_set_ne hij] at h1 hm q1
    rw [List.getElem?_set_ne hik] at h2 hm' q2
    exact s.dis j k a d1 d2 hjk h1 h2 hm hm' q1 q2
  lk := fun j o hj hm => by
    have hij : i ≠ j := by
      rintro rfl
      have hl : i < m.length := by
        have := (List.getElem?_eq_some_iff.mp hm).1
        simpa using this
      rw [List.getElem?_set_self hl] at hm; cases hm
    rw [List.getElem?_set_ne hij] at hm
    have := s.lk j o hj hm
    exact ⟨by rw [List.getElem?_set_ne hij]; exact this.1, fun d h => this.2 d (by rw [List.getElem?_set_ne hij] at h; exact h)⟩
theorem SI.setO (s : SI X g m r G st H) (i : Nat) {a : Addr} {d : D} (ho : Own X.K G H a d) (h0 : g.h0 a = none) (hx : ∀ (j : Nat) (b : Addr) (e : D), r[j]? = some (some e) → m[j]? = some Md.ow → st[j]? = some (some (V.ref b)) → b ≠ a) :
    SI X g (m.set i .ow) (r.set i (some d)) G (st.set i (some (V.ref a))) H where
  gok := s.gok
  old := s.old
  ge := s.ge
  gf := s.gf
  lm := by simp [s.lm]
  lr := by simp [s.lr]
  sh := fun j e h hm => by
    by_cases hij : i = j
    · subst hij
      have hl : i < m.length := by
        have := (List.getElem?_eq_some_iff.mp hm).1
        simpa using this
      rw [List.getElem?_set_self hl] at hm; cases hm
    · rw [List.getElem?_set_ne hij] at h hm
      rw [List.getElem?_set_ne hij]
      exact s.sh j e h hm
  ow := fun j e h hm => by
    by_cases hij : i = j
    · subst hij
      have hl : i < r.length := by
        have := (List.getElem?_eq_some_iff.mp h).1
        simpa using this
      rw [List.getElem?_set_self hl] at h
      cases h
      exact ⟨a, by rw [List.getElem?_set_self (by rw [← s.lr]; exact hl)], ho, h0⟩
    · rw [List.getElem?_set_ne hij] at h hm
      rw [List.getElem?_set_ne hij]
      exact s.ow j e h hm
  bw := fun j e h hm => by
    by_cases hij : i = j
    · subst hij
      have hl : i < m.length := by
        have := (List.getElem?_eq_some_iff.mp hm).1
        simpa using this
      rw [List.getElem?_set_self hl] at hm; cases hm
    · rw [List.getElem?_set_ne hij] at h hm
      rw [List.getElem?_set_ne hij]
      exact s.bw j e h hm
  dis := fun j k b d1 d2 hjk h1 h2 hm hm' q1 q2 => by
    by_cases hij : i = j
    · subst hij
      rw [List.getElem?_set_ne hjk] at h2 hm' q2
      have hl : i < st.length := by
        have := (List.getElem?_eq_some_iff.mp q1).1
        simpa using this
      rw [List.getElem?_set_self hl] at q1
      have e : a = b := by injection q1 with q1; injection q1 with q1; injection q1
      exact hx k b d2 h2 hm' q2 e.symm
    · by_cases hik : i = k
      · subst hik
        rw [List.getElem?_set_ne hij] at h1 hm q1
        have hl : i < st.length := by
          have := (List.getElem?_eq_some_iff.mp q2).1
          simpa using this
        rw [List.getElem?_set_self hl] at q2
        have e : a = b := by injection q2 with q2; injection q2 with q2; injection q2
        exact hx j b d1 h1 hm q1 e.symm
      · rw [List.getElem?_set_ne hij] at h1 hm q1
        rw [List.getElem?_set_ne hik] at h2 hm' q2
        exact s.dis j k b d1 d2 hjk h1 h2 hm hm' q1 q2
  lk := fun j o hj hm => by
    have hij : i ≠ j := by
      rintro rfl
      have hl : i < m.length := by
        have := (List.getElem?_eq_some_iff.mp hm).1
        simpa using this
      rw [List.getElem?_set_self hl] at hm; cases hm
    rw [List.getElem?_set_ne hij] at hm
    have := s.lk j o hj hm
    exact ⟨by rw [List.getElem?_set_ne hij]; exact this.1, fun d h => this.2 d (by rw [List.getElem?_set_ne hij] at h; exact h)⟩
theorem SI.other (s : SI X g m r G st H) {p : Addr} (hp : G p = none) (h0 : g.h0 p = none) (hm : ∀ (i : Nat), m[i]? ≠ some Md.ow) (o : HO) : SI X g m r G st (upd H p o) where
  gok := fun b e h => (s.gok b e h).mono (fun _ _ z => z) fun o' q => by rw [upd_ne (by rintro rfl; rw [hp] at h; cases h)]; exact q
  old := fun b o' h => by rw [upd_ne (by rintro rfl; rw [h0] at h; cases h)]; exact s.old b o' h
  ge := s.ge
  gf := s.gf
  lm := s.lm
  lr := s.lr
  sh := s.sh
  ow := fun i d _ h => absurd h (hm i)
  bw := fun i d h1 h2 => by
    obtain ⟨v, h3, h4⟩ := s.bw i d h1 h2
    refine ⟨v, h3, ?_⟩
    rcases h4 with h4 | ⟨a, rfl, h4, h5⟩
    · exact .inl h4
    · have ha : a ≠ p := by rintro rfl; exact h5 h0
      exact .inr ⟨a, rfl, ⟨h4.un, h4.ob.mono (fun _ _ z => z) fun o' z => by rw [upd_ne ha]; exact z⟩, h5⟩
  dis := fun i j a d e _ _ _ h => absurd h (hm i)
  lk := s.lk
theorem SI.less (s : SI X g m r G st H) {r' : Rho} (hl : r'.length = r.length) (h : ∀ (i : Nat) d, r'[i]? = some (some d) → r[i]? = some (some d)) : SI X g m r' G st H :=
  ⟨s.gok, s.old, s.ge, s.gf, s.lm, hl.trans s.lr, fun i d a b => s.sh i d (h i d a) b, fun i d a b => s.ow i d (h i d a) b, fun i d a b => s.bw i d (h i d a) b, fun i j a d e n p q x y => s.dis i j a d e n (h i d p) (h j e q) x y, fun i o hi hm => by
    have := s.lk i o hi hm
    exact ⟨this.1, fun d hd => this.2 d (h i d hd)⟩⟩
theorem SI.held (s : SI X g m r G st H) {j : Nat} {b : Addr} {e : D} (h : r[j]? = some (some e)) (hm : m[j]? = some .ow) (hs : st[j]? = some (some (V.ref b))) : H b ≠ none := by
  obtain ⟨a, h1, h2, _⟩ := s.ow j e h hm
  rw [hs] at h1
  injection h1 with h1; injection h1 with h1; injection h1 with h1
  rw [h1]; exact h2.ob.isS
theorem SI.new (s : SI X g m r G st H) {a : Addr} (hn : H a = none) : g.h0 a = none := by
  cases q : g.h0 a with
  | none => rfl
  | some o => rw [s.old _ _ q] at hn; cases hn
theorem SI.setN (s : SI X g m r G st H) {G' : GH} {H' : Hp} (w : Grow X.K G H G' H') (i : Nat) {a : Addr} {d : D} (hn : H a = none) (ho : Own X.K G' H' a d) : SI X g (m.set i .ow) (r.set i (some d)) G' (st.set i (some (V.ref a))) H' := by
  refine (s.grow w).setO i ho ?_ fun j b e h1 h2 h3 => ?_
  · cases q : g.h0 a with
    | none => rfl
    | some o => rw [s.old _ _ q] at hn; cases hn
  · rintro rfl
    exact s.held h1 h2 h3 hn
theorem SI.mut (s : SI X g m r G st H) {i : Nat} {d : D} (hm : m[i]? = some .ow) (hd : r[i]? = some (some d)) :
    ∃ a, st[i]? = some (some (V.ref a)) ∧ Own X.K G H a d ∧ ∀ (o' : HO) (d' : D), OwnO X.K G (upd H a o') a d' → SI X g m (r.set i (some d')) G st (upd H a o') := by
  obtain ⟨a, h1, h2, h3⟩ := s.ow i d hd hm
  have hl : i < r.length := (List.getElem?_eq_some_iff.mp hd).1
  refine ⟨a, h1, h2, fun o' d' ob => ?_⟩
  have oth : ∀ (j : Nat) (b : Addr) (e : D), j ≠ i → r[j]? = some (some e) → m[j]? = some .ow → st[j]? = some (some (V.ref b)) → b ≠ a := fun j b e hj q1 q2 q3 z => by
    subst z
    exact s.dis i j b d e (Ne.symm hj) hd q1 hm q2 h1 q3
  refine ⟨fun b e h => ?_, fun b o h => ?_, s.ge, s.gf, s.lm, by simp [s.lr], ?_, ?_, ?_, ?_, fun j o hj hm' => ?_⟩
  · have hb : b ≠ a := by rintro rfl; rw [h2.un] at h; cases h
    exact (s.gok b e h).mono (fun _ _ z => z) fun o q => by rw [upd_ne hb]; exact q
  · have hb : b ≠ a := by rintro rfl; rw [h3] at h; cases h
    rw [upd_ne hb]; exact s.old b o h
  · intro j e h hm'
    have hij : i ≠ j := by rintro rfl; rw [hm] at hm'; cases hm'
    rw [List.getElem?_set_ne hij] at h
    exact s.sh j e h hm'
  · intro j e h hm'
    by_cases hij : i = j
    · subst hij
      rw [List.getElem?_set_self hl] at h; cases h
      exact ⟨a, h1, ⟨h2.un, ob⟩, h3⟩
    · rw [List.getElem?_set_ne hij] at h
      obtain ⟨b, q1, q2, q3⟩ := s.ow j e h hm'
      have hb := oth j b e (Ne.symm hij) h hm' q1
      exact ⟨b, q1, ⟨q2.un, q2.ob.mono (fun _ _ z => z) fun o z => by rw [upd_ne hb]; exact z⟩, q3⟩
  · intro j e h hm'
    have hij : i ≠ j := by rintro rfl; rw [hm] at hm'; cases hm'
    rw [List.getElem?_set_ne hij] at h
    obtain ⟨v, q1, q2⟩ := s.bw j e h hm'
    refine ⟨v, q1, ?_⟩
    rcases q2 with q2 | ⟨b, rfl, q2, q3⟩
    · exact .inl q2
    · have hb : b ≠ a := by rintro rfl; exact q3 h3
      exact .inr ⟨b, rfl, ⟨q2.un, q2.ob.mono (fun _ _ z => z) fun o z => by rw [upd_ne hb]; exact z⟩, q3⟩
  · have bound : ∀ (j : Nat) e, (r.set i (some d'))[j]? = some (some e) → ∃ e', r[j]? = some (some e') := fun j e h => by
      by_cases hij : i = j
      · subst hij; exact ⟨d, hd⟩
      · rw [List.getElem?_set_ne hij] at h; exact ⟨e, h⟩
    intro j k b d1 d2 hjk q1 q2 p1 p2 z1 z2
    obtain ⟨e1, q1⟩ := bound j d1 q1
    obtain ⟨e2, q2⟩ := bound k d2 q2
    exact s.dis j k b e1 e2 hjk q1 q2 p1 p2 z1 z2
  · have hij : i ≠ j := by rintro rfl; rw [hm] at hm'; cases hm'
    have := s.lk j o hj hm'
    exact ⟨this.1, fun d'' h => this.2 d'' (by rw [List.getElem?_set_ne hij] at h; exact h)⟩
end
noncomputable def RV (ro : Bool) (K : PySem.W.Frag) (H0 : Hp) (G : GH) (H : Hp) (v : V) (d : D) : Prop := match ro with
  | false => RG K G v d
  | true => (∃ a, v = .ref a ∧ H0 a = none ∧ Own K G H a d) ∨ (d = .non ∧ v = .non)
noncomputable def oTo (X : Cx) (g : GE) (ro : Bool) (m' mb : List Md) (G : GH) (D : Ends) : Out → Prop
  | .nx r' => ∀ σ' G' H', Gle G G' → SI X g m' r' G' σ' H' → D.nx σ' H'
  | .rt d => ∀ v G' H', Grow X.K g.gh g.h0 G' H' → RV ro X.K g.h0 G' H' v d → D.rt v H'
  | .bk r' => ∀ σ' G' H', Gle G G' → SI X g mb r' G' σ' H' → D.bk σ' H'
  | .ct r' => ∀ σ' G' H', Gle G G' → SI X g mb r' G' σ' H' → D.ct σ' H'
  | .exc x r' => ∀ pins e s' σ' G' H', Gle G G' → SI X g (allsh m') r' G' σ' H' → Inv X pins σ' H' s' → ExV X G' H' e x → X.xe e s'
  | .stuck => False
noncomputable def tS (X : Cx) (g : GE) (ro : Bool) (m m' mb : List Md) (f : FS) : TS := fun D σ H => ∃ r G, SI X g m r G σ H ∧ oTo X g ro m' mb G D (f r)
noncomputable def SS (X : Cx) (g : GE) (ro : Bool) (mb m : List Md) (st : Stmt) (f : FS) (m' : List Md) : Prop := m'.length = m.length ∧ PS X st (tS X g ro m m' mb f)
noncomputable def SSs (X : Cx) (g : GE) (ro : Bool) (mb m : List Md) (st : List Stmt) (f : FS) (m' : List Md) : Prop := m'.length = m.length ∧ PSs X st (tS X g ro m m' mb f)
theorem allsh_len {m m' : List Md} (h : m'.length = m.length) : allsh m' = allsh m := by
  unfold allsh
  rw [List.map_const', List.map_const', h]
theorem oTo.x {X : Cx} {g : GE} {ro : Bool} {m m' mb : List Md} {r : Rho} {G : GH} {D : Ends} {σ : L2.St} {H : Hp} {x : DL.D} (h : oTo X g ro m' mb G D (.exc x (forget m r))) (si : SI X g m r G σ H) (hl : m'.length = m.length) : XW X σ G H x :=
  fun pins e s' G' H' w I ex => h pins e s' σ G' H' w.ge (by rw [allsh_len hl]; exact (si.grow w).forget) I ex
section
variable {X : Cx} {g : GE} {ro : Bool} {m m' m1 mb : List Md} {e a b c tg : Expr} {f fa fb fc : FE} {p : FQ} {pos pos' : Pos} {st : Stmt} {sts sts' : List Stmt} {s1 s2 : FS}
theorem oTo.gle {G G1 : GH} {D : Ends} {o : Out} (h : oTo X g ro m' mb G D o) (w : Gle G G1) : oTo X g ro m' mb G1 D o := by
  cases o with
  | nx r' => exact fun σ' G' H' q si => h σ' G' H' (w.trans q) si
  | rt d => exact h
  | bk r' => exact fun σ' G' H' q si => h σ' G' H' (w.trans q) si
  | ct r' => exact fun σ' G' H' q si => h σ' G' H' (w.trans q) si
  | exc x r' => exact fun pins e s' σ' G' H' q => h pins e s' σ' G' H' (w.trans q)
  | stuck => exact h
noncomputable def seqF (s1 s2 : FS) : FS := fun r => match s1 r with
  | .nx r' => s2 r'
  | o => o
noncomputable def skipF : FS := fun r => .nx r
theorem ss_nil : SSs X g ro mb m [] skipF m := ⟨rfl, PSs.imp pss_nil fun D σ H ⟨r, G, si, q⟩ => q σ G H (Gle.refl G) si⟩
theorem ss_cons (h1 : SS X g ro mb m st s1 m1) (h2 : SSs X g ro mb m1 sts s2 m') : SSs X g ro mb m (st :: sts) (seqF s1 s2) m' := by
  refine ⟨h2.1.trans h1.1, PSs.imp (pss_cons h1.2 h2.2) fun D σ H ⟨r, G, si, q⟩ => ⟨r, G, si, ?_⟩⟩
  unfold seqF at q
  cases e : s1 r with
  | nx r' =>
    rw [e] at q
    exact fun σ' G' H' w si' => ⟨r', G', si', oTo.gle q w⟩
  | rt d => rw [e] at q; exact q
  | bk r' => rw [e] at q; exact q
  | ct r' => rw [e] at q; exact q
  | exc x r' => rw [e] at q; exact fun pins e s' σ' G' H' w si' => q pins e s' σ' G' H' w (by rw [allsh_len h2.1]; exact si')
  | stuck => rw [e] at q; exact q
theorem s_never : SS X g ro mb m st (fun _ => .stuck) m := ⟨rfl, PS.imp ps_never fun D σ H ⟨r, G, si, q⟩ => q⟩
theorem s_frz (i : Nat) (hi : m[i]? = some .ow) (h : SS X g ro mb (m.set i .sh) st s1 m') : SS X g ro mb m st s1 m' := by
  refine ⟨h.1.trans (by simp), fun pins s σ H D I ⟨r, G, si, q⟩ => ?_⟩
  rcases si.frz i hi with ⟨G', le, si'⟩ | ⟨a, z⟩
  · exact h.2 pins s σ H D I ⟨r, G', si', oTo.gle q le⟩
  · obtain ⟨ob, I2⟩ := Inv.fast I a
    obtain ⟨G', le, si'⟩ := z ob
    exact h.2 pins s σ _ D I2 ⟨r, G', si', oTo.gle q le⟩
noncomputable def onE {α : Type} (m : List Md) (r : Rho) (x : Res α) (k : α → Out) : Out := match x with
  | .ok a => k a
  | .exc e => .exc e (forget m r)
  | .stuck => .stuck
@[simp] theorem onE_ok {α : Type} (m : List Md) (r : Rho) (a : α) (k : α → Out) : onE m r (.ok a) k = k a := rfl
theorem onE_fin {α : Type} {x : Res α} {k : α → Out} {r : Rho} {G : GH} {D : Ends} {σ : L2.St} {H : Hp} (si : SI X g m r G σ H) (hl : m'.length = m.length) (h : oTo X g ro m' mb G D (onE m r x k)) : fin x (fun a => oTo X g ro m' mb G D (k a)) (XW X σ G H) := by
  cases x with
  | ok a => exact h
  | exc e => exact oTo.x h si hl
  | stuck => exact h
noncomputable def setF (m : List Md) (i : Nat) (f : FE) : FS := fun r => onE m r (f r) fun d => .nx (r.set i (some d))
theorem s_set (i : Nat) {x : Str} (hN : X.N.Nodup) (hi : X.N[i]? = some x) (hx : Loc X.env.scope x) (he : SE X g m e f) (hs : swapsWith e (some (.Name x pos')) pos.line X.env = pure false := by rfl)
    (hf : X.fn x = true ∨ X.env.scope.names.lookup x = some .local := by first | exact .inl rfl | exact .inr rfl | assumption) : SS X g ro mb m (.Assign [.Name x pos'] e pos) (setF m i f) (m.set i .sh) := by
  have hl : (m.set i .sh).length = m.length := by simp
  refine ⟨hl, PS.imp (ps_set hN hi hx he hs hf) fun D σ H ⟨r, G, si, q⟩ => ⟨r, G, si, ?_⟩⟩
  exact fin_mono (onE_fin si hl q) fun d q v G' H' w rv => q _ G' H' w.ge ((si.grow w).set i rv)
theorem s_setO (i : Nat) {x : Str} (hN : X.N.Nodup) (hi : X.N[i]? = some x) (hx : Loc X.env.scope x) (he : SO X g m e f) (hs : swapsWith e (some (.Name x pos')) pos.line X.env = pure false := by rfl)
    (hf : X.fn x = true ∨ X.env.scope.names.lookup x = some .local := by first | exact .inl rfl | exact .inr rfl | assumption) : SS X g ro mb m (.Assign [.Name x pos'] e pos) (setF m i f) (m.set i .ow) := by
  have hl : (m.set i .ow).length = m.length := by simp
  refine ⟨hl, PS.imp (ps_set hN hi hx he hs hf) fun D σ H ⟨r, G, si, q⟩ => ⟨r, G, si, ?_⟩⟩
  exact fin_mono (onE_fin si hl q) fun d q a G' H' w hn ho => q _ G' H' w.ge (si.setN w i hn ho)
noncomputable def retF (m : List Md) (f : FE) : FS := fun r => onE m r (f r) fun d => .rt d
theorem s_ret (he : SE X g m e f) : SS X g false mb m (.Return (some e) pos) (retF m f) m :=
  ⟨rfl, PS.imp (ps_ret he) fun D σ H ⟨r, G, si, q⟩ => ⟨r, G, si, fin_mono (onE_fin si rfl q) fun d q v G' H' w rv => q v G' H' (si.grow w).grown rv⟩⟩
noncomputable def ifF (m : List Md) (p : FQ) (s1 s2 : FS) : FS := fun r => onE m r (p r) fun c => if c = true then s1 r else s2 r
theorem s_if (hc : SQ X g m c p) (h1 : SSs X g ro mb m sts s1 m') (h2 : SSs X g ro mb m sts' s2 m') : SS X g ro mb m (.If c sts sts' pos) (ifF m p s1 s2) m' := by
  refine ⟨h1.1, PS.imp (ps_if hc h1.2 h2.2) fun D σ H ⟨r, G, si, q⟩ => ⟨r, G, si, fin_mono (onE_fin si h1.1 q) fun c q G' H' w => ?_⟩⟩
  cases c with
  | true => rw [if_pos rfl] at q ⊢; exact ⟨r, G', si.grow w, oTo.gle q w.ge⟩
  | false => rw [if_neg Bool.false_ne_true] at q ⊢; exact ⟨r, G', si.grow w, oTo.gle q w.ge⟩
theorem ss_frzEnd (i : Nat) (h : SSs X g ro mb m sts s1 m') (hi : m'[i]? = some .ow) : SSs X g ro mb m sts s1 (m'.set i .sh) := by
  refine ⟨by simp [h.1], fun pins s σ H D I ⟨r, G, si, q⟩ => ?_⟩
  refine thn (h.2 pins s σ H ⟨fun σ' H' => D.nx σ' H' ∨ ∃ a, ∀ ob, D.nx σ' (fz H' a ob), D.rt, D.bk, D.ct⟩ I ⟨r, G, si, ?_⟩) fun f s' p => ?_
  · cases e : s1 r with
    | nx r' =>
      rw [e] at q
      intro σ' G' H' w si'
      rcases si'.frz i hi with ⟨G2, le, si2⟩ | ⟨a, z⟩
      · exact .inl (q σ' G2 H' (w.trans le) si2)
      · refine .inr ⟨a, fun ob => ?_⟩
        obtain ⟨G2, le, si2⟩ := z ob
        exact q σ' G2 _ (w.trans le) si2
    | rt d => rw [e] at q; exact q
    | bk r' => rw [e] at q; exact q
    | ct r' => rw [e] at q; exact q
    | exc x r' => rw [e] at q; exact fun pins e s' σ' G' H' w si' => q pins e s' σ' G' H' w (by rw [allsh_len (m := m') (by simp)]; exact si')
    | stuck => rw [e] at q; exact q
  · cases f with
    | next =>
      obtain ⟨σ', H', I', z | ⟨a, z⟩⟩ := p
      · exact ⟨σ', H', I', z⟩
      · obtain ⟨ob, I2⟩ := Inv.fast I' a
        exact ⟨σ', _, I2, z ob⟩
    | brk => exact p
    | cont => exact p
    | ret u => exact p
end
end DL
end
section
set_option Elab.async false
set_option linter.all false
set_option maxRecDepth 100000
namespace DL
open PySem PySem.Spec PyProof.Rows L2
noncomputable abbrev FT := D → Rho → Option Rho
noncomputable abbrev FTs := List D → Rho → Option Rho
noncomputable def tG (X : Cx) (g : GE) (m m' : List Md) (ft : FT) : TG := fun v σ H Q => ∃ r G d, SI X g m r G σ H ∧ RG X.K G v d ∧ ∃ r', ft d r = some r' ∧ ∀ σ', SI X g m' r' G σ' H → Q σ' H
noncomputable def tGs (X : Cx) (g : GE) (m m' : List Md) (ft : FTs) : TGs := fun vs σ H Q => ∃ r G ds, SI X g m r G σ H ∧ RGs X.K G vs ds ∧ ∃ r', ft ds r = some r' ∧ ∀ σ', SI X g m' r' G σ' H → Q σ' H
theorem PG.imp {X : Cx} {e : Expr} {t t' : TG} (h : PG X e t) (i : ∀ v σ H Q, t' v σ H Q → t v σ H Q) : PG X e t' := fun pins s σ H v u Q I r q => h pins s σ H v u Q I r (i v σ H Q q)
theorem PGs.imp {X : Cx} {e : List Expr} {t t' : TGs} (h : PGs X e t) (i : ∀ v σ H Q, t' v σ H Q → t v σ H Q) : PGs X e t' := fun pins s σ H v u Q I r q => h pins s σ H v u Q I r (i v σ H Q q)
noncomputable def SG (X : Cx) (g : GE) (m : List Md) (tg : Expr) (ft : FT) (m' : List Md) : Prop := m'.length = m.length ∧ PG X tg (tG X g m m' ft)
structure SGs (X : Cx) (g : GE) (m : List Md) (ts : List Expr) (n : Nat) (ft : FTs) (m' : List Md) : Prop where
  ml : m'.length = m.length
  ln : ∀ ds r r', ft ds r = some r' → ds.length = n
  pg : PGs X ts (tGs X g m m' ft)
noncomputable def ftN (i : Nat) : FT := fun d r => some (r.set i (some d))
noncomputable def ftT (ft : FTs) : FT := fun d r => match d with
  | .tup ds => ft ds r
  | _ => none
noncomputable def ftNil : FTs := fun ds r => match ds with
  | [] => some r
  | _ => none
noncomputable def ftCons (ft : FT) (fts : FTs) : FTs := fun ds r => match ds with
  | [] => none
  | d :: ds => (ft d r).bind fun r' => fts ds r'
section
variable {X : Cx} {g : GE} {m m' m1 : List Md} {tg : Expr} {ts : List Expr} {ft : FT} {fts : FTs} {pos : Pos} {n : Nat}
theorem g_name (i : Nat) {x : Str} (hN : X.N.Nodup) (hi : X.N[i]? = some x) (hx : Loc X.env.scope x) (hf : X.fn x = true ∨ X.env.scope.names.lookup x = some .local := by first | exact .inl rfl | exact .inr rfl | assumption) :
    SG X g m (.Name x pos) (ftN i) (m.set i .sh) :=
  ⟨by simp, PG.imp (pg_name hN hi hx hf) fun v σ H Q ⟨r, G, d, si, rv, r', e, k⟩ => by cases e; exact k _ (si.set i rv)⟩
theorem g_nil : SGs X g m [] 0 ftNil m := by
  refine ⟨rfl, fun ds r r' e => ?_, PGs.imp pgs_nil fun v σ H Q ⟨r, G, ds, si, rv, r', e, k⟩ => ?_⟩
  · cases ds with
    | nil => rfl
    | cons _ _ => cases e
  · cases rv with
    | nil => cases e; exact ⟨rfl, k σ si⟩
    | cons _ _ => cases e
theorem g_cons (h1 : SG X g m tg ft m1) (h2 : SGs X g m1 ts n fts m') (hs : (assignEach (tg :: ts) X.env).map (·.2) = assign tg X.env :: (assignEach ts X.env).map (·.2) := by rfl) : SGs X g m (tg :: ts) (n + 1) (ftCons ft fts) m' := by
  refine ⟨h2.ml.trans h1.1, fun ds r r' e => ?_, PGs.imp (pgs_cons h1.2 h2.pg hs) fun v σ H Q ⟨r, G, ds, si, rv, r', e, k⟩ => ?_⟩
  · cases ds with
    | nil => cases e
    | cons d ds =>
      have e' : ((ft d r).bind fun r' => fts ds r') = some r' := e
      cases q : ft d r with
      | none => rw [q] at e'; cases e'
      | some r1 =>
        rw [q] at e'
        have := h2.ln ds r1 r' e'
        simp [this]
  · cases rv with
    | nil => cases e
    | @cons v0 d vs ds rv rs =>
      have e' : ((ft d r).bind fun r' => fts ds r') = some r' := e
      cases q : ft d r with
      | none => rw [q] at e'; cases e'
      | some r1 =>
        rw [q] at e'
        exact ⟨_, _, rfl, r, G, d, si, rv, r1, q, fun σ' si' => ⟨r1, G, ds, si', rs, r', e', k⟩⟩
theorem g_tup {k : Nat} (hc : X.calm = true) (h : SGs X g m ts n fts m') (hn : (assignEach ts X.env).length = n := by rfl) (hst : (assignEach ts X.env).findIdx? (·.1) = none := by rfl) : SG X g m (.Tuple ts k pos) (ftT fts) m' := by
  refine ⟨h.ml, PG.imp (pg_tup hc h.pg hn hst) fun v σ H Q ⟨r, G, d, si, rv, r', e, k⟩ => ?_⟩
  cases d with
  | tup ds =>
    obtain ⟨a, xs, rfl, s, rs⟩ := rv.tup si.gok
    exact ⟨a, xs, rfl, s, (Paired.length rs).trans (h.ln ds r r' e), r, G, ds, si, rs, r', e, k⟩
  | _ => cases e
end
structure Yields (K : PySem.W.Frag) (J : It) (ds : List D) (G0 : GH) : Prop where
  go : ∀ G H (i : Nat), Gle G0 G → GOk K G H → i < ds.length → J.go i H
  yld : ∀ G H (i : Nat) x H' d, Gle G0 G → GOk K G H → J.yld i H x H' → ds[i]? = some d → ∃ G', Grow K G H G' H' ∧ RG K G' x d
  stop : ∀ G H, Gle G0 G → GOk K G H → J.stop ds.length H
noncomputable abbrev FI := Rho → Res (List D)
noncomputable def tI (X : Cx) (g : GE) (m : List Md) (f : FI) : TI := fun σ H R => ∃ r G, SI X g m r G σ H ∧ fin (f r) (fun ds => ∀ J G' H', Grow X.K G H G' H' → Yields X.K J ds G' → R J H') (XW X σ G H)
noncomputable def SIt (X : Cx) (g : GE) (m : List Md) (tg iter : Expr) (f : FI) : Prop := PI X tg iter (tI X g m f)
theorem PI.imp {X : Cx} {tg e : Expr} {t t' : TI} (h : PI X tg e t) (i : ∀ σ H Q, t' σ H Q → t σ H Q) : PI X tg e t' := fun pins s σ H R I q => h pins s σ H R I (i σ H R q)
theorem yl_list {K : PySem.W.Frag} {a : Addr} {ds : List D} {G0 : GH} (h0 : RG K G0 (.ref a) (.lst ds)) : Yields K (Itl K a) ds G0 := by
  have at_ : ∀ G H, Gle G0 G → GOk K G H → ∃ xs, SqL K H a xs ∧ RGs K G xs ds := fun G H w gk => by
    obtain ⟨b, xs, e, s, r⟩ := (h0.mono w).lst gk
    cases e
    exact ⟨xs, s, r⟩
  refine ⟨fun G H i w gk hi => ?_, fun G H i x H' d w gk y e => ?_, fun G H w gk => ?_⟩
  · obtain ⟨xs, s, r⟩ := at_ G H w gk
    have hl := Paired.length r
    exact ⟨xs, xs[i], s, List.getElem?_eq_getElem (by omega)⟩
  · obtain ⟨xs, s, r⟩ := at_ G H w gk
    obtain ⟨rfl, y⟩ := y
    obtain ⟨v, e1, rv⟩ := Paired.get r e
    have := y xs s
    rw [e1] at this; cases this
    exact ⟨G, Grow.refl gk, rv⟩
  · obtain ⟨xs, s, r⟩ := at_ G H w gk
    exact ⟨xs, s, Nat.le_of_eq (Paired.length r)⟩
theorem yl_tup {K : PySem.W.Frag} {a : Addr} {ds : List D} {G0 : GH} (h0 : RG K G0 (.ref a) (.tup ds)) : Yields K (Itt K a) ds G0 := by
  have at_ : ∀ G H, Gle G0 G → GOk K G H → ∃ xs, SqT K H a xs ∧ RGs K G xs ds := fun G H w gk => by
    obtain ⟨b, xs, e, s, r⟩ := (h0.mono w).tup gk
    cases e
    exact ⟨xs, s, r⟩
  refine ⟨fun G H i w gk hi => ?_, fun G H i x H' d w gk y e => ?_, fun G H w gk => ?_⟩
  · obtain ⟨xs, s, r⟩ := at_ G H w gk
    have hl := Paired.length r
    exact ⟨xs, xs[i], s, List.getElem?_eq_getElem (by omega)⟩
  · obtain ⟨xs, s, r⟩ := at_ G H w gk
    obtain ⟨rfl, y⟩ := y
    obtain ⟨v, e1, rv⟩ := Paired.get r e
    have := y xs s
    rw [e1] at this; cases this
    exact ⟨G, Grow.refl gk, rv⟩
  · obtain ⟨xs, s, r⟩ := at_ G H w gk
    exact ⟨xs, s, Nat.le_of_eq (Paired.length r)⟩
noncomputable def rngD (lo : Int) (n : Nat) : List D := (List.range n).map fun (i : Nat) => D.int (lo + (i : Int))
theorem yl_rng {K : PySem.W.Frag} {lo : Int} {n : Nat} {G0 : GH} : Yields K (Itr lo n) (rngD lo n) G0 := by
  have hl : (rngD lo n).length = n := by simp [rngD]
  refine ⟨fun G H i w gk hi => (by rw [hl] at hi; exact hi), fun G H i x H' d w gk y e => ?_, fun G H w gk => (by rw [hl]; exact Nat.le_refl _)⟩
  obtain ⟨rfl, rfl⟩ := y
  have hi : i < n := by
    have := (List.getElem?_eq_some_iff.mp e).1
    rw [hl] at this; exact this
  unfold rngD at e
  rw [List.getElem?_map, List.getElem?_range hi] at e
  cases e
  exact ⟨G, Grow.refl gk, .scl (.int _)⟩
noncomputable def asSeq : D → Option (List D)
  | .lst ds => some ds
  | .tup ds => some ds
  | _ => none
section
variable {X : Cx} {g : GE} {m m' m1 mb : List Md} {tg e a b c iter : Expr} {f fa fb : FE} {p : FQ} {pos pos' : Pos} {ro : Bool} {fl : Rho → Res (List D)} {sts : List Stmt} {s1 : FS}
noncomputable def fSeq (k : D → Option (List D)) (f : FE) : FI := fun r => (f r).bind fun d => opt (k d)
theorem pi_seq {l : Expr} {tl : TE} (hl : PE X l tl) : PI X tg l (fun σ H R => tl σ H fun x H1 => (∃ a, x = .ref a ∧ (∃ xs, SqL X.K H1 a xs) ∧ R (Itl X.K a) H1) ∨ ∃ a, x = .ref a ∧ (∃ xs, SqT X.K H1 a xs) ∧ R (Itt X.K a) H1) := by
  intro pins s σ H R I h
  refine thn (hl pins s σ H _ I h) fun v s1 ⟨x, H1, I1, r1, q1⟩ => ?_
  rcases q1 with ⟨a, e, ⟨xs, hq⟩, q⟩ | ⟨a, e, ⟨xs, hq⟩, q⟩
  · subst e
    cases r1
    obtain ⟨its, rv, p, hz⟩ := I1.list hq
    refine wpAny_pyIter_list p.isList ?_
    refine ⟨s1.heap.objs.size, [s1.heap.objs.size], _, _, H1, rfl, I1.kept (t' := s1.toks) fun b o e => Heap.get?_push_of_some _ e, turn_list a _, ⟨_, Heap.get?_push_size _ rfl, rfl, rfl⟩, fun b hb => ?_, q⟩
    have e : b = s1.heap.objs.size := by simpa using hb
    subst e
    exact I1.fpOk (Nat.le_refl _) (I1.hok.fresh (Nat.le_refl _))
  · subst e
    cases r1
    obtain ⟨its, rv, p, hz⟩ := I1.tuple hq
    refine wpAny_pyIter_tuple (show s1.heap.IsTuple a its.toArray from p) ?_
    refine ⟨s1.heap.objs.size, [s1.heap.objs.size], _, _, H1, rfl, I1.kept (t' := s1.toks) fun b o e => Heap.get?_push_of_some _ e, turn_tuple a _, ⟨_, Heap.get?_push_size _ rfl, rfl, rfl⟩, fun b hb => ?_, q⟩
    have e : b = s1.heap.objs.size := by simpa using hb
    subst e
    exact I1.fpOk (Nat.le_refl _) (I1.hok.fresh (Nat.le_refl _))
structure YieldsC (K : PySem.W.Frag) (J : It) (ds : List D) (G0 : GH) (H0 : Hp) : Prop where
  go : ∀ G H (i : Nat), Grow K G0 H0 G H → i < ds.length → J.go i H
  yld : ∀ G H (i : Nat) x H' d, Grow K G0 H0 G H → J.yld i H x H' → ds[i]? = some d → ∃ G', Grow K G H G' H' ∧ RG K G' x d
  stop : ∀ G H, Grow K G0 H0 G H → J.stop ds.length H
theorem Yields.toC {K : PySem.W.Frag} {J : It} {ds : List D} {G0 : GH} {H0 : Hp} (y : Yields K J ds G0) : YieldsC K J ds G0 H0 :=
  ⟨fun G H i w hi => y.go G H i w.ge w.ok hi, fun G H i x H' d w q e => y.yld G H i x H' d w.ge w.ok q e, fun G H w => y.stop G H w.ge w.ok⟩
noncomputable def tIC (X : Cx) (g : GE) (m : List Md) (f : FI) : TI := fun σ H R => ∃ r G, SI X g m r G σ H ∧ fin (f r) (fun ds => ∀ J G' H', Grow X.K G H G' H' → YieldsC X.K J ds G' H' → R J H') (XW X σ G H)
noncomputable def SItC (X : Cx) (g : GE) (m : List Md) (tg iter : Expr) (f : FI) : Prop := PI X tg iter (tIC X g m f)
theorem SIt.toC {fi : FI} (h : SIt X g m tg iter fi) : SItC X g m tg iter fi := PI.imp h fun σ H R ⟨r, G, si, q⟩ => ⟨r, G, si, fin_mono q fun ds k J G' H' w y => k J G' H' w y.toC⟩
theorem yc_own {K : PySem.W.Frag} {a : Addr} {ds : List D} {G0 : GH} {H0 : Hp} (o : Own K G0 H0 a (.lst ds)) : YieldsC K (Itl K a) ds G0 H0 := by
  have at_ : ∀ G H, Grow K G0 H0 G H → ∃ xs, SqL K H a xs ∧ RGs K G xs ds := fun G H w => by
    cases (o.mono w).ob with
    | lst r s => exact ⟨_, SqL.of r, s⟩
  refine ⟨fun G H i w hi => ?_, fun G H i x H' d w y e => ?_, fun G H w => ?_⟩
  · obtain ⟨xs, s, r⟩ := at_ G H w
    have hl := Paired.length r
    exact ⟨xs, xs[i], s, List.getElem?_eq_getElem (by omega)⟩
  · obtain ⟨xs, s, r⟩ := at_ G H w
    obtain ⟨rfl, y⟩ := y
    obtain ⟨v, e1, rv⟩ := Paired.get r e
    have := y xs s
    rw [e1] at this; cases this
    exact ⟨G, Grow.refl w.ok, rv⟩
  · obtain ⟨xs, s, r⟩ := at_ G H w
    exact ⟨xs, s, Nat.le_of_eq (Paired.length r)⟩
theorem ic_seq (h : SB X g m e f) : SItC X g m tg e (fSeq asSeq f) := by
  refine PI.imp (pi_seq h) fun σ H R ⟨r, G, si, q⟩ => ⟨r, G, si, fin_mono (fin_bind q) fun d q v G' H' w rv => ?_⟩
  obtain ⟨ds, e, q⟩ := fin_opt q
  cases d with
  | lst ds' =>
    cases e
    rcases rv with rv | ⟨a, rfl, o⟩
    · obtain ⟨a, xs, rfl, s, rs⟩ := rv.lst w.ok
      exact .inl ⟨a, rfl, ⟨xs, s⟩, q _ G' H' w (yl_list rv).toC⟩
    · cases o.ob with
      | lst r s => exact .inl ⟨a, rfl, ⟨_, SqL.of r⟩, q _ G' H' w (yc_own o)⟩
  | tup ds' =>
    cases e
    rcases rv with rv | ⟨a, rfl, o⟩
    · obtain ⟨a, xs, rfl, s, rs⟩ := rv.tup w.ok
      exact .inr ⟨a, rfl, ⟨xs, s⟩, q _ G' H' w (yl_tup rv).toC⟩
    · cases o.ob
  | _ => cases e
noncomputable def rng1 : List D → Option (List D)
  | [.int j] => if -(2 ^ 62) ≤ j ∧ j < 2 ^ 62 then some (rngD 0 j.toNat) else none
  | _ => none
noncomputable def fRng (k : List D → Option (List D)) (fl : Rho → Res (List D)) : FI := fun r => (fl r).bind fun ds => opt (k ds)
theorem i_range1 {pn : Pos} (hg : Gl X "range") (hm : X.mg "range" = none) (ha : SAB X g m [a] fl) (hs : starEach [a] X.env = [(false, eval a X.env)] := by rfl) : SIt X g m tg (.Call (.Name "range" pn) [a] [] pos) (fRng rng1 fl) := by
  refine PI.imp (pi_range1 hg hm ha hs) fun σ H R ⟨r, G, si, q⟩ => ⟨r, G, si, fin_mono (fin_bind q) fun ds q vs G' H' w rs => ?_⟩
  obtain ⟨zs, e, q⟩ := fin_opt q
  unfold rng1 at e
  split at e
  · split at e
    · rename_i j hj
      cases e
      cases rs with
      | cons r1 t => cases t; exact ⟨j, by rw [r1.int w.ok], hj.1, hj.2, q _ G' H' w yl_rng⟩
    · cases e
  · cases e
noncomputable def forF (ft : FT) (body : FS) : List D → FS
  | [], r => .nx r
  | d :: ds, r => match ft d r with
    | none => .stuck
    | some r1 => match body r1 with
      | .nx r' => forF ft body ds r'
      | .ct r' => forF ft body ds r'
      | .bk r' => .nx r'
      | o => o
noncomputable def loopF (m : List Md) (fi : FI) (ft : FT) (body : FS) : FS := fun r => onE m r (fi r) fun ds => forF ft body ds r
theorem s_for (hp : PassesOwn (model X.prog X.w) X.A X.env X.xe) (hc : X.calm = true) {ft : FT} {fi : FI} (hi : SIt X g m tg iter fi) (hg : SG X g m tg ft m) (hb : SSs X g ro m m sts s1 m)
    (hs : ∀ x, foldedSetIterable iter X.env x = pure x := by intro _; rfl) : SS X g ro mb m (.For tg iter sts [] pos) (loopF m fi ft s1) m := by
  refine ⟨rfl, PS.imp (ps_for hp hc hi hg.2 hb.2 hs) fun D σ H ⟨r, G, si, q⟩ => ⟨r, G, si, fin_mono (onE_fin si rfl q) fun ds q J G0 H0 w0 Y => ?_⟩⟩
  refine ⟨fun i n σ H => ∃ r G, SI X g m r G σ H ∧ Gle G0 G ∧ i ≤ ds.length ∧ n = ds.length - i ∧ oTo X g ro m mb G D (forF ft s1 (ds.drop i) r), ⟨ds.length, r, G0, si.grow w0, Gle.refl G0, Nat.zero_le _, rfl, oTo.gle q w0.ge⟩, ?_⟩
  rintro i n σ1 H1 ⟨r1, G1, si1, le1, hi, rfl, q1⟩
  by_cases hlt : i < ds.length
  · have hd : ds.drop i = ds[i] :: ds.drop (i + 1) := List.drop_eq_getElem_cons hlt
    rw [hd] at q1
    unfold forF at q1
    refine .inr ⟨Y.go G1 H1 i le1 si1.gok hlt, fun σ' H' => ∃ r G, SI X g m r G σ' H' ∧ Gle G0 G ∧ oTo X g ro m mb G D (forF ft s1 (ds.drop (i + 1)) r), fun σ' H' ⟨r', G', si', le', q'⟩ => ⟨ds.length - (i + 1), by omega, r', G', si', le', hlt, rfl, q'⟩, fun x H' y => ?_⟩
    obtain ⟨G', w', rv⟩ := Y.yld G1 H1 i x H' ds[i] le1 si1.gok y (List.getElem?_eq_getElem hlt)
    have le' : Gle G0 G' := le1.trans w'.ge
    cases eft : ft ds[i] r1 with
    | none => simp only [eft] at q1; exact q1.elim
    | some r2 =>
      simp only [eft] at q1
      refine ⟨r1, G', ds[i], si1.grow w', rv, r2, eft, fun σ2 si2 => ⟨r2, G', si2, ?_⟩⟩
      cases eb : s1 r2 with
      | nx r' => simp only [eb] at q1; exact fun σ3 G3 H3 le3 si3 => ⟨r', G3, si3, le'.trans le3, oTo.gle q1 (Gle.trans w'.ge le3)⟩
      | ct r' => simp only [eb] at q1; exact fun σ3 G3 H3 le3 si3 => ⟨r', G3, si3, le'.trans le3, oTo.gle q1 (Gle.trans w'.ge le3)⟩
      | bk r' => simp only [eb] at q1; exact fun σ3 G3 H3 le3 si3 => q1 σ3 G3 H3 (Gle.trans w'.ge le3) si3
      | rt d => simp only [eb] at q1; exact q1
      | exc x r' => simp only [eb] at q1; exact fun pins e s' σ3 G3 H3 le3 => q1 pins e s' σ3 G3 H3 (Gle.trans w'.ge le3)
      | stuck => simp only [eb] at q1; exact q1
  · have e : i = ds.length := by omega
    subst e
    rw [List.drop_length] at q1
    exact .inl ⟨Y.stop G1 H1 le1 si1.gok, q1 σ1 G1 H1 (Gle.refl _) si1⟩
noncomputable def lockM (m : List Md) : List Md := m.map fun x => if x = Md.sh then Md.sh else Md.bw
noncomputable def lockG (m : List Md) (r : Rho) (st : L2.St) (G : GH) (H : Hp) : GE := ⟨G, H, fun i => if m[i]? = some Md.ow ∨ m[i]? = some Md.bw then some ((st[i]?).join, (r[i]?).join) else none⟩
theorem lockM_get {m : List Md} {i : Nat} {x : Md} (h : m[i]? = some x) : (lockM m)[i]? = some (if x = Md.sh then Md.sh else Md.bw) := by
  unfold lockM; rw [List.getElem?_map, h]; rfl
theorem lockM_sh {m : List Md} {i : Nat} (h : (lockM m)[i]? = some Md.sh) : m[i]? = some Md.sh := by
  cases q : m[i]? with
  | none => unfold lockM at h; rw [List.getElem?_map, q] at h; cases h
  | some x =>
    rw [lockM_get q] at h
    cases x <;> first | rfl | (simp at h)
theorem lockM_ow {m : List Md} {i : Nat} (h : (lockM m)[i]? = some Md.ow) : False := by
  cases q : m[i]? with
  | none => unfold lockM at h; rw [List.getElem?_map, q] at h; cases h
  | some x =>
    rw [lockM_get q] at h
    cases x <;> simp at h
theorem lockM_bw {m : List Md} {i : Nat} (h : (lockM m)[i]? = some Md.bw) : m[i]? = some Md.ow ∨ m[i]? = some Md.bw := by
  cases q : m[i]? with
  | none => unfold lockM at h; rw [List.getElem?_map, q] at h; cases h
  | some x =>
    rw [lockM_get q] at h
    cases x with
    | sh => simp at h
    | ow => exact .inl rfl
    | bw => exact .inr rfl
theorem SI.lock {r : Rho} {G : GH} {st : L2.St} {H : Hp} (s : SI X g m r G st H) : SI X (lockG m r st G H) (lockM m) r G st H where
  gok := s.gok
  old := fun _ _ e => e
  ge := fun _ _ e => e
  gf := fun _ _ => rfl
  lm := by unfold lockM; rw [List.length_map]; exact s.lm
  lr := s.lr
  sh := fun i d h hm => s.sh i d h (lockM_sh hm)
  ow := fun i d h hm => (lockM_ow hm).elim
  bw := fun i d h hm => by
    rcases lockM_bw hm with z | z
    · obtain ⟨a, h1, h2, _⟩ := s.ow i d h z
      exact ⟨_, h1, .inr ⟨a, rfl, h2, h2.ob.isS⟩⟩
    · obtain ⟨v, h1, h2⟩ := s.bw i d h z
      refine ⟨v, h1, ?_⟩
      rcases h2 with h2 | ⟨a, e, h2, _⟩
      · exact .inl h2
      · exact .inr ⟨a, e, h2, h2.ob.isS⟩
  dis := fun i j a d e _ _ _ hm => (lockM_ow hm).elim
  lk := fun i o h hm => by
    have h' : (if m[i]? = some Md.ow ∨ m[i]? = some Md.bw then some ((st[i]?).join, (r[i]?).join) else none) = some o := h
    rw [if_pos (lockM_bw hm)] at h'
    cases h'
    have hi : i < st.length := by
      have := (List.getElem?_eq_some_iff.mp hm).1
      unfold lockM at this
      rw [List.length_map, s.lm] at this; exact this
    refine ⟨?_, fun d hd => by rw [hd]; rfl⟩
    rw [List.getElem?_eq_getElem hi]; rfl
theorem SI.unlock {r r' : Rho} {G G' : GH} {st st' : L2.St} {H H' : Hp} (s : SI X g m r G st H) (s' : SI X (lockG m r st G H) (lockM m) r' G' st' H') : SI X g m r' G' st' H' := by
  have w : Grow X.K G H G' H' := s'.grown
  have hlk : ∀ (i : Nat), (m[i]? = some Md.ow ∨ m[i]? = some Md.bw) → st'[i]? = some (st[i]?).join ∧ ∀ d, r'[i]? = some (some d) → r[i]? = some (some d) := fun i hi => by
    have hm : (lockM m)[i]? = some Md.bw := by
      rcases hi with z | z <;> rw [lockM_get z] <;> simp
    obtain ⟨h1, h2⟩ := s'.lk i ((st[i]?).join, (r[i]?).join) (if_pos hi) hm
    refine ⟨h1, fun d hd => ?_⟩
    have := h2 d hd
    cases q : r[i]? with
    | none => rw [q] at this; cases this
    | some o => rw [q] at this; rw [show o = some d from this]
  have hst : ∀ (i : Nat) v, (m[i]? = some Md.ow ∨ m[i]? = some Md.bw) → st[i]? = some (some v) → st'[i]? = some (some v) := fun i v hi h => by
    rw [(hlk i hi).1, h]; rfl
  refine ⟨s'.gok, fun a o e => s'.old a o (s.old a o e), fun a d e => s'.ge a d (s.ge a d e), fun a h => ?_, ?_, s'.lr, fun i d h hm => ?_, fun i d h hm => ?_, fun i d h hm => ?_, fun i j a d e hij h1 h2 m1 m2 q1 q2 => ?_, fun i o hi hm => ?_⟩
  · have h1 : H a ≠ none := by
      cases e : g.h0 a with
      | none => exact absurd e h
      | some o => rw [s.old _ _ e]; simp
    rw [w.gf a h1, s.gf a h]
  · have := s'.lm
    unfold lockM at this
    rw [List.length_map] at this; exact this
  · exact s'.sh i d h (by rw [lockM_get hm]; simp)
  · obtain ⟨a, h1, h2, h3⟩ := s.ow i d ((hlk i (.inl hm)).2 d h) hm
    exact ⟨a, hst i _ (.inl hm) h1, h2.mono w, h3⟩
  · obtain ⟨v, h1, h2⟩ := s.bw i d ((hlk i (.inr hm)).2 d h) hm
    exact ⟨v, hst i _ (.inr hm) h1, h2.grow w⟩
  · have e1 := (hlk i (.inl m1)).2 d h1
    have e2 := (hlk j (.inl m2)).2 e h2
    obtain ⟨b, z1, _, _⟩ := s.ow i d e1 m1
    obtain ⟨c, z2, _, _⟩ := s.ow j e e2 m2
    have y1 := hst i _ (.inl m1) z1
    have y2 := hst j _ (.inl m2) z2
    rw [q1] at y1
    rw [q2] at y2
    cases y1
    cases y2
    exact s.dis i j a d e hij e1 e2 m1 m2 z1 z2
  · obtain ⟨h1, h2⟩ := s.lk i o hi hm
    refine ⟨?_, fun d hd => h2 d ((hlk i (.inr hm)).2 d hd)⟩
    rw [(hlk i (.inr hm)).1, h1]; rfl
theorem s_forC (hp : PassesOwn (model X.prog X.w) X.A X.env X.xe) (hc : X.calm = true) {ft : FT} {fi : FI} (hi : SItC X g m tg iter fi) (hg : ∀ g', SG X g' (lockM m) tg ft (lockM m)) (hb : ∀ g', SSs X g' ro (lockM m) (lockM m) sts s1 (lockM m))
    (hs : ∀ x, foldedSetIterable iter X.env x = pure x := by intro _; rfl) : SS X g ro mb m (.For tg iter sts [] pos) (loopF m fi ft s1) m := by
  have hgA : PG X tg (fun v σ H Q => ∃ g', tG X g' (lockM m) (lockM m) ft v σ H Q) := fun pins s σ H v u Q I r ⟨g', q⟩ => (hg g').2 pins s σ H v u Q I r q
  have hbA : PSs X sts (fun D σ H => ∃ g', tS X g' ro (lockM m) (lockM m) (lockM m) s1 D σ H) := fun pins s σ H D I ⟨g', q⟩ => (hb g').2 pins s σ H D I q
  refine ⟨rfl, PS.imp (ps_for hp hc hi hgA hbA hs) fun D σ H ⟨r, G, si, q⟩ => ⟨r, G, si, fin_mono (onE_fin si rfl q) fun ds q J G0 H0 w0 Y => ?_⟩⟩
  have si0 := si.grow w0
  refine ⟨fun i n σ1 H1 => ∃ r1 G1, SI X (lockG m r σ G0 H0) (lockM m) r1 G1 σ1 H1 ∧ i ≤ ds.length ∧ n = ds.length - i ∧ oTo X g ro m mb G1 D (forF ft s1 (ds.drop i) r1), ⟨ds.length, r, G0, si0.lock, Nat.zero_le _, rfl, oTo.gle q w0.ge⟩, ?_⟩
  rintro i n σ1 H1 ⟨r1, G1, si1, hi, rfl, q1⟩
  have wg : Grow X.K G0 H0 G1 H1 := si1.grown
  by_cases hlt : i < ds.length
  · have hd : ds.drop i = ds[i] :: ds.drop (i + 1) := List.drop_eq_getElem_cons hlt
    rw [hd] at q1
    unfold forF at q1
    refine .inr ⟨Y.go G1 H1 i wg hlt, fun σ' H' => ∃ r' G', SI X (lockG m r σ G0 H0) (lockM m) r' G' σ' H' ∧ oTo X g ro m mb G' D (forF ft s1 (ds.drop (i + 1)) r'), fun σ' H' ⟨r', G', si', q'⟩ => ⟨ds.length - (i + 1), by omega, r', G', si', hlt, rfl, q'⟩, fun x H' y => ?_⟩
    obtain ⟨G', w', rv⟩ := Y.yld G1 H1 i x H' ds[i] wg y (List.getElem?_eq_getElem hlt)
    cases eft : ft ds[i] r1 with
    | none => simp only [eft] at q1; exact q1.elim
    | some r2 =>
      simp only [eft] at q1
      refine ⟨lockG m r σ G0 H0, r1, G', ds[i], si1.grow w', rv, r2, eft, fun σ2 si2 => ⟨lockG m r σ G0 H0, r2, G', si2, ?_⟩⟩
      cases eb : s1 r2 with
      | nx r' => simp only [eb] at q1; exact fun σ3 G3 H3 le3 si3 => ⟨r', G3, si3, oTo.gle q1 (Gle.trans w'.ge le3)⟩
      | ct r' => simp only [eb] at q1; exact fun σ3 G3 H3 le3 si3 => ⟨r', G3, si3, oTo.gle q1 (Gle.trans w'.ge le3)⟩
      | bk r' => simp only [eb] at q1; exact fun σ3 G3 H3 le3 si3 => q1 σ3 G3 H3 (Gle.trans w'.ge le3) (si0.unlock si3)
      | rt d =>
        simp only [eb] at q1
        intro v G2 H2 wr rv2
        refine q1 v G2 H2 (si0.grown.trans wr) ?_
        cases ro with
        | false => exact rv2
        | true =>
          rcases rv2 with ⟨a, e1, e2, e3⟩ | z
          · exact .inl ⟨a, e1, si0.grown.back e2, e3⟩
          · exact .inr z
      | exc x r' => exact fun pins e s' σ3 G3 H3 le3 _ _ ex => (show False from ex).elim
      | stuck => simp only [eb] at q1; exact q1
  · have e : i = ds.length := by omega
    subst e
    rw [List.drop_length] at q1
    exact .inl ⟨Y.stop G1 H1 wg, q1 σ1 G1 H1 (Gle.refl _) (si0.unlock si1)⟩
noncomputable def whileF (m : List Md) (p : FQ) (body : FS) : Nat → FS
  | 0, _ => .stuck
  | n + 1, r => onE m r (p r) fun c => if c = true then (match body r with
      | .nx r' => whileF m p body n r'
      | .ct r' => whileF m p body n r'
      | .bk r' => .nx r'
      | o => o) else .nx r
theorem s_while (n : Nat) (hp : PassesOwn (model X.prog X.w) X.A X.env X.xe) (hc : SQ X g m c p) (hb : SSs X g ro m m sts s1 m) : SS X g ro mb m (.While c sts [] pos) (whileF m p s1 n) m := by
  refine ⟨rfl, PS.imp (ps_while hp hc hb.2) fun D σ H ⟨r, G, si, q⟩ => ?_⟩
  refine ⟨fun n σ H => ∃ r G, SI X g m r G σ H ∧ oTo X g ro m mb G D (whileF m p s1 n r), ⟨n, r, G, si, q⟩, ?_⟩
  rintro n σ1 H1 ⟨r1, G1, si1, q1⟩
  cases n with
  | zero => exact q1.elim
  | succ n =>
    unfold whileF at q1
    refine ⟨r1, G1, si1, fin_mono (onE_fin si1 rfl q1) fun c q2 G2 H2 w2 => ?_⟩
    cases c with
    | false => rw [if_neg Bool.false_ne_true] at q2 ⊢; exact q2 σ1 G2 H2 w2.ge (si1.grow w2)
    | true =>
      rw [if_pos rfl] at q2 ⊢
      refine ⟨fun σ' H' => ∃ r G, SI X g m r G σ' H' ∧ oTo X g ro m mb G D (whileF m p s1 n r), fun σ' H' h => ⟨n, Nat.lt_succ_self _, h⟩, r1, G2, si1.grow w2, ?_⟩
      cases eb : s1 r1 with
      | nx r' => simp only [eb] at q2; exact fun σ3 G3 H3 le3 si3 => ⟨r', G3, si3, oTo.gle q2 (Gle.trans w2.ge le3)⟩
      | ct r' => simp only [eb] at q2; exact fun σ3 G3 H3 le3 si3 => ⟨r', G3, si3, oTo.gle q2 (Gle.trans w2.ge le3)⟩
      | bk r' => simp only [eb] at q2; exact fun σ3 G3 H3 le3 si3 => q2 σ3 G3 H3 (Gle.trans w2.ge le3) si3
      | rt d => simp only [eb] at q2; exact q2
      | exc x r' => simp only [eb] at q2; exact fun pins e s' σ3 G3 H3 le3 => q2 pins e s' σ3 G3 H3 (Gle.trans w2.ge le3)
      | stuck => simp only [eb] at q2; exact q2
end
noncomputable def noX : Res D → Res D
  | .ok d => .ok d
  | _ => .stuck
@[simp] theorem noX_ok (d : D) : noX (.ok d) = .ok d := rfl
inductive ArgsOk (K : PySem.W.Frag) (G : GH) (H : Hp) : List Md → List V → List D → Prop where
  | nil : ArgsOk K G H [] [] []
  | sh {v : V} {d : D} {ms : List Md} {vs : List V} {ds : List D} : RG K G v d → ArgsOk K G H ms vs ds → ArgsOk K G H (.sh :: ms) (v :: vs) (d :: ds)
  | bw {v : V} {d : D} {ms : List Md} {vs : List V} {ds : List D} : RB K G H v d → ArgsOk K G H ms vs ds → ArgsOk K G H (.bw :: ms) (v :: vs) (d :: ds)
section
variable {K : PySem.W.Frag} {G G' : GH} {H H' : Hp}
theorem ArgsOk.mono : ∀ {ms : List Md} {vs : List V} {ds : List D}, ArgsOk K G H ms vs ds → Grow K G H G' H' → ArgsOk K G' H' ms vs ds
  | _, _, _, .nil, _ => .nil
  | _, _, _, .sh h t, w => .sh (h.mono w.ge) (t.mono w)
  | _, _, _, .bw h t, w => .bw (h.mono w) (t.mono w)
theorem ArgsOk.len : ∀ {ms : List Md} {vs : List V} {ds : List D}, ArgsOk K G H ms vs ds → vs.length = ms.length ∧ ds.length = ms.length
  | _, _, _, .nil => ⟨rfl, rfl⟩
  | _, _, _, .sh h t => ⟨congrArg (· + 1) t.len.1, congrArg (· + 1) t.len.2⟩
  | _, _, _, .bw h t => ⟨congrArg (· + 1) t.len.1, congrArg (· + 1) t.len.2⟩
theorem ArgsOk.app {dvs : List V} {dds : List D} (hs : Paired Scl dvs dds) : ∀ {ms : List Md} {vs : List V} {ds : List D}, ArgsOk K G H ms vs ds → ArgsOk K G H (ms ++ List.replicate dds.length .sh) (vs ++ dvs) (ds ++ dds)
  | _, _, _, .nil => by
    induction hs with
    | nil => exact .nil
    | cons h t ih => exact .sh (.scl h) ih
  | _, _, _, .sh h t => .sh h (t.app hs)
  | _, _, _, .bw h t => .bw h (t.app hs)
theorem ArgsOk.get : ∀ {ms : List Md} {vs : List V} {ds : List D} {i : Nat} {d : D}, ArgsOk K G H ms vs ds → ds[i]? = some d → ∃ v, vs[i]? = some v ∧ ((ms[i]? = some .sh ∧ RG K G v d) ∨ (ms[i]? = some .bw ∧ RB K G H v d))
  | _, _, _, _, _, .nil, e => by simp at e
  | _, _, _, 0, _, .sh h t, e => by simp at e; subst e; exact ⟨_, rfl, .inl ⟨rfl, h⟩⟩
  | _, _, _, 0, _, .bw h t, e => by simp at e; subst e; exact ⟨_, rfl, .inr ⟨rfl, h⟩⟩
  | _, _, _, i + 1, d, .sh h t, e => by
    obtain ⟨v, h1, h2⟩ := t.get (i := i) (d := d) (by simpa using e)
    exact ⟨v, by simpa using h1, by simpa using h2⟩
  | _, _, _, i + 1, d, .bw h t, e => by
    obtain ⟨v, h1, h2⟩ := t.get (i := i) (d := d) (by simpa using e)
    exact ⟨v, by simpa using h1, by simpa using h2⟩
end
noncomputable def spM (K : PySem.W.Frag) (ro : Bool) (ms : List Md) (F : List D → Res D) : Sp := fun vs H Q _ => ∃ G ds, GOk K G H ∧ ArgsOk K G H ms vs ds ∧ fin (F ds) (fun d => ∀ v G' H', Grow K G H G' H' → RV ro K H G' H' v d → Q v H') fun _ => False
noncomputable def outR (ro : Bool) : Out → Res D
  | .nx _ => if ro = true then .stuck else .ok .non
  | .rt d => .ok d
  | .exc x _ => .exc x
  | _ => .stuck
noncomputable def start0 (n : Nat) (ds : List D) : Rho := ds.map some ++ List.replicate (n - ds.length) none
noncomputable def startM (n : Nat) (ms : List Md) : List Md := ms ++ List.replicate (n - ms.length) .sh
section
variable {P : Program} {w : World} {K : PySem.W.Frag} {mg : Str → Option Value} {base : Heap}
theorem start_si {X : Cx} {N : List Str} {ms : List Md} {vs : List V} {ds : List D} {G : GH} {H : Hp} (gk : GOk X.K G H) (rs : ArgsOk X.K G H ms vs ds) (hn : ms.length ≤ N.length) : SI X ⟨G, H, fun _ => none⟩ (startM N.length ms) (start0 N.length ds) G (L2.start N vs) H := by
  obtain ⟨l1, l2⟩ := rs.len
  have e1 : (L2.start N vs).length = N.length := by unfold L2.start; rw [List.length_append, List.length_map, List.length_replicate]; omega
  have e2 : (start0 N.length ds).length = N.length := by unfold start0; rw [List.length_append, List.length_map, List.length_replicate]; omega
  have e3 : (startM N.length ms).length = N.length := by unfold startM; rw [List.length_append, List.length_replicate]; omega
  have at_ : ∀ (i : Nat) d, (start0 N.length ds)[i]? = some (some d) → i < ms.length ∧ (startM N.length ms)[i]? = ms[i]? ∧ ∃ v, (L2.start N vs)[i]? = some (some v) ∧ ((ms[i]? = some .sh ∧ RG X.K G v d) ∨ (ms[i]? = some .bw ∧ RB X.K G H v d)) := fun i d h => by
    unfold start0 at h
    by_cases hi : i < ds.length
    · rw [List.getElem?_append_left (by simpa using hi), List.getElem?_map] at h
      have hd : ds[i]? = some d := by
        cases z : ds[i]? with
        | none => rw [z] at h; cases h
        | some d' => rw [z] at h; cases h; rfl
      obtain ⟨v, hv, rv⟩ := rs.get hd
      refine ⟨by omega, ?_, v, ?_, rv⟩
      · unfold startM
        rw [List.getElem?_append_left (by omega)]
      · unfold L2.start
        rw [List.getElem?_append_left (by rw [List.length_map]; omega), List.getElem?_map, hv]
        rfl
    · rw [List.getElem?_append_right (by simpa using hi), List.getElem?_replicate] at h
      split at h <;> cases h
  refine ⟨gk, fun _ _ e => e, fun _ _ e => e, fun _ _ => rfl, by rw [e3, e1], by rw [e1, e2], fun i d h hm => ?_, fun i d h hm => ?_, fun i d h hm => ?_, fun i j a d e _ h _ hm => ?_, fun i o h => nomatch h⟩
  · obtain ⟨_, hq, v, h1, h2⟩ := at_ i d h
    rw [hq] at hm
    rcases h2 with ⟨_, h2⟩ | ⟨h3, h2⟩
    · exact ⟨v, h1, h2⟩
    · rw [hm] at h3; cases h3
  · obtain ⟨_, hq, v, h1, h2⟩ := at_ i d h
    rw [hq] at hm
    rcases h2 with ⟨h3, h2⟩ | ⟨h3, h2⟩ <;> rw [hm] at h3 <;> cases h3
  · obtain ⟨_, hq, v, h1, h2⟩ := at_ i d h
    rw [hq] at hm
    rcases h2 with ⟨h3, h2⟩ | ⟨h3, h2⟩
    · rw [hm] at h3; cases h3
    · refine ⟨v, h1, ?_⟩
      rcases h2 with h2 | ⟨a, rfl, h2⟩
      · exact .inl h2
      · exact .inr ⟨a, rfl, h2, h2.ob.isS⟩
  · obtain ⟨_, hq, v, h1, h2⟩ := at_ i d h
    rw [hq] at hm
    rcases h2 with ⟨h3, h2⟩ | ⟨h3, h2⟩ <;> rw [hm] at h3 <;> cases h3
theorem body_end {X : Cx} {ro : Bool} {fs : FS} {m' : List Md} {G : GH} {H : Hp} {r : Rho} {Q : VK} (q : fin (outR ro (fs r)) (fun d => ∀ v G' H', Grow X.K G H G' H' → RV ro X.K H G' H' v d → Q v H') fun _ => False) :
    oTo X ⟨G, H, fun _ => none⟩ ro m' [] G { nx := fun _ H' => Q .non H', rt := Q } (fs r) := by
  cases e : fs r with
  | nx r' =>
    rw [e] at q
    cases ro with
    | false => exact fun σ' G' H' _ si => q .non G' H' si.grown (.scl .non)
    | true => exact q.elim
  | rt d => rw [e] at q; exact fun v G' H' wg rv => q v G' H' wg rv
  | bk r' => rw [e] at q; exact q.elim
  | ct r' => rw [e] at q; exact q.elim
  | exc x r' => rw [e] at q; exact q.elim
  | stuck => rw [e] at q; exact q
theorem fn_def {x qual : Str} {st : Stmt} {f : Addr} {fd : FuncData} {N ps : List Str} {k : Nat} {ro : Bool} {ms : List Md} {fs : FS} {m' : List Md} (F : Fun K x qual st f fd) (S : FnScope N ps (defScope st)) (hms : ms.length = ps.length)
    (hbody : ∀ (cdv : Value) (A : Around) (outer : List Env) (s : Shared) (H : Hp) (g : GE) (E : XK), Room k (A.deeper (envOfC qual (defScope st) s.heap.objs.size f cdv)) →
      SSs (cxOf CX0 P w K mg base N qual (defScope st) f cdv A outer s H E).nox g ro [] (startM N.length ms) (defBody st) fs m') :
    FnOk P w K mg base CX0 (k + 1) f fd ps (spM K ro ms fun ds => outR ro (fs (start0 N.length ds))) := by
  refine F.ok S (fun vs H Q E ⟨G, ds, gk, rs, q⟩ => rs.len.1.trans hms) fun cdv A outer s H vs Q E hr h => ?_
  obtain ⟨G, ds, gk, rs, q⟩ := h
  have hpl : ps.length ≤ N.length := by have := congrArg List.length S.pre; rw [List.length_take] at this; omega
  exact ⟨_, (hbody cdv A outer s H ⟨G, H, fun _ => none⟩ E hr).2, start0 N.length ds, G, start_si gk rs (by omega), body_end q⟩
end
section
variable {X : Cx} {g : GE} {m : List Md} {e : Expr} {f : FE} {es : List Expr} {fl : Rho → Res (List D)} {k : Nat} {fa : Addr} {fd : FuncData} {ps : List Str} {F : List D → Res D} {dvs : List V} {ds : List Value} {dds : List D} {x : Str} {p pos : Pos} {ms : List Md}
noncomputable def tLM (X : Cx) (g : GE) (m : List Md) (ms : List Md) (f : Rho → Res (List D)) : TA := fun σ H Q => ∃ r G, SI X g m r G σ H ∧ fin (f r) (fun ds => ∀ vs G' H', Grow X.K G H G' H' → ArgsOk X.K G' H' ms vs ds → Q vs H') (XW X σ G H)
noncomputable def SAM (X : Cx) (g : GE) (m : List Md) (es : List Expr) (ms : List Md) (f : Rho → Res (List D)) : Prop := PA X es (tLM X g m ms f)
theorem m_nil : SAM X g m [] [] lNil := PA.imp pa_nil fun σ H Q ⟨r, G, si, k⟩ => k [] G H (Grow.refl si.gok) .nil
theorem m_sh (ha : SE X g m e f) (hr : SAM X g m es ms fl) (hs : starEach (e :: es) X.env = (false, eval e X.env) :: starEach es X.env := by rfl) : SAM X g m (e :: es) (.sh :: ms) (lCons f fl) := by
  refine PA.imp (pa_cons ha hr hs) fun σ H Q ⟨r, G, si, k⟩ => ⟨r, G, si, fin_mono (fin_bind k) fun d k1 v G1 H1 w1 r1 => ⟨r, G1, si.grow w1, ?_⟩⟩
  exact fin_later (fin_bind k1) w1 fun ds z vs G2 H2 w2 r2 => z (v :: vs) G2 H2 (w1.trans w2) (.sh (r1.mono w2.ge) r2)
theorem m_bw (ha : SB X g m e f) (hr : SAM X g m es ms fl) (hs : starEach (e :: es) X.env = (false, eval e X.env) :: starEach es X.env := by rfl) : SAM X g m (e :: es) (.bw :: ms) (lCons f fl) := by
  refine PA.imp (pa_cons ha hr hs) fun σ H Q ⟨r, G, si, k⟩ => ⟨r, G, si, fin_mono (fin_bind k) fun d k1 v G1 H1 w1 r1 => ⟨r, G1, si.grow w1, ?_⟩⟩
  exact fin_later (fin_bind k1) w1 fun ds z vs G2 H2 w2 r2 => z (v :: vs) G2 H2 (w1.trans w2) (.bw (r1.mono w2) r2)
noncomputable def callF (fl : Rho → Res (List D)) (dds : List D) (F : List D → Res D) : FE := fun r => (fl r).bind fun ds => noX (F (ds ++ dds))
theorem call_core {ro : Bool} {vs : List V} {zs : List D} {G : GH} {H : Hp} {Q : VK} (gk : GOk X.K G H) (rs : ArgsOk X.K G H ms vs zs) (hsc : Paired Scl dvs dds) (q : fin (noX (F (zs ++ dds))) (fun d => ∀ v G' H', Grow X.K G H G' H' → RV ro X.K H G' H' v d → Q v H') fun _ => False) :
    spM X.K ro (ms ++ List.replicate dds.length .sh) F (vs ++ dvs) H Q E0 := by
  refine ⟨G, zs ++ dds, gk, rs.app hsc, ?_⟩
  cases e : F (zs ++ dds) with
  | ok d => rw [e] at q; exact q
  | exc x => rw [e] at q; exact q.elim
  | stuck => rw [e] at q; exact q.elim
theorem fin_false {α : Type} {r : Res α} {q : α → Prop} {x : D → Prop} (h : fin r q x) (hr : ∀ e, r ≠ .exc e) : fin r q fun _ => False := by
  cases r with
  | ok a => exact h
  | exc e => exact absurd rfl (hr e)
  | stuck => exact h
theorem noX_ne (r : Res D) (e : D) : noX r ≠ .exc e := by cases r <;> simp [noX]
theorem s_call (G1 : FnOk X.prog X.w X.K X.mg X.base CX0 k fa fd ps (spM X.K false (ms ++ List.replicate dds.length .sh) F)) (hr : Room k X.A) (hg : Gl X x) (hm : X.mg x = some (.ref fa)) (hk : PySem.W.keepIn X.K (.ref fa) = true) (hb : Binds X.K fd ps ds) (hd : Vals dvs ds) (hsc : Paired Scl dvs dds)
    (ha : SAM X g m (e :: es) ms fl) (hdb : (x == ("__debug__" : Str)) = false := by decide) (he : starEach (e :: es) X.env = (false, eval e X.env) :: starEach es X.env := by rfl) (hpl : (backTo pos (starEach es X.env)).any (·.1) = false := by rfl) :
    SE X g m (.Call (.Name x p) (e :: es) [] pos) (callF fl dds F) := by
  refine PE.imp (pe_call G1 hr hg hm hk hb hd pass0 ha hdb he hpl) fun σ H Q ⟨r, G, si, q⟩ => ⟨r, G, si, ?_⟩
  cases ez : fl r with
  | ok zs =>
    unfold callF at q
    rw [ez] at q
    intro vs G' H' w' rs
    exact call_core w'.ok rs hsc (fin_mono (fin_false q (noX_ne _)) fun d k v G2 H2 w2 rv => k v G2 H2 (w'.trans w2) rv)
  | exc x => unfold callF at q; rw [ez] at q; exact q
  | stuck => unfold callF at q; rw [ez] at q; exact q
end
end DL
end
section
set_option Elab.async false
set_option linter.all false
set_option maxRecDepth 100000
namespace DL
open PySem PySem.Spec PyProof.Rows L2
theorem clo_loop {env : Env} : ∀ (l : List (Str × NameKind)) (cs : List (Str × Addr)), (∀ x ∈ l, x.2 = .free → ∃ c, env.cells.lookup x.1 = some c) → (∀ x c, cs.lookup x = some c → env.cells.lookup x = some c) →
    ∃ cl, (forIn l cs (fun (x : Str × NameKind) (cs : List (Str × Addr)) => if (x.2 == NameKind.free) = true then (do let a ← cellOf env x.1; pure (ForInStep.yield ((x.1, a) :: cs))) else pure (ForInStep.yield cs)) : Sem (List (Str × Addr))) = pure cl ∧
      (∀ x c, cl.lookup x = some c → env.cells.lookup x = some c) ∧ (∀ x, (x, NameKind.free) ∈ l → ∃ c, cl.lookup x = some c) ∧ (∀ x c, cs.lookup x = some c → ∃ c', cl.lookup x = some c') := by
  intro l
  induction l with
  | nil => intro cs _ h; exact ⟨cs, rfl, h, fun x hx => (by cases hx), fun x c h => ⟨c, h⟩⟩
  | cons y l ih =>
    intro cs hf hc
    obtain ⟨n, k⟩ := y
    by_cases hk : k = .free
    · subst hk
      obtain ⟨c, ec⟩ := hf (n, .free) List.mem_cons_self rfl
      have e1 : cellOf env n = pure c := by unfold cellOf; rw [ec]
      have hc' : ∀ x c', ((n, c) :: cs).lookup x = some c' → env.cells.lookup x = some c' := fun x c' h => by
        rw [List.lookup_cons] at h
        cases q : x == n with
        | true => rw [q] at h; cases h; rw [eq_of_beq q]; exact ec
        | false => rw [q] at h; exact hc x c' h
      obtain ⟨cl, e2, h1, h2, h3⟩ := ih ((n, c) :: cs) (fun x hx => hf x (List.mem_cons_of_mem _ hx)) hc'
      refine ⟨cl, ?_, h1, fun x hx => ?_, fun x c' h => ?_⟩
      · rw [← e2]
        rw [List.forIn_cons]
        show (cellOf env n >>= fun a => pure (ForInStep.yield ((n, a) :: cs))) >>= _ = _
        rw [e1]
        rfl
      · rcases List.mem_cons.mp hx with z | z
        · cases z; exact h3 n c (by rw [List.lookup_cons]; simp)
        · exact h2 x z
      · cases q : x == n with
        | true => exact h3 x c (by rw [List.lookup_cons, q])
        | false => exact h3 x c' (by rw [List.lookup_cons, q]; exact h)
    · obtain ⟨cl, e2, h1, h2, h3⟩ := ih cs (fun x hx => hf x (List.mem_cons_of_mem _ hx)) hc
      have hb : (k == NameKind.free) = false := by simpa using hk
      refine ⟨cl, ?_, h1, fun x hx => ?_, h3⟩
      · rw [← e2, List.forIn_cons]
        simp only [hb, Bool.false_eq_true, if_false]
        rfl
      · rcases List.mem_cons.mp hx with z | z
        · cases z; exact absurd rfl hk
        · exact h2 x z
theorem closure_ok {scope : Scope} {env : Env} (hf : ∀ x ∈ scope.names, x.2 = .free → ∃ c, env.cells.lookup x.1 = some c) :
    ∃ cl, closureFor scope env = pure cl ∧ (∀ x c, cl.lookup x = some c → env.cells.lookup x = some c) ∧ (∀ x, (x, NameKind.free) ∈ scope.names → ∃ c, cl.lookup x = some c) := by
  obtain ⟨cl, e, h1, h2, _⟩ := clo_loop scope.names [] hf (fun x c h => by cases h)
  refine ⟨cl, ?_, h1, h2⟩
  have e0 : closureFor scope env = ((forIn scope.names ([] : List (Str × Addr)) (fun (x : Str × NameKind) (cs : List (Str × Addr)) => if (x.2 == NameKind.free) = true then (do let a ← cellOf env x.1; pure (ForInStep.yield ((x.1, a) :: cs))) else pure (ForInStep.yield cs)) : Sem (List (Str × Addr))) >>= fun cs => pure cs) := rfl
  rw [e0, e]
  rfl
theorem lookup_map_key {f : Str → NameKind → NameKind} : ∀ (l : List (Str × NameKind)) (x : Str), (l.map fun y => (y.1, f y.1 y.2)).lookup x = (l.lookup x).map (f x)
  | [], x => rfl
  | (n, k) :: l, x => by
    rw [List.map_cons, List.lookup_cons, List.lookup_cons]
    cases q : x == n with
    | true => simp [eq_of_beq q]
    | false => exact lookup_map_key l x
noncomputable def relK (env : Env) (n : Str) (k : NameKind) : NameKind := if (k == .free && env.scope.kind == .function && env.kindOf n == some .cell) = true then .cell else k
theorem relabel_lookup (scope : Scope) (env : Env) (x : Str) : (relabel scope env).names.lookup x = (scope.names.lookup x).map (relK env x) := by
  rw [← lookup_map_key]
  unfold relabel
  congr 1
  apply List.map_congr_left
  intro y _
  obtain ⟨n, k⟩ := y
  show (if (k == NameKind.free && env.scope.kind == .function && env.kindOf n == some .cell) = true then (n, NameKind.cell) else (n, k)) = (n, relK env n k)
  unfold relK
  split <;> rfl
structure CompSc (X : Cx) (scope : Scope) (N' : List Str) (nl : Nat) (cap : List Nat) : Prop where
  kind : scope.kind = .function
  nocell : ∀ y ∈ scope.names, y.2 ≠ .cell
  names : ∀ y ∈ scope.names, y.2 = .local → scope.names.lookup y.1 = some .local
  freeK : ∀ y ∈ scope.names, y.2 = .free → X.env.kindOf y.1 = some .cell ∨ X.env.kindOf y.1 = some .free
  len : N'.length = nl + cap.length
  capN : ∀ j, j < cap.length → ∃ x, N'[nl + j]? = some x ∧ X.N[cap.getD j 0]? = some x ∧ scope.names.lookup x = some .free
noncomputable def cxC (X : Cx) (s₀ : Shared) (H₀ : Hp) (N' : List Str) (scope : Scope) (cl : List (Str × Addr)) (C : Addr) (fp : List Addr) : Cx where
  prog := X.prog
  w := X.w
  K := X.K
  mg := X.mg
  base := X.base
  A := X.A
  N := N'
  s₀ := s₀
  H₀ := H₀
  env := compEnvC scope cl C X.env
  outer := X.stack
  stack := X.stack
  ex := fp
  fn := fun _ => false
  calm := X.calm
  pn := []
  xe := fun _ _ => False
section
variable {X : Cx} {pins : List (Addr × Obj)} {σ : L2.St} {H : Hp} {s : Shared} {scope : Scope} {N' : List Str} {nl : Nat} {cap : List Nat} {cl : List (Str × Addr)} {C : Addr} {fp : List Addr}
theorem cxC_ok (I : Inv X pins σ H s) (sc : CompSc X scope N' nl cap) (h1 : ∀ x c, cl.lookup x = some c → X.env.cells.lookup x = some c) (h2 : ∀ x, (x, NameKind.free) ∈ scope.names → ∃ c, cl.lookup x = some c)
    (hf : ∀ b ∈ fp, FpOk X pins H b ∧ b < s.heap.objs.size) (hC : s.heap.objs.size ≤ C) : (cxC X s H N' scope cl C fp).Ok where
  mod := I.ok.mod
  kind := sc.kind
  glob := I.ok.glob
  blt := I.ok.blt
  above := hC
  inj := fun x y c a b => I.ok.inj x y c (h1 x c a) (h1 y c b)
  has := fun x hk => by
    have hk' : (scope.names.lookup x).map (relK X.env x) = some .cell ∨ (scope.names.lookup x).map (relK X.env x) = some .free := by
      rw [← relabel_lookup]; exact hk
    cases e : scope.names.lookup x with
    | none => rw [e] at hk'; rcases hk' with z | z <;> cases z
    | some k =>
      have hm := PySem.mem_of_lookup e
      have kf : k = .free := by
        rw [e] at hk'
        have hk2 : relK X.env x k = .cell ∨ relK X.env x k = .free := by
          rcases hk' with z | z
          · exact .inl (Option.some.inj z)
          · exact .inr (Option.some.inj z)
        unfold relK at hk2
        split at hk2
        · rename_i hc
          simp only [Bool.and_eq_true, beq_iff_eq] at hc
          exact hc.1.1
        · rcases hk2 with z | z
          · exact absurd z (sc.nocell _ hm)
          · exact z
      subst kf
      exact h2 x hm
  cab := fun x c h => by cases h
  hd := I.ok.hd
  frames := I.ok.frames
  stk := .inl rfl
  exf := fun b hb => ⟨Nat.ne_of_lt (Nat.lt_of_lt_of_le (hf b hb).2 hC), fun x c e => (hf b hb).1.2.2.2.2.1 x c (h1 x c e)⟩
  bs := I.bs
  bsz := Nat.le_trans I.ok.bsz I.sz
  noex := fun b o e hb => by
    obtain ⟨_, _, _, hx, _⟩ := (hf b hb).1
    rcases hx with z | z
    · exact I.ok.noex b o e z
    · exact absurd (Nat.lt_of_lt_of_le (Heap.lt_size e) (Nat.le_trans I.ok.bsz z)) (Nat.lt_irrefl _)
  exfs := fun b hb hfs => by
    obtain ⟨_, q1, q2, _⟩ := (hf b hb).1
    rcases List.mem_cons.mp (I.stkSub b hfs) with z | z
    · exact q1 z
    · exact q2 z
  funs := I.stack
  frf := I.stkFree
end
noncomputable def compF (ft : FT) (q : FQ) (fe : FE) (r0 : Rho) : List D → Res (List D)
  | [] => .ok []
  | d :: ds => (opt (ft d r0)).bind fun r1 => (q r1).bind fun c => if c = true then (fe r1).bind fun v => (compF ft q fe r0 ds).bind fun vs => .ok (v :: vs) else compF ft q fe r0 ds
noncomputable def capR (nl : Nat) (cap : List Nat) (r : Rho) : Rho := List.replicate nl none ++ cap.map fun i => r.getD i none
noncomputable def capM (nl : Nat) (cap : List Nat) (m : List Md) : List Md := List.replicate nl Md.sh ++ cap.map fun i => if m.getD i Md.sh = Md.sh then Md.sh else Md.bw
noncomputable def capS (nl : Nat) (cap : List Nat) (st : L2.St) : L2.St := List.replicate nl none ++ cap.map fun i => st.getD i none
theorem cap_get {α : Type} {nl : Nat} {cap : List Nat} {u : α} {h : Nat → α} {i : Nat} (hi : nl ≤ i) : (List.replicate nl u ++ cap.map h)[i]? = (cap[i - nl]?).map h := by
  rw [List.getElem?_append_right (by simpa using hi), List.length_replicate, List.getElem?_map]
section
variable {X : Cx} {pins : List (Addr × Obj)} {σ : L2.St} {H H' : Hp} {s : Shared} {scope : Scope} {N' : List Str} {nl : Nat} {cap : List Nat} {cl : List (Str × Addr)} {C : Addr} {fp : List Addr} {g : GE} {G G' : GH} {m : List Md} {r : Rho}
theorem capSI (si : SI X g m r G σ H) (w : Grow X.K G H G' H') : SI (cxC X s H N' scope cl C fp) ⟨G, H, fun _ => none⟩ (capM nl cap m) (capR nl cap r) G' (capS nl cap σ) H' := by
  have lens : (capM nl cap m).length = nl + cap.length := by simp [capM]
  have lens2 : (capR nl cap r).length = nl + cap.length := by simp [capR]
  have lens3 : (capS nl cap σ).length = nl + cap.length := by simp [capS]
  have rget : ∀ (i : Nat) d, (capR nl cap r)[i]? = some (some d) → nl ≤ i ∧ ∃ j, cap[i - nl]? = some j ∧ r[j]? = some (some d) := fun i d h => by
    by_cases hi : i < nl
    · unfold capR at h
      rw [List.getElem?_append_left (by simpa using hi), List.getElem?_replicate] at h
      split at h <;> cases h
    · refine ⟨by omega, ?_⟩
      unfold capR at h
      rw [cap_get (by omega)] at h
      cases e : cap[i - nl]? with
      | none => rw [e] at h; cases h
      | some j =>
        rw [e] at h
        refine ⟨j, rfl, ?_⟩
        have h' : r.getD j none = some d := Option.some.inj h
        rw [List.getD_eq_getElem?_getD] at h'
        cases e2 : r[j]? with
        | none => rw [e2] at h'; cases h'
        | some o => rw [e2] at h'; rw [show o = some d from h']
  have mget : ∀ (i j : Nat) md, nl ≤ i → cap[i - nl]? = some j → (capM nl cap m)[i]? = some md → md = if m.getD j Md.sh = Md.sh then Md.sh else Md.bw := fun i j md hi hj h => by
    unfold capM at h
    rw [cap_get hi, hj] at h
    exact (Option.some.inj h).symm
  have sget : ∀ (i j : Nat) v, nl ≤ i → cap[i - nl]? = some j → σ[j]? = some (some v) → (capS nl cap σ)[i]? = some (some v) := fun i j v hi hj h => by
    unfold capS
    rw [cap_get hi, hj]
    show some (σ.getD j none) = _
    rw [List.getD_eq_getElem?_getD, h]
    rfl
  have mj : ∀ (j : Nat) d, r[j]? = some (some d) → m[j]? = some (m.getD j Md.sh) := fun j d h => by
    have hl : j < m.length := by
      have := (List.getElem?_eq_some_iff.mp h).1
      rw [si.lr, ← si.lm] at this; exact this
    rw [List.getD_eq_getElem?_getD, List.getElem?_eq_getElem hl]
    rfl
  refine ⟨w.ok, w.he, w.ge, w.gf, by rw [lens, lens3], by rw [lens2, lens3], fun i d h hm => ?_, fun i d h hm => ?_, fun i d h hm => ?_, fun i j a d e _ h _ hm => ?_, fun i o h => nomatch h⟩
  · obtain ⟨hi, j, hj, hr⟩ := rget i d h
    have e := mget i j _ hi hj hm
    have hsh : m.getD j Md.sh = Md.sh := by
      by_cases z : m.getD j Md.sh = Md.sh
      · exact z
      · rw [if_neg z] at e; cases e
    obtain ⟨v, h1, h2⟩ := si.sh j d hr (by rw [mj j d hr, hsh])
    exact ⟨v, sget i j v hi hj h1, h2.mono w.ge⟩
  · obtain ⟨hi, j, hj, hr⟩ := rget i d h
    have e := mget i j _ hi hj hm
    split at e <;> cases e
  · obtain ⟨hi, j, hj, hr⟩ := rget i d h
    have e := mget i j _ hi hj hm
    have hsh : m.getD j Md.sh ≠ Md.sh := by
      intro z
      rw [if_pos z] at e; cases e
    have hmj := mj j d hr
    cases q : m.getD j Md.sh with
    | sh => exact absurd q hsh
    | ow =>
      rw [q] at hmj
      obtain ⟨a, h1, h2, _⟩ := si.ow j d hr hmj
      exact ⟨_, sget i j _ hi hj h1, .inr ⟨a, rfl, h2.mono w, h2.ob.isS⟩⟩
    | bw =>
      rw [q] at hmj
      obtain ⟨v, h1, h2⟩ := si.bw j d hr hmj
      refine ⟨v, sget i j _ hi hj h1, ?_⟩
      rcases h2 with h2 | ⟨a, rfl, h2, _⟩
      · exact .inl (h2.mono w.ge)
      · exact .inr ⟨a, rfl, h2.mono w, h2.ob.isS⟩
  · obtain ⟨hi, j', hj, hr⟩ := rget i d h
    have e := mget i j' _ hi hj hm
    split at e <;> cases e
theorem capInv (I : Inv X pins σ H s) (ok : (cxC X s H N' scope cl C fp).Ok) (sc : CompSc X scope N' nl cap) (h1 : ∀ x c, cl.lookup x = some c → X.env.cells.lookup x = some c) (h2 : ∀ x, (x, NameKind.free) ∈ scope.names → ∃ c, cl.lookup x = some c)
    (hN : X.N.Nodup) {s4 : Shared} {H4 : Hp} {mc : Str → Option Value} (hos : s4.os = s.os) (hb : AllBare s4.gens) (kp : ∀ b o, s.heap.get? b = some o → s4.heap.get? b = some o) (hns : s4.heap.Ns C mc) (hC : s.heap.objs.size ≤ C) (hHC : H4 C = none)
    (hH : ∀ b, H b = none → b < s.heap.objs.size → H4 b = none) (un : Un (frs X.stack) fp H H4 s.heap s4.heap) (hok : HOk X.prog X.w H4 s4.heap) : Inv (cxC X s H N' scope cl C fp) [] (capS nl cap σ) H4 s4 := by
  refine ⟨ok, hos, hb, un, ⟨mc, hns, fun i x v e1 e2 e3 => ?_⟩, fun x c e => ?_, hHC, fun x c e => ?_, fun p hp => absurd (show p ∈ ([] : List (Addr × Obj)) from hp) (by simp), hok, ?_⟩
  · have hi : nl ≤ i := by
      by_cases z : i < nl
      · unfold capS at e2
        rw [List.getElem?_append_left (by simpa using z), List.getElem?_replicate] at e2
        split at e2 <;> cases e2
      · omega
    unfold capS at e2
    rw [cap_get hi] at e2
    cases ej : cap[i - nl]? with
    | none => rw [ej] at e2; cases e2
    | some j =>
      rw [ej] at e2
      have hj : i - nl < cap.length := (List.getElem?_eq_some_iff.mp ej).1
      obtain ⟨x', q1, q2, q3⟩ := sc.capN (i - nl) hj
      have ed : cap.getD (i - nl) 0 = j := by rw [List.getD_eq_getElem?_getD, ej]; rfl
      rw [ed] at q2
      have ei : nl + (i - nl) = i := by omega
      rw [ei] at q1
      have e1' : N'[i]? = some x := e1
      rw [q1] at e1'
      have ex : x' = x := Option.some.inj e1'
      subst ex
      have hv : σ[j]? = some (some v) := by
        have z : σ.getD j none = some v := Option.some.inj e2
        rw [List.getD_eq_getElem?_getD] at z
        cases q : σ[j]? with
        | none => rw [q] at z; cases z
        | some o => rw [q] at z; rw [show o = some v from z]
      have hfree := PySem.mem_of_lookup q3
      have kX := sc.freeK _ hfree rfl
      obtain ⟨mx, hnx, hl⟩ := I.loc
      obtain ⟨u, ru, lk⟩ := hl j x' v q2 hv (.inr kX)
      refine ⟨u, ru, .inr ?_⟩
      obtain ⟨c, ec⟩ := h2 x' hfree
      have hkk : Env.kindOf (cxC X s H N' scope cl C fp).env x' = some .cell ∨ Env.kindOf (cxC X s H N' scope cl C fp).env x' = some .free := by
        have z : (relabel scope X.env).names.lookup x' = some (relK X.env x' .free) := by rw [relabel_lookup, q3]; rfl
        show (relabel scope X.env).names.lookup x' = _ ∨ (relabel scope X.env).names.lookup x' = _
        rw [z]
        unfold relK
        split
        · exact .inl rfl
        · exact .inr rfl
      refine ⟨hkk, c, ec, ?_⟩
      rcases lk with ⟨k, _⟩ | ⟨_, c', ec', hcell⟩
      · rcases kX with z | z <;> rw [k] at z <;> cases z
      · rw [h1 x' c ec] at ec'
        cases ec'
        obtain ⟨o, ho, hd⟩ := hcell
        exact ⟨o, kp c o ho, hd⟩
  · obtain ⟨v, o, ho, hd⟩ := I.cell x c (h1 x c e)
    exact ⟨v, o, kp c o ho, hd⟩
  · obtain ⟨v, o, ho, hd⟩ := I.cell x c (h1 x c e)
    exact hH c (I.freeC x c (h1 x c e)) (Heap.lt_size ho)
  · show (capS nl cap σ).length = N'.length
    rw [sc.len]
    simp [capS]
end
end DL
end
section
set_option Elab.async false
set_option linter.all false
set_option maxRecDepth 100000
namespace DL
open PySem PySem.Spec PyProof.Rows L2
section
variable {prog : Program} {w : World} {A : Around} {R : Result → Shared → Prop} {s : Shared}
theorem cl_loop {elt target iter : Expr} {ifs : List Expr} {scope : Scope} {pos : Pos} {it acc : Value} {env : Env} (I : Nat → Shared → Prop)
    (turn : ∀ n s, I n s → wpAny (model prog w) A (pyNext it) (fun r s1 => match r with
      | none => R (.ok .next) s1
      | some v => wpAny (model prog w) A (letOwnedTupleGo target it v) (fun _ s1' => wpAny (model prog w) A (assign target env v) (fun _ s2 =>
          wpAny (model prog w) A (forIn ifs true fun c r => if r = true then do let ok ← isTrue c env (eval c env); pure (ForInStep.yield ok) else pure (ForInStep.yield r)) (fun ok s3 =>
            if ok = true then wpAny (model prog w) A (eval elt env) (fun x s4 =>
              wpAny (model prog w) A (call (.builtin "list.append") [acc, x]) (fun _ s5 => ∃ m, m < n ∧ I m s5) (notedBy (model prog w) A env fun e s' => R (.error e) s') s4) (notedBy (model prog w) A env fun e s' => R (.error e) s') s3
            else ∃ m, m < n ∧ I m s3) (notedBy (model prog w) A env fun e s' => R (.error e) s') s2) (notedBy (model prog w) A env fun e s' => R (.error e) s') s1')
          (notedBy (model prog w) A env fun e s' => R (.error e) s') s1) (notedBy (model prog w) A env fun e s' => R (.error e) s') s)
    (n : Nat) (h : I n s) : codeAny (model prog w) A (.compLoop (.ListComp elt [⟨target, iter, ifs, 0⟩] scope pos) 0 it acc env) R s := by
  refine codeAny_loop rfl I (fun n s hI => ?_) n h
  show wpAny _ A ((compTurn (.ListComp elt [⟨target, iter, ifs, 0⟩] scope pos) 0 it acc env).onRaise (fun x => do noteFrame x env; theTreesLotGoes x)) _ _ s
  refine wpAny_noted ?_
  rw [compTurn_list]
  refine wpAny_bind (wpAny_standAt (wpAny_bind (wpAny_mono (turn n s hI) (fun r s1 h1 => ?_) fun _ _ h' => h')))
  cases r with
  | none => exact wpAny_pure h1
  | some v =>
    refine wpAny_bind (wpAny_mono h1 (fun _ s1' h1' => ?_) fun _ _ h' => h')
    refine wpAny_bind (wpAny_mono h1' (fun _ s2 h2 => wpAny_bind (wpAny_mono h2 (fun ok s3 h3 => ?_) fun _ _ h' => h')) fun _ _ h' => h')
    cases ok with
    | false => exact wpAny_pure ⟨rfl, h3⟩
    | true =>
      exact wpAny_bind (wpAny_bind (wpAny_mono h3 (fun x s4 h4 => wpAny_bind (wpAny_mono h4 (fun _ s5 h5 => wpAny_pure (wpAny_pure ⟨rfl, h5⟩)) fun _ _ h' => h')) fun _ _ h' => h'))
end
noncomputable def SQs (X : Cx) (g : GE) (m : List Md) (ifs : List Expr) (f : FQ) : Prop := ∀ (pins : List (Addr × Obj)) (s : Shared) (σ : L2.St) (H : Hp) (Q : Bool → Hp → Prop), Inv X pins σ H s → tQ X g m f σ H Q →
  wpAny (model X.prog X.w) X.A (forIn ifs true fun c r => if r = true then do let ok ← isTrue c X.env (eval c X.env); pure (ForInStep.yield ok) else pure (ForInStep.yield r)) (TP X pins σ Q) X.xe s
section
variable {X : Cx} {g : GE} {m : List Md} {c : Expr} {p : FQ}
theorem qs_nil : SQs X g m [] fun _ => .ok true := fun pins s σ H Q I ⟨r, G, si, q⟩ => wpAny_tests_nil ⟨H, I, q G H (Grow.refl si.gok)⟩
theorem qs_one (h : SQ X g m c p) : SQs X g m [c] p := fun pins s σ H Q I q => wpAny_tests_one (h pins s σ H Q I q)
end
noncomputable def FtOk (ft : FT) (nl : Nat) : Prop := ∀ d r r1, ft d r = some r1 → r1.length = r.length ∧ ∀ i, nl ≤ i → r1[i]? = r[i]?
noncomputable def FtsOk (ft : FTs) (nl : Nat) : Prop := ∀ d r r1, ft d r = some r1 → r1.length = r.length ∧ ∀ i, nl ≤ i → r1[i]? = r[i]?
theorem ftN_ok {i nl : Nat} (h : i < nl) : FtOk (ftN i) nl := fun d r r1 e => by
  cases e
  exact ⟨by simp, fun j hj => by rw [List.getElem?_set_ne (by omega)]⟩
theorem ftNil_ok {nl : Nat} : FtsOk ftNil nl := fun ds r r1 e => by
  cases ds with
  | nil => cases e; exact ⟨rfl, fun _ _ => rfl⟩
  | cons _ _ => cases e
theorem ftCons_ok {ft : FT} {fts : FTs} {nl : Nat} (h1 : FtOk ft nl) (h2 : FtsOk fts nl) : FtsOk (ftCons ft fts) nl := fun ds r r1 e => by
  cases ds with
  | nil => cases e
  | cons d ds =>
    have e' : ((ft d r).bind fun r' => fts ds r') = some r1 := e
    cases q : ft d r with
    | none => rw [q] at e'; cases e'
    | some r2 =>
      rw [q] at e'
      obtain ⟨a1, a2⟩ := h1 d r r2 q
      obtain ⟨b1, b2⟩ := h2 ds r2 r1 e'
      exact ⟨b1.trans a1, fun i hi => (b2 i hi).trans (a2 i hi)⟩
theorem ftT_ok {fts : FTs} {nl : Nat} (h : FtsOk fts nl) : FtOk (ftT fts) nl := fun d r r1 e => by
  cases d with
  | tup ds => exact h ds r r1 e
  | _ => cases e
section
variable {X : Cx} {pins : List (Addr × Obj)} {σ : L2.St} {H2 : Hp} {s2 : Shared} {scope : Scope} {N' : List Str} {nl : Nat} {cap : List Nat} {cl : List (Str × Addr)} {fp : List Addr} {g : GE} {G2 : GH} {m : List Md} {r : Rho} {elt tg iter : Expr} {ifs : List Expr} {pos : Pos}
  {J : It} {it : Addr} {tn : Nat → Heap → Prop} {ds vs : List D} {ft : FT} {q : FQ} {fe : FE} {E : Value → Shared → Prop}
theorem capM_no (i : Nat) : (capM nl cap m)[i]? ≠ some Md.ow := fun h => by
  by_cases hi : i < nl
  · unfold capM at h
    rw [List.getElem?_append_left (by simpa using hi), List.getElem?_replicate] at h
    split at h <;> cases h
  · unfold capM at h
    rw [cap_get (by omega)] at h
    cases e : cap[i - nl]? with
    | none => rw [e] at h; cases h
    | some j =>
      rw [e] at h
      have h' : (if m.getD j Md.sh = Md.sh then Md.sh else Md.bw) = Md.ow := Option.some.inj h
      split at h' <;> cases h'
theorem capR_free {i : Nat} (hi : i < nl) (d : D) : (capR nl cap r)[i]? ≠ some (some d) := fun h => by
  unfold capR at h
  rw [List.getElem?_append_left (by simpa using hi), List.getElem?_replicate] at h
  split at h <;> cases h
theorem comp_core (hN : X.N.Nodup) (hcalm : X.calm = true) (sc : CompSc X scope N' nl cap) (h1 : ∀ x c, cl.lookup x = some c → X.env.cells.lookup x = some c) (h2 : ∀ x, (x, NameKind.free) ∈ scope.names → ∃ c, cl.lookup x = some c)
    (I2 : Inv X pins σ H2 s2) (si : SI X g m r G2 σ H2) (T : Turn X.prog X.w X.K tg J fp it tn) (st : tn 0 s2.heap) (hf : ∀ b ∈ fp, FpOk X pins H2 b) (Y : YieldsC X.K J ds G2 H2) (hsz : ds.length ≤ sizeLine)
    (hg : ∀ C, SG (cxC X s2 H2 N' scope cl C fp) ⟨G2, H2, fun _ => none⟩ (capM nl cap m) tg ft (capM nl cap m)) (hft : FtOk ft nl) (hq : ∀ C, SQs (cxC X s2 H2 N' scope cl C fp) ⟨G2, H2, fun _ => none⟩ (capM nl cap m) ifs q) (he : ∀ C, SE (cxC X s2 H2 N' scope cl C fp) ⟨G2, H2, fun _ => none⟩ (capM nl cap m) elt fe)
    (hres : compF ft q fe (capR nl cap r) ds = .ok vs) {RR : Value → Addr → Result → Shared → Prop}
    (hRR : ∀ (p C : Addr) (s' : Shared) (H' : Hp) (G' : GH), Inv X pins σ H' s' → (∃ mm, s'.heap.Ns C mm) → H' C = none → C ≠ X.env.locals → X.s₀.heap.objs.size ≤ C → (∀ x c, X.env.cells.lookup x = some c → c ≠ C) → (∀ z ∈ X.pn ++ pins, z.1 ≠ C) →
      Grow X.K G2 H2 G' H' → H2 p = none → Own X.K G' H' p (.lst vs) → RR (.ref p) C (.ok .next) s') :
    wpAny (model X.prog X.w) X.A (newList []) (fun acc s3 => wpAny (model X.prog X.w) X.A (newFunctionEnv scope X.env.globals cl [] X.env.qual none .none (some X.env)) (fun cenv s4 =>
      codeAny (model X.prog X.w) X.A (.compStart (.ListComp elt [⟨tg, iter, ifs, 0⟩] scope pos) 0 (.ref it) acc { cenv with scope := relabel scope X.env }) (RR acc cenv.locals) s4) E s3) E s2 := by
  refine wpAny_newObj_type (wpAny_newFunctionEnv sc.nocell (by intro y hy; simp at hy) (fun h₁ hns₁ hsb₁ => ?_) sc.kind)
  dsimp only at hns₁ hsb₁ ⊢
  generalize hH2 : s2.heap.push { cls := .type "list", dict := none, data := .seq ([] : List Value).toArray } = HH at hns₁ hsb₁ ⊢
  have hC : HH.objs.size = s2.heap.objs.size + 1 := by rw [← hH2, Heap.size_push]
  have hDC : s2.heap.objs.size ≠ HH.objs.size := by rw [hC]; exact Nat.ne_of_lt (Nat.lt_succ_self _)
  have hCle : s2.heap.objs.size ≤ HH.objs.size := by rw [hC]; exact Nat.le_succ _
  have below : ∀ b, b < s2.heap.objs.size → b ≠ HH.objs.size ∧ b ≠ s2.heap.objs.size := fun b hb => ⟨by rw [hC]; exact Nat.ne_of_lt (Nat.lt_succ_of_lt hb), Nat.ne_of_lt hb⟩
  have old : ∀ b o, s2.heap.get? b = some o → h₁.get? b = some o := fun b o e => hsb₁.extBut b o (below b (Heap.lt_size e)).1 (Heap.get?_push_of_some _ (hH2 ▸ Heap.get?_push_of_some _ e))
  have hacc : h₁.get? s2.heap.objs.size = some { cls := .type "list", dict := none, data := .seq ([] : List Value).toArray } := hsb₁.extBut _ _ hDC (Heap.get?_push_of_some _ (hH2 ▸ Heap.get?_push_size _ rfl))
  have hp2 : H2 s2.heap.objs.size = none := I2.hok.fresh (Nat.le_refl _)
  have hflt : ∀ b ∈ fp, FpOk X pins H2 b ∧ b < s2.heap.objs.size := fun b hb => ⟨hf b hb, by
    obtain ⟨o, e, _⟩ := T.obj 0 s2.heap st b hb
    exact Heap.lt_size e⟩
  have ok := cxC_ok (fp := fp) I2 sc h1 h2 hflt hCle
  generalize hXX : cxC X s2 H2 N' scope cl HH.objs.size fp = XX at ok
  have hG2p : G2 s2.heap.objs.size = none := si.gok.isN hp2
  have w0 : Grow X.K G2 H2 G2 (upd H2 s2.heap.objs.size (.lst [])) := Grow.new si.gok hp2 _
  have hok4 : HOk X.prog X.w (upd H2 s2.heap.objs.size (.lst [])) h₁ := I2.hok.laid old (Nat.le_refl _) ⟨Nat.zero_le _, [], 0, .nil, hacc⟩
  have IC : Inv XX [] (capS nl cap σ) (upd H2 s2.heap.objs.size (.lst [])) { s2 with heap := h₁, toks := s2.toks + ([] : List (Str × Value)).length } := by
    subst hXX
    refine capInv I2 ok sc h1 h2 hN rfl I2.bare old hns₁ hCle ?_ (fun b hb hlt => ?_) (Un.laid old (Nat.le_refl _) hp2) hok4
    · rw [upd_ne (Ne.symm hDC)]; exact I2.hok.fresh hCle
    · rw [upd_ne (below b hlt).2]; exact hb
  have SC : SI XX ⟨G2, H2, fun _ => none⟩ (capM nl cap m) (capR nl cap r) G2 (capS nl cap σ) (upd H2 s2.heap.objs.size (.lst [])) := by
    subst hXX
    exact capSI si w0
  have hst₁ : tn 0 h₁ := T.keep _ _ _ st fun b _ o e => old b o e
  have hfX : ∀ (H' : Hp), (∀ b ∈ fp, H' b = none) → ∀ b ∈ fp, FpOk XX [] H' b := fun H' hn b hb => by
    obtain ⟨z0, z1, z2, z3, z4, z5⟩ := hf b hb
    refine ⟨hn b hb, ?_, ?_, ?_, ?_, ?_⟩
    · subst hXX; exact (below b (hflt b hb).2).1
    · subst hXX
      intro hfs
      rcases List.mem_cons.mp (I2.stkSub b hfs) with z | z
      · exact z1 z
      · exact z2 z
    · subst hXX; exact .inl hb
    · subst hXX; exact fun x c e => z4 x c (h1 x c e)
    · subst hXX; intro p hp; exact absurd (show p ∈ ([] : List (Addr × Obj)) from hp) (by simp)
  have eA : XX.A = X.A := by subst hXX; rfl
  have eP : XX.prog = X.prog := by subst hXX; rfl
  have eW : XX.w = X.w := by subst hXX; rfl
  have eK : XX.K = X.K := by subst hXX; rfl
  have eX : XX.xe = fun _ _ => False := by subst hXX; rfl
  have eE : XX.env = compEnvC scope cl HH.objs.size X.env := by subst hXX; rfl
  have eC : XX.calm = true := by subst hXX; exact hcalm
  have eH : XX.H₀ = H2 := by subst hXX; rfl
  have hg' : PG XX tg (tG XX ⟨G2, H2, fun _ => none⟩ (capM nl cap m) (capM nl cap m) ft) := by subst hXX; exact (hg _).2
  have hq' : SQs XX ⟨G2, H2, fun _ => none⟩ (capM nl cap m) ifs q := by subst hXX; exact hq _
  have he' : SE XX ⟨G2, H2, fun _ => none⟩ (capM nl cap m) elt fe := by subst hXX; exact he _
  have fin' : ∀ {H' : Hp} {s' : Shared} {σ' : L2.St} {G' : GH} {ws : List V}, Inv XX [] σ' H' s' → Grow X.K G2 H2 G' H' → H' s2.heap.objs.size = some (.lst ws) → G' s2.heap.objs.size = none → RGs X.K G' ws vs → RR (.ref s2.heap.objs.size) HH.objs.size (.ok .next) s' := fun {H' s' σ' G' ws} J1 wg hpp hgp rs => by
    subst hXX
    have un := J1.base
    refine hRR _ _ s' H' G' ?_ (let ⟨mm, hn, _⟩ := J1.loc; ⟨mm, hn⟩) J1.free (Nat.ne_of_gt (Nat.lt_of_lt_of_le I2.lt hCle)) (Nat.le_trans I2.sz hCle) (fun x c e z => ?_) (fun z hz e => ?_) wg hp2 ⟨hgp, .lst hpp rs⟩
    · refine I2.call' J1.os un J1.hok J1.bare fun b hb => ?_
      obtain ⟨z0, z1, z2, z3, z4, z5⟩ := hf b hb
      exact ⟨z3, z1, z4, z5⟩
    · obtain ⟨v, o, ho, _⟩ := I2.cell x c e
      exact absurd (Nat.lt_of_lt_of_le (Heap.lt_size ho) hCle) (by rw [z]; exact Nat.lt_irrefl _)
    · have := (I2.pin z hz).1
      exact absurd (Nat.lt_of_lt_of_le (Heap.lt_size this) hCle) (by rw [e]; exact Nat.lt_irrefl _)
  have loop : codeAny (model X.prog X.w) X.A (.compLoop (.ListComp elt [⟨tg, iter, ifs, 0⟩] scope pos) 0 (.ref it) (.ref s2.heap.objs.size) (compEnvC scope cl HH.objs.size X.env)) (RR (.ref s2.heap.objs.size) HH.objs.size)
      { s2 with heap := h₁, toks := s2.toks + ([] : List (Str × Value)).length } := by
    refine cl_loop (fun n s' => ∃ (i : Nat) (σ' : L2.St) (H' : Hp) (G' : GH) (ws : List V) (done rest : List D), Inv XX [] σ' H' s' ∧ SI XX ⟨G2, H2, fun _ => none⟩ (capM nl cap m) (capR nl cap r) G' σ' H' ∧ tn i s'.heap ∧ (∀ b ∈ fp, H' b = none) ∧ Grow X.K G2 H2 G' H' ∧
        H' s2.heap.objs.size = some (.lst ws) ∧ G' s2.heap.objs.size = none ∧ RGs X.K G' ws done ∧ compF ft q fe (capR nl cap r) (ds.drop i) = .ok rest ∧ vs = done ++ rest ∧ done.length ≤ i ∧ i ≤ ds.length ∧ n = ds.length - i) ?_ ds.length
      ⟨0, _, _, G2, [], [], vs, IC, SC, hst₁, fun b hb => ?_, w0, upd_same, hG2p, .nil, hres, rfl, Nat.le_refl _, Nat.zero_le _, rfl⟩
    rotate_left
    · rw [upd_ne (below b (hflt b hb).2).2]; exact (hf b hb).1
    rintro n s3 ⟨i, σ3, H3, G3, ws, done, rest, I3, S3, st3, fr3, w3, hp3, hg3, rs3, hr3, hv3, hd3, hi3, rfl⟩
    have weaken : ∀ {α : Type} {t : Sem α} {Q : α → Shared → Prop} {s' : Shared} {E' : Value → Shared → Prop}, wpAny (model XX.prog XX.w) XX.A t Q XX.xe s' → wpAny (model X.prog X.w) X.A t Q E' s' := fun h => by
      rw [eP, eW, eA, eX] at h
      exact wpAny_mono h (fun _ _ z => z) fun _ _ z => z.elim
    by_cases hlt : i < ds.length
    · have hd : ds.drop i = ds[i] :: ds.drop (i + 1) := List.drop_eq_getElem_cons hlt
      rw [hd] at hr3
      unfold compF at hr3
      have it3 := T.item XX eP eW eK eC i [] s3 σ3 H3 (notedBy (model X.prog X.w) X.A (compEnvC scope cl HH.objs.size X.env) fun e s' => RR (.ref s2.heap.objs.size) HH.objs.size (.error e) s') I3 (hfX H3 fr3) st3 (Y.go G3 H3 i w3 hlt)
      rw [eA] at it3
      refine thn it3 fun rr s4 ⟨u, hr, h4⟩ => ?_
      subst hr
      refine thn h4 fun _ s5 ⟨x, H5, I5, r5, y5, st5, fr5⟩ => ?_
      obtain ⟨G5, w5, rv5⟩ := Y.yld G3 H3 i x H5 ds[i] w3 y5 (List.getElem?_eq_getElem hlt)
      have w25 := w3.trans w5
      cases eft : ft ds[i] (capR nl cap r) with
      | none => rw [eft] at hr3; cases hr3
      | some r1 =>
        rw [eft] at hr3
        simp only [opt_some, bind_ok] at hr3
        have I5' := I5.pinned (hfX H5 fr5) (T.obj _ _ st5)
        have S5 : SI XX ⟨G2, H2, fun _ => none⟩ (capM nl cap m) (capR nl cap r) G5 σ3 H5 := S3.grow (by rw [eK]; exact w5)
        have rv5' : RG XX.K G5 x ds[i] := by rw [eK]; exact rv5
        have as5 := hg' _ s5 σ3 H5 x u (fun σ6 H6 => H6 = H5 ∧ SI XX ⟨G2, H2, fun _ => none⟩ (capM nl cap m) r1 G5 σ6 H5) I5' r5 ⟨capR nl cap r, G5, ds[i], S5, rv5', r1, eft, fun σ6 si6 => ⟨rfl, si6⟩⟩
        rw [eE] at as5
        refine thn (weaken as5) fun _ s6 ⟨σ6, H6, I6, e6, S6⟩ => ?_
        subst e6
        obtain ⟨fl1, fl2⟩ := hft _ _ _ eft
        cases eq1 : q r1 with
        | stuck => rw [eq1] at hr3; cases hr3
        | exc xx => rw [eq1] at hr3; cases hr3
        | ok b1 =>
          rw [eq1] at hr3
          simp only [bind_ok] at hr3
          have te6 := hq' _ s6 σ6 H6 (fun b H7 => b = b1 ∧ ∃ G7, Grow X.K G5 H6 G7 H7) I6 ⟨r1, G5, S6, by rw [eq1]; exact fun G7 H7 w7 => ⟨rfl, G7, by rw [eK] at w7; exact w7⟩⟩
          rw [eE] at te6
          refine thn (weaken te6) fun b s7 ⟨H7, I7, eb, G7, w7⟩ => ?_
          subst eb
          have S7 : SI XX ⟨G2, H2, fun _ => none⟩ (capM nl cap m) r1 G7 σ6 H7 := S6.grow (by rw [eK]; exact w7)
          have w27 := w25.trans w7
          have hp7 : H7 s2.heap.objs.size = some (.lst ws) := w7.he _ _ (w5.he _ _ hp3)
          have hg7 : G7 s2.heap.objs.size = none := by
            rw [w7.gf _ (by rw [w5.he _ _ hp3]; simp), w5.gf _ (by rw [hp3]; simp)]; exact hg3
          have back : ∀ {σ8 : L2.St} {H8 : Hp} {G8 : GH} {s8 : Shared}, Inv XX ([] ++ pinsAt fp s5.heap) σ8 H8 s8 → Inv XX [] σ8 H8 s8 ∧ tn (i + 1) s8.heap ∧ ∀ b ∈ fp, H8 b = none := fun {σ8 H8 G8 s8} I8 => by
            refine ⟨I8.unpinned, T.keep _ _ _ st5 fun b hb o e => (I8.pin (b, o) (List.mem_append_right _ (List.mem_append_right _ (mem_pinsAt hb e)))).1, fun b hb => ?_⟩
            obtain ⟨o, e, _⟩ := T.obj _ _ st5 b hb
            exact (I8.pin (b, o) (List.mem_append_right _ (List.mem_append_right _ (mem_pinsAt hb e)))).2.1
          have less : ∀ {σ8 : L2.St} {H8 : Hp} {G8 : GH}, SI XX ⟨G2, H2, fun _ => none⟩ (capM nl cap m) r1 G8 σ8 H8 → SI XX ⟨G2, H2, fun _ => none⟩ (capM nl cap m) (capR nl cap r) G8 σ8 H8 := fun h => h.less fl1.symm fun j d hj => by
            by_cases hjn : j < nl
            · exact absurd hj (capR_free hjn d)
            · rw [fl2 j (by omega)]; exact hj
          cases b with
          | false =>
            rw [if_neg Bool.false_ne_true] at hr3 ⊢
            obtain ⟨I7', t7, f7⟩ := back (G8 := G7) I7
            exact ⟨ds.length - (i + 1), by omega, i + 1, σ6, H7, G7, ws, done, rest, I7', less S7, t7, f7, w27, hp7, hg7, rs3.mono (Gle.trans w5.ge w7.ge), hr3, hv3, by omega, hlt, rfl⟩
          | true =>
            rw [if_pos rfl] at hr3 ⊢
            cases ee1 : fe r1 with
            | stuck => rw [ee1] at hr3; cases hr3
            | exc xx => rw [ee1] at hr3; cases hr3
            | ok d1 =>
              rw [ee1] at hr3
              simp only [bind_ok] at hr3
              cases er : compF ft q fe (capR nl cap r) (ds.drop (i + 1)) with
              | stuck => rw [er] at hr3; cases hr3
              | exc xx => rw [er] at hr3; cases hr3
              | ok rest' =>
                rw [er] at hr3
                simp only [bind_ok] at hr3
                cases hr3
                have el7 := he' _ s7 σ6 H7 (fun v H8 => ∃ G8, Grow X.K G7 H7 G8 H8 ∧ RG X.K G8 v d1) I7 ⟨r1, G7, S7, by rw [ee1]; exact fun v G8 H8 w8 rv => ⟨G8, by rw [eK] at w8; exact w8, by rw [eK] at rv; exact rv⟩⟩
                rw [eE] at el7
                refine thn (weaken el7) fun u8 s8 ⟨v8, H8, I8, r8, G8, w8, rv8⟩ => ?_
                have hp8 : H8 s2.heap.objs.size = some (.lst ws) := w8.he _ _ hp7
                have hg8 : G8 s2.heap.objs.size = none := by rw [w8.gf _ (by rw [hp7]; simp)]; exact hg7
                have S8 : SI XX ⟨G2, H2, fun _ => none⟩ (capM nl cap m) r1 G8 σ6 H8 := S7.grow (by rw [eK]; exact w8)
                have hlen := Paired.length rs3
                have ap8 := mt_append (X := XX) _ s8 σ6 H8 (.ref s2.heap.objs.size) [v8] (.ref s2.heap.objs.size) [u8] (fun v H9 => H9 = upd H8 s2.heap.objs.size (.lst (ws ++ [v8]))) I8 rfl (.cons r8 .nil) ⟨_, ws, v8, rfl, rfl, hp8, by omega, rfl⟩
                refine thn (weaken ap8) fun u9 s9 ⟨v9, H9, I9, r9, e9⟩ => ?_
                subst e9
                obtain ⟨I9', t9, f9⟩ := back (G8 := G8) I9
                have rsn : RGs X.K G8 (ws ++ [v8]) (done ++ [d1]) := Paired.snoc (rs3.mono (Gle.trans (Gle.trans w5.ge w7.ge) w8.ge)) rv8
                have w28 := w27.trans w8
                refine ⟨ds.length - (i + 1), by omega, i + 1, σ6, _, G8, ws ++ [v8], done ++ [d1], rest', I9', less (S8.other hg8 hp2 capM_no _), t9, f9, ?_, upd_same, hg8, rsn, er, by rw [hv3, List.append_assoc]; rfl, by rw [List.length_append, List.length_singleton]; omega, hlt, rfl⟩
                refine ⟨fun b e hb => (w28.ok b e hb).mono (fun _ _ z => z) fun o z => ?_, fun b o hb => ?_, w28.ge, w28.gf⟩
                · rw [upd_ne (by rintro rfl; rw [hg8] at hb; cases hb)]; exact z
                · rw [upd_ne (by rintro rfl; rw [hp2] at hb; cases hb)]; exact w28.he b o hb
    · have e : i = ds.length := by omega
      subst e
      rw [List.drop_length] at hr3
      cases hr3
      rw [List.append_nil] at hv3
      subst hv3
      have dn := T.done XX eP eW eK eC ds.length [] s3 σ3 H3 (notedBy (model X.prog X.w) X.A (compEnvC scope cl HH.objs.size X.env) fun e s' => RR (.ref s2.heap.objs.size) HH.objs.size (.error e) s') I3 (hfX H3 fr3) st3 (Y.stop G3 H3 w3)
      rw [eA] at dn
      refine thn dn fun rr s4 ⟨hr, I4⟩ => ?_
      subst hr
      exact fin' I4 w3 hp3 hg3 rs3
  exact codeAny_compStart_list loop (T.self X.A 0 _ _ _ hst₁ loop)
end
end DL
end
section
set_option Elab.async false
set_option linter.all false
set_option maxRecDepth 100000
namespace DL
open PySem PySem.Spec PyProof.Rows L2
noncomputable def noXL : Res (List D) → Res (List D)
  | .ok d => .ok d
  | _ => .stuck
@[simp] theorem noXL_ok (d : List D) : noXL (.ok d) = .ok d := rfl
noncomputable def fComp (nl : Nat) (cap : List Nat) (fi : FI) (ft : FT) (q : FQ) (fe : FE) : FE := fun r => (fi r).bind fun ds => (opt (sz ds)).bind fun ds => (noXL (compF ft q fe (capR nl cap r) ds)).bind fun vs => .ok (.lst vs)
section
variable {X : Cx} {g : GE} {m mb : List Md} {scope : Scope} {N' : List Str} {nl : Nat} {cap : List Nat} {elt tg iter : Expr} {ifs : List Expr} {pos pos' spos : Pos} {fi : FI} {ft : FT} {q : FQ} {fe : FE} {ro : Bool}
theorem fComp_fin {r : Rho} {P : D → Prop} {x : D → Prop} (h : fin (fComp nl cap fi ft q fe r) P x) : fin (fi r) (fun ds => ∃ vs, ds.length ≤ sizeLine ∧ compF ft q fe (capR nl cap r) ds = .ok vs ∧ P (.lst vs)) x := by
  unfold fComp at h
  refine fin_mono (fin_bind h) fun ds h1 => ?_
  obtain ⟨ds', e2, h2⟩ := fin_opt (fin_bind h1)
  obtain ⟨rfl, hl⟩ := sz_of e2
  cases e3 : compF ft q fe (capR nl cap r) ds' with
  | ok vs => rw [e3] at h2; exact ⟨vs, hl, rfl, h2⟩
  | exc x => rw [e3] at h2; exact h2.elim
  | stuck => rw [e3] at h2; exact h2.elim
theorem CompSc.clo {pins : List (Addr × Obj)} {σ : L2.St} {H : Hp} {s : Shared} (sc : CompSc X scope N' nl cap) (ok : X.Ok) : ∃ cl, closureFor scope X.env = pure cl ∧ (∀ x c, cl.lookup x = some c → X.env.cells.lookup x = some c) ∧ (∀ x, (x, NameKind.free) ∈ scope.names → ∃ c, cl.lookup x = some c) :=
  closure_ok fun y hy hf => ok.has y.1 (sc.freeK y hy hf)
theorem o_comp (hN : X.N.Nodup) (hcalm : X.calm = true) (sc : CompSc X scope N' nl cap) (hi : SItC X g m tg iter fi) (hg : ∀ s0 H0 cl C fp g', SG (cxC X s0 H0 N' scope cl C fp) g' (capM nl cap m) tg ft (capM nl cap m)) (hft : FtOk ft nl)
    (hq : ∀ s0 H0 cl C fp g', SQs (cxC X s0 H0 N' scope cl C fp) g' (capM nl cap m) ifs q) (he : ∀ s0 H0 cl C fp g', SE (cxC X s0 H0 N' scope cl C fp) g' (capM nl cap m) elt fe)
    (hs : ∀ x, foldedSetIterable iter X.env x = pure x := by intro _; rfl) : SO X g m (.ListComp elt [⟨tg, iter, ifs, 0⟩] scope pos) (fComp nl cap fi ft q fe) := by
  intro pins s σ H Q I h
  obtain ⟨r, G, si, k⟩ := h
  obtain ⟨cl, hcl, h1, h2⟩ := sc.clo (pins := pins) (σ := σ) (H := H) (s := s) I.ok
  have k1 := fComp_fin k
  rw [eval_ListComp]
  refine wpAny_comprehension_free (use := none) rfl hs hcl sc.kind sc.names (thn (hi pins s σ H (fun J H' => ∃ G' ds vs, Grow X.K G H G' H' ∧ YieldsC X.K J ds G' H' ∧ ds.length ≤ sizeLine ∧ compF ft q fe (capR nl cap r) ds = .ok vs ∧
    (∀ a G' H', Grow X.K G H G' H' → H a = none → Own X.K G' H' a (.lst vs) → Q (.ref a) H')) I ⟨r, G, si, fin_mono k1 fun ds ⟨vs, z1, z2, z3⟩ J G' H' w y => ⟨G', ds, vs, w, y, z1, z2, z3⟩⟩) fun v s1 hv => thn hv fun itv s2 hv2 => ?_)
  obtain ⟨it, fp, tn, J, H2, rfl, I2, T, st, hf, G2, ds, vs, w2, Y, hsz, hres, hQ⟩ := hv2
  refine comp_core (RR := fun acc C => compPost (model X.prog X.w) X.A X.xe none (EP X pins σ Q) acc C) hN hcalm sc h1 h2 I2 (si.grow w2) T st hf Y hsz (fun C => hg _ _ _ _ _ _) hft (fun C => hq _ _ _ _ _ _) (fun C => he _ _ _ _ _ _) hres ?_
  intro p C s' H' G' I' hns hC1 hC2 hC3 hC4 hC5 w' hp ho
  obtain ⟨mm, hn⟩ := hns
  refine ⟨mm, hn, fun h' hsb => ⟨.ref p, H', ?_, rfl, hQ p G' H' (w2.trans w') (w2.back hp) ho⟩⟩
  exact I'.turned (it := C) (t' := s'.toks) (fun b o hb e => hsb.extBut b o hb e) hC1 hC2.symm.symm (.inr hC3) hC4 hC5
theorem s_setComp (i : Nat) {y : Str} (hN : X.N.Nodup) (hcalm : X.calm = true) (hy : X.N[i]? = some y) (hyl : X.env.scope.names.lookup y = some .local) (sc : CompSc X scope N' nl cap) (hi : SItC X g m tg iter fi) (hg : ∀ s0 H0 cl C fp g', SG (cxC X s0 H0 N' scope cl C fp) g' (capM nl cap m) tg ft (capM nl cap m)) (hft : FtOk ft nl)
    (hq : ∀ s0 H0 cl C fp g', SQs (cxC X s0 H0 N' scope cl C fp) g' (capM nl cap m) ifs q) (he : ∀ s0 H0 cl C fp g', SE (cxC X s0 H0 N' scope cl C fp) g' (capM nl cap m) elt fe)
    (hsw : swapsWith (.ListComp elt [⟨tg, iter, ifs, 0⟩] scope pos) (some (.Name y pos')) spos.line X.env = pure true := by rfl) (hs : ∀ x, foldedSetIterable iter X.env x = pure x := by intro _; rfl) :
    SS X g ro mb m (.Assign [.Name y pos'] (.ListComp elt [⟨tg, iter, ifs, 0⟩] scope pos) spos) (setF m i (fComp nl cap fi ft q fe)) (m.set i .ow) := by
  refine ⟨by simp, ?_⟩
  intro pins s σ H D0 I h
  obtain ⟨r, G, si, k⟩ := h
  obtain ⟨cl, hcl, h1, h2⟩ := sc.clo (pins := pins) (σ := σ) (H := H) (s := s) I.ok
  have k1 := fComp_fin (onE_fin si (m' := m.set i .ow) (by simp) k)
  rw [exec_Assign_Name_used _ _ _ _ hsw]
  refine wpAny_bind (wpAny_standAt (wpAny_bind ?_))
  show wpAny _ X.A (do let _ ← comprehension (.ListComp elt [⟨tg, iter, ifs, 0⟩] scope pos) scope X.env _ (newList []) false (eval iter X.env) (some (assign (.Name y pos') X.env))) _ _ s
  refine wpAny_bind (wpAny_mono (wpAny_comprehension_free (use := some (assign (.Name y pos') X.env)) (Q := fun _ s' => SP X pins D0 .next s') rfl hs hcl sc.kind sc.names (thn (hi pins s σ H (fun J H' => ∃ G' ds vs, Grow X.K G H G' H' ∧ YieldsC X.K J ds G' H' ∧ ds.length ≤ sizeLine ∧ compF ft q fe (capR nl cap r) ds = .ok vs ∧
    (∀ σ' G' H', Gle G G' → SI X g (m.set i .ow) (r.set i (some (.lst vs))) G' σ' H' → D0.nx σ' H')) I ⟨r, G, si, fin_mono k1 fun ds ⟨vs, z1, z2, z3⟩ J G' H' w y => ⟨G', ds, vs, w, y, z1, z2, z3⟩⟩) fun v s1 hv => thn hv fun itv s2 hv2 => ?_)) (fun _ s' hq => wpAny_pure (wpAny_pure hq)) fun _ _ e => e)
  obtain ⟨it, fp, tn, J, H2, rfl, I2, T, st, hf, G2, ds, vs, w2, Y, hsz, hres, hQ⟩ := hv2
  refine comp_core (RR := fun acc C => compPost (model X.prog X.w) X.A X.xe (some (assign (.Name y pos') X.env)) (fun _ s' => SP X pins D0 .next s') acc C) hN hcalm sc h1 h2 I2 (si.grow w2) T st hf Y hsz (fun C => hg _ _ _ _ _ _) hft (fun C => hq _ _ _ _ _ _) (fun C => he _ _ _ _ _ _) hres ?_
  intro p C s' H' G' I' hns hC1 hC2 hC3 hC4 hC5 w' hp ho
  obtain ⟨mm, hn⟩ := hns
  show wpAny _ X.A (assign (.Name y pos') X.env (.ref p)) _ _ s'
  refine wpAny_assign_Name (store_ok2 I' hN hy (.inl hyl) (v := .ref p) rfl (fun s'' I'' ⟨a, hsb, ha⟩ => ?_) (.inr hyl))
  have hCa : C ≠ a := by
    rcases ha with z | z
    · rw [z]; exact hC2
    · exact (hC4 y a z).symm
  refine ⟨mm, hn.sameBut hsb hCa, fun h' hsb' => ?_⟩
  refine ⟨_, H', I''.turned (it := C) (t' := s''.toks) (fun b o hb e => hsb'.extBut b o hb e) hC1 hC2 (.inr hC3) hC4 hC5, ?_⟩
  exact hQ _ G' H' (w2.trans w').ge (si.setN (w2.trans w') i (w2.back hp) ho)
end
end DL
end
section
set_option Elab.async false
set_option linter.all false
set_option maxRecDepth 100000
namespace DL
open PySem PySem.Spec PyProof.Rows L2
noncomputable def MutD (K : PySem.W.Frag) (r : V → List V → Hp → VK → Prop) (mk : D → List D → Option D) : Prop := ∀ (G : GH) (H : Hp) (a : Addr) (d : D) (vs : List V) (ds : List D) (d' : D) (Q : VK), GOk K G H → Own K G H a d → RGs K G vs ds → mk d ds = some d' →
  (∀ o', OwnO K G (upd H a o') a d' → Q .non (upd H a o')) → r (.ref a) vs H Q
noncomputable def tyB (T : String) : D → Bool
  | .lst _ => T == "list"
  | .dic _ => T == "dict"
  | _ => false
noncomputable def mutF (T : String) (m : List Md) (i : Nat) (fl : Rho → Res (List D)) (mk : D → List D → Option D) : FS := fun r => match r[i]? with
  | some (some d) => if tyB T d = true then onE m r (fl r) fun ds => (match mk d ds with
    | some d' => .nx (r.set i (some d'))
    | none => .stuck) else .stuck
  | _ => .stuck
theorem ty_own {K : PySem.W.Frag} {G : GH} {H : Hp} {a : Addr} {d : D} {T : String} (o : Own K G H a d) (t : tyB T d = true) : tyV K T (.ref a) H := by
  cases o.ob with
  | lst r s => exact .inl ⟨eq_of_beq t, _, SqL.of r⟩
  | dic r s => exact .inr (.inr (.inl ⟨eq_of_beq t, .inl ⟨_, .inl r⟩⟩))
section
variable {X : Cx} {g : GE} {m mb : List Md} {e a b o : Expr} {es : List Expr} {f fa fb : FE} {fl : Rho → Res (List D)} {pos pos' apos cpos : Pos} {ro : Bool} {x name : Str} {T id : String} {R : V → List V → Hp → VK → Prop} {mk : D → List D → Option D}
theorem mut_core (i : Nat) (hm : m[i]? = some .ow) (hk : MutD X.K R mk) {D0 : Ends} {σ : L2.St} {H : Hp} (h : tS X g ro m m mb (mutF T m i fl mk) D0 σ H) :
    ∃ v, σ[i]? = some (some v) ∧ tyV X.K T v H ∧ tL X g m fl σ H fun xs H2 => R v xs H2 fun _ H1 => D0.nx σ H1 := by
  obtain ⟨r, G, si, k⟩ := h
  unfold mutF at k
  cases er : r[i]? with
  | none => simp only [er] at k; exact (show False from k).elim
  | some oo =>
    cases oo with
    | none => simp only [er] at k; exact (show False from k).elim
    | some d =>
      simp only [er] at k
      by_cases ht : tyB T d = true
      · rw [if_pos ht] at k
        obtain ⟨a, h1, h2, h3⟩ := si.mut hm er
        refine ⟨_, h1, ty_own h2 ht, r, G, si, fin_mono (onE_fin si rfl k) fun ds k2 vs G' H' w rs => ?_⟩
        cases em : mk d ds with
        | none => simp only [em] at k2; exact (show False from k2).elim
        | some d' =>
          simp only [em] at k2
          obtain ⟨a', h1', h2', h3'⟩ := (si.grow w).mut hm er
          rw [h1] at h1'; cases h1'
          exact hk G' H' a d vs ds d' _ w.ok h2' rs em fun o' ob => k2 σ G' _ w.ge (h3' o' d' ob)
      · rw [if_neg ht] at k; exact (show False from k).elim
theorem s_mut (i : Nat) (hm : m[i]? = some .ow) (pa : PlainAttrs T) (slot : Slot T name id) (hty : typeOf (.builtin id) = pure (.type "method_descriptor")) (hmt : MtR X id R) (hk : MutD X.K R mk) (hN : X.N[i]? = some x) (hv : Vis X.env.scope x) (ha : SA X g m (e :: es) fl)
    (hd : (x == ("__debug__" : Str)) = false := by decide) (hcd : (x == ("__classdict__" : Str)) = false := by decide)
    (hbase : attributeBase (.Name x pos') name X.env (eval (.Name x pos') X.env) = eval (.Name x pos') X.env := by rfl)
    (hfew : ((backTo cpos (starEach (e :: es) X.env)).all (fun x => !x.1) && (backToKw cpos (keywordEach [] X.env)).all (fun x => x.1.isSome) && decide ((e :: es).length + ([] : List Keyword).length + (if ([] : List Keyword).isEmpty then 0 else 1) < 30)) = true := by rfl)
    (hline : (apos.endLine == cpos.line) = true := by rfl) (hst : starEach (e :: es) X.env = (false, eval e X.env) :: starEach es X.env := by rfl) (hplain : (backTo cpos (starEach es X.env)).any (·.1) = false := by rfl) :
    SS X g ro mb m (.Expr (.Call (.Attribute (.Name x pos') name apos) (e :: es) [] cpos) pos) (mutF T m i fl mk) m :=
  ⟨rfl, PS.imp (ps_expr (pe_bm pa slot hty hmt (pe_var hN hv hd hcd) ha hbase hfew hline hst hplain)) fun D0 σ H h => mut_core i hm hk h⟩
noncomputable def appD : D → List D → Option D
  | .lst ds, [d] => if ds.length < sizeLine then some (.lst (ds ++ [d])) else none
  | _, _ => none
theorem app_ok {K : PySem.W.Frag} : MutD K rAppend appD := by
  intro G H a d vs ds d' Q gk ow rs e q
  unfold appD at e
  split at e
  · split at e
    · rename_i hl
      cases e
      cases ow.ob with
      | lst r s =>
        cases rs with
        | cons r1 t =>
          cases t
          have := Paired.length s
          exact ⟨a, _, _, rfl, rfl, r, by omega, q _ (.lst upd_same (Paired.snoc s r1))⟩
    · cases e
  · cases e
theorem Paired.rev {α β : Type} {F : α → β → Prop} : ∀ {l : List α} {r : List β}, Paired F l r → Paired F l.reverse r.reverse
  | _, _, .nil => .nil
  | _, _, .cons h t => by rw [List.reverse_cons, List.reverse_cons]; exact Paired.snoc (Paired.rev t) h
noncomputable def insAt (x : Int) (n : Nat) : Nat := if x < 0 then (x + (n : Int)).toNat else min x.toNat n
noncomputable def insL {α : Type} (xs : List α) (x : Int) (y : α) : List α := xs.take (insAt x xs.length) ++ y :: xs.drop (insAt x xs.length)
noncomputable def rInsert : V → List V → Hp → VK → Prop := fun x vs H Q => ∃ l xs i y, x = .ref l ∧ vs = [.int i, y] ∧ H l = some (.lst xs) ∧ -(2 ^ 63) ≤ i ∧ i < 2 ^ 63 ∧ xs.length < sizeLine ∧ Q .non (upd H l (.lst (insL xs i y)))
theorem mt_insert : MtR X "list.insert" rInsert := by
  intro pins s σ H x vs v us Q I rx rv h
  obtain ⟨l, xs, i, y, rfl, rfl, hH, h1, h2, hz, q⟩ := h
  cases rx
  obtain ⟨u, w', rfl, ⟨t, rfl⟩, ry⟩ := vals2 rv
  obtain ⟨z, its, n, r, hl, e⟩ := I.lstM hH
  have hfit : ¬(!Builtin.List.listFitsIndex i) = true := by rw [fitsIndex_both h1 h2]; exact Bool.false_ne_true
  refine call_meets PySem.F.slot_list_insert ⟨_, e, rfl⟩ PySem.F.entry_list_insert (PySem.F.args_list_insert_3 _ _ _) (AutoListH.list_insert_list_int_val_1 l its.toArray n i t w' hfit (by rw [List.size_toArray]; omega)) ⟨e, ?_⟩
  refine ⟨.non, _, I.lset (its' := insL its i w') hH e ?_ ?_ ?_, rfl, q⟩
  · show ((its.toArray.extract 0 (if i < 0 then (i + ((its.toArray.size : Nat) : Int)).toNat else min i.toNat its.toArray.size)).push w' ++ its.toArray.extract (if i < 0 then (i + ((its.toArray.size : Nat) : Int)).toNat else min i.toNat its.toArray.size)) = (insL its i w').toArray
    rw [List.size_toArray]
    unfold insL insAt
    generalize (if i < 0 then (i + ((its.length : Nat) : Int)).toNat else min i.toNat its.length) = k
    apply Array.ext'
    simp
    exact List.take_of_length_le (by rw [List.length_drop]; exact Nat.le_refl _)
  · unfold insL
    rw [hl]
    exact Vals.append (r.take _) (.cons ry (r.drop _))
  · unfold insL
    rw [List.length_append, List.length_cons, List.length_take, List.length_drop]
    omega
noncomputable def insD : D → List D → Option D
  | .lst ds, [.int i, d] => if ds.length < sizeLine ∧ -(2 ^ 63) ≤ i ∧ i < 2 ^ 63 then some (.lst (insL ds i d)) else none
  | _, _ => none
theorem insL_p {α β : Type} {F : α → β → Prop} {l : List α} {r : List β} {x : α} {y : β} (h : Paired F l r) (i : Int) (hxy : F x y) : Paired F (insL l i x) (insL r i y) := by
  unfold insL
  rw [Paired.length h]
  exact Paired.app (Paired.tk _ h) (.cons hxy (Paired.dr _ h))
theorem ins_ok {K : PySem.W.Frag} : MutD K rInsert insD := by
  intro G H a d vs ds d' Q gk ow rs e q
  unfold insD at e
  split at e
  · split at e
    · rename_i hl
      cases e
      cases ow.ob with
      | lst r s =>
        cases rs with
        | cons r1 t =>
          cases t with
          | cons r2 t =>
            cases t
            have := Paired.length s
            exact ⟨a, _, _, _, rfl, by rw [r1.int gk], r, hl.2.1, hl.2.2, by omega, q _ (.lst upd_same (insL_p s _ r2))⟩
    · cases e
  · cases e
end
noncomputable def flatD : D → Bool
  | .non => true
  | .bl _ => true
  | .int _ => true
  | .str _ => true
  | _ => false
noncomputable def toV : D → V
  | .non => .non
  | .bl b => .bl b
  | .int i => .int i
  | .str x => .str x
  | _ => .non
noncomputable def eqs (a b : D) : Bool := eqV (toV a) (toV b)
@[simp] theorem eqs_int (a b : Int) : eqs (.int a) (.int b) = (a == b) := rfl
@[simp] theorem eqs_str (a b : Str) : eqs (.str a) (.str b) = (a == b) := rfl
@[simp] theorem eqs_non_int (b : Int) : eqs .non (.int b) = false := rfl
@[simp] theorem eqs_int_non (b : Int) : eqs (.int b) .non = false := rfl
section
variable {K : PySem.W.Frag} {G : GH} {H : Hp} {v : V} {d : D}
theorem RB.flat (h : RB K G H v d) (gk : GOk K G H) (hf : flatD d = true) : v = toV d ∧ flatV v = true := by
  cases d with
  | non => rw [h.non gk]; exact ⟨rfl, rfl⟩
  | bl b => rw [h.bl gk]; exact ⟨rfl, rfl⟩
  | int i => rw [h.int gk]; exact ⟨rfl, rfl⟩
  | str x => rw [h.str gk]; exact ⟨rfl, rfl⟩
  | _ => cases hf
end
noncomputable def keyD : D → Option Key
  | .int i => some (.inl i)
  | .str x => some (.inr x)
  | _ => none
noncomputable def getK (kvs : List (Key × D)) (k : Key) : Option D := (kvs.find? fun kv => decide (kv.1 = k)).map (·.2)
theorem find_p {K : PySem.W.Frag} {G : GH} {k : Key} : ∀ {ps : List (Key × V)} {kvs : List (Key × D)}, RKs K G ps kvs → ∀ d, getK kvs k = some d → ∃ v, valV ps k = some v ∧ RG K G v d
  | _, _, .nil, d, e => by cases e
  | (k1, v1) :: ps, (k2, d2) :: kvs, .cons ⟨e1, r1⟩ t, d, e => by
    have e1' : k1 = k2 := e1
    subst e1'
    by_cases hk : k1 = k
    · subst hk
      have : d2 = d := by simpa [getK, List.find?_cons] using e
      subst this
      exact ⟨v1, valV_pos rfl, r1⟩
    · have e' : getK kvs k = some d := by simpa [getK, List.find?_cons, hk] using e
      obtain ⟨v, h1, h2⟩ := find_p t d e'
      exact ⟨v, by rw [valV_neg hk]; exact h1, h2⟩
theorem keyD_v {K : PySem.W.Frag} {G : GH} {H : Hp} {v : V} {d : D} {k : Key} (gk : GOk K G H) (h : RB K G H v d) (e : keyD d = some k) : v = kV k := by
  cases d with
  | int i => cases e; exact h.int gk
  | str x => cases e; exact h.str gk
  | _ => cases e
section
variable {X : Cx} {g : GE} {m mb : List Md} {e a b o c : Expr} {f fa fb fc : FE} {pos pos' : Pos}
noncomputable def isD : D → D → Option D
  | .non, .non => some (.bl true)
  | _, .non => some (.bl false)
  | _, _ => none
noncomputable def isnD : D → D → Option D
  | .non, .non => some (.bl false)
  | _, .non => some (.bl true)
  | _, _ => none
end
end DL
end
section
set_option Elab.async false
set_option linter.all false
set_option maxRecDepth 100000
namespace DL
open PySem PySem.Spec PyProof.Rows L2
section
variable {X : Cx} {g : GE} {m mb : List Md} {e a b o c : Expr} {f fa fb fc : FE} {pos pos' p1 p2 : Pos} {ro : Bool} {x : Str}
noncomputable def rIxD : R2 := fun x y H Q => ∃ a v, x = .ref a ∧ DGet H a y (some v) ∧ Q v H
theorem ix_dic (hu : X.A.units + 1 < cLine) : IxR X rIxD := by
  intro value slice pins s σ H x y v u Q I rx ry h hs
  obtain ⟨a, w, rfl, hg, q⟩ := h
  cases rx
  exact tail_any (dict_typeIs I hg) PySem.F.slot_dict_getitem.lookup (d_getItem hu I hg ry fun w' s' I' rw' => ⟨w, H, I', rw', q⟩) hs
noncomputable def ixA : D → D → Option D
  | .dic kvs, k => (keyD k).bind (getK kvs)
  | c, k => ixD c k
theorem ixA_ok {K : PySem.W.Frag} : OpD K (fun x y H Q => rIxD x y H Q ∨ rIx K x y H Q) ixA := by
  intro G H v1 v2 d1 d2 d Q gk r1 r2 e q
  cases d1 with
  | dic kvs =>
    obtain ⟨a, ps, rfl, hs, rs⟩ := r1.dic gk
    have e' : (keyD d2).bind (getK kvs) = some d := e
    cases ek : keyD d2 with
    | none => rw [ek] at e'; cases e'
    | some k =>
      rw [ek] at e'
      obtain ⟨v, h1, h2⟩ := find_p rs d e'
      refine .inl ⟨a, v, rfl, ?_, q v G H (Grow.refl gk) h2⟩
      rw [keyD_v gk r2 ek, ← h1]
      exact .inl ⟨ps, k, hs, rfl, rfl⟩
  | lst ds => exact .inr (ix_ok G H v1 v2 _ d2 d Q gk r1 r2 e q)
  | tup ds => exact .inr (ix_ok G H v1 v2 _ d2 d Q gk r1 r2 e q)
  | str ds => exact .inr (ix_ok G H v1 v2 _ d2 d Q gk r1 r2 e q)
  | _ => cases e
theorem s_ixA (hu : X.A.units + 1 < cLine) (ha : SB X g m a fa) (hb : SB X g m b fb) (hs : PlainIx b := by intro _ _; rfl) : SE X g m (.Subscript a b pos) (f2 fa fb ixA) := s_op2 ixA_ok (pe_ix (IxR.or (ix_dic hu) ix_seq) ha hb hs)
noncomputable def putD (kvs : List (Key × D)) (k : Key) (d : D) : List (Key × D) := if (kvs.any fun kv => decide (kv.1 = k)) = true then kvs.map fun kv => if kv.1 = k then (kv.1, d) else kv else kvs ++ [(k, d)]
theorem any_keys {K : PySem.W.Frag} {G : GH} {k : Key} : ∀ {ps : List (Key × V)} {kvs : List (Key × D)}, RKs K G ps kvs → (ps.any fun kv => decide (kv.1 = k)) = kvs.any fun kv => decide (kv.1 = k)
  | _, _, .nil => rfl
  | _, _, .cons r t => by rw [List.any_cons, List.any_cons, any_keys t, r.1]
theorem put_p {K : PySem.W.Frag} {G : GH} {ps : List (Key × V)} {kvs : List (Key × D)} {k : Key} {v : V} {d : D} (r : RKs K G ps kvs) (h : RG K G v d) : RKs K G (putK ps k v) (putD kvs k d) := by
  unfold putK putD
  rw [any_keys r]
  by_cases hc : (kvs.any fun kv => decide (kv.1 = k)) = true
  · rw [if_pos hc, if_pos hc]
    clear hc
    induction r with
    | nil => exact .nil
    | @cons p q ps kvs r t ih =>
      refine .cons ?_ ih
      obtain ⟨p1, p2⟩ := p
      obtain ⟨q1, q2⟩ := q
      have e : p1 = q1 := r.1
      subst e
      by_cases hk : p1 = k
      · simp only [hk, if_true, true_and]; exact h
      · simp only [hk, if_false, true_and]; exact r.2
  · rw [if_neg hc, if_neg hc]
    exact Paired.snoc r ⟨rfl, h⟩
noncomputable def stoD : D → D → D → Option D
  | .lst ds, .int k, v => (ixN ds.length k).map fun j => .lst (ds.set j v)
  | .dic kvs, k, v => (keyD k).bind fun k => if kvs.length < sizeLine then some (.dic (putD kvs k v)) else none
  | _, _, _ => none
noncomputable def rSetD : V → V → V → Hp → (Hp → Prop) → Prop := fun o i v H Q => ∃ p H', o = .ref p ∧ DPut H p i v H' ∧ Q H'
theorem set_dic (hu : X.A.units + 1 < cLine) : PSet X rSetD := by
  intro pins s σ H o i v ov iv u Q I ro ri rv h
  obtain ⟨p, H', rfl, hp, q⟩ := h
  cases ro
  exact d_setItem hu I hp ri rv fun s' I' => ⟨H', I', q⟩
theorem PSet.or {t t' : TSet} (h : PSet X t) (h' : PSet X t') : PSet X (fun o i v H Q => t o i v H Q ∨ t' o i v H Q) := by
  intro pins s σ H o i v ov iv u Q I ro ri rv q
  rcases q with q | q
  · exact h pins s σ H o i v ov iv u Q I ro ri rv q
  · exact h' pins s σ H o i v ov iv u Q I ro ri rv q
theorem sto_ok {K : PySem.W.Frag} {G : GH} {H : Hp} {a : Addr} {d k v d' : D} {kv vv : V} {Q : Hp → Prop} (gk : GOk K G H) (ow : Own K G H a d) (rk : RB K G H kv k) (rv : RG K G vv v) (e : stoD d k v = some d') (q : ∀ o', OwnO K G (upd H a o') a d' → Q (upd H a o')) :
    rSetL (.ref a) kv vv H Q ∨ rSetD (.ref a) kv vv H Q := by
  cases ow.ob with
  | @lst xs ds r s =>
    cases k with
    | int k =>
      have e' : (ixN ds.length k).map (fun j => D.lst (ds.set j v)) = some d' := e
      cases ej : ixN ds.length k with
      | none => rw [ej] at e'; cases e'
      | some j =>
        rw [ej] at e'
        cases e'
        exact .inl ⟨a, xs, k, j, rfl, rk.int gk, r, by rw [Paired.length s]; exact ej, q _ (.lst upd_same (Paired.st rv j s))⟩
    | _ => cases e
  | @dic ps kvs r s =>
    have e' : (keyD k).bind (fun k => if kvs.length < sizeLine then some (D.dic (putD kvs k v)) else none) = some d' := e
    cases ek : keyD k with
    | none => rw [ek] at e'; cases e'
    | some k' =>
      rw [ek] at e'
      have e2 : (if kvs.length < sizeLine then some (D.dic (putD kvs k' v)) else none) = some d' := e'
      by_cases hl : kvs.length < sizeLine
      · rw [if_pos hl] at e2
        cases e2
        have := Paired.length s
        refine .inr ⟨a, _, rfl, ?_, q _ (.dic upd_same (put_p s rv))⟩
        rw [keyD_v gk rk ek]
        exact DPut.k r (by omega)
      · rw [if_neg hl] at e2; cases e2
noncomputable def putF (m : List Md) (i : Nat) (fk fv : FE) : FS := fun r => onE m r (fv r) fun v => match r[i]? with
  | some (some d) => onE m r (fk r) fun k => (match stoD d k v with
    | some d' => .nx (r.set i (some d'))
    | none => .stuck)
  | _ => .stuck
theorem s_put (i : Nat) (hu : X.A.units + 1 < cLine) (hm : m[i]? = some .ow) (hN : X.N[i]? = some x) (hv : Vis X.env.scope x) (hk : SB X g m b fb) (he : SE X g m e f)
    (hd : (x == ("__debug__" : Str)) = false := by decide) (hcd : (x == ("__classdict__" : Str)) = false := by decide)
    (ha : ∀ v, assign (.Subscript (.Name x p1) b p2) X.env v = (do
      let ov ← holding [v] (eval (.Name x p1) X.env)
      let iv ← holding [v, ov] (eval b X.env)
      standAt p2
      holding [v, ov, iv] (setItem ov iv v)
      release [v, ov, iv] []) := by intro _; rfl)
    (hs : swapsWithSole [.Subscript (.Name x p1) b p2] e pos.line X.env = pure false := by rfl) (hw : swappedStores [.Subscript (.Name x p1) b p2] e X.env = pure none := by rfl)
    (h1 : (assignEach [.Subscript (.Name x p1) b p2] X.env).map (·.2) = [assign (.Subscript (.Name x p1) b p2) X.env] := by rfl) :
    SS X g ro mb m (.Assign [.Subscript (.Name x p1) b p2] e pos) (putF m i fb f) m := by
  refine ⟨rfl, PS.imp (ps_asg he (pg_sub (pe_var hN hv hd hcd) hk (PSet.or set_list (set_dic hu)) ha) hs hw h1) fun D0 σ H ⟨r, G, si, k⟩ => ⟨r, G, si, ?_⟩⟩
  refine fin_mono (onE_fin si rfl k) fun v k1 vv G1 H1 w1 rv => ?_
  cases er : r[i]? with
  | none => simp only [er] at k1; exact (show False from k1).elim
  | some oo =>
    cases oo with
    | none => simp only [er] at k1; exact (show False from k1).elim
    | some d =>
      simp only [er] at k1
      obtain ⟨a, h1, h2, h3⟩ := (si.grow w1).mut hm er
      refine ⟨_, h1, r, G1, si.grow w1, ?_⟩
      refine fin_mono (onE_fin (m := m) (si.grow w1) rfl (oTo.gle k1 w1.ge)) fun kk k2 kv G2 H2 w2 rk => ?_
      cases es : stoD d kk v with
      | none => simp only [es] at k2; exact (show False from k2).elim
      | some d' =>
        simp only [es] at k2
        obtain ⟨a', h1', h2', h3'⟩ := ((si.grow w1).grow w2).mut hm er
        rw [h1] at h1'; cases h1'
        exact sto_ok w2.ok h2' rk (rv.mono w2.ge) es fun o' ob => k2 σ G2 _ w2.ge (h3' o' d' ob)
end
mutual
noncomputable def toPy : D → PyData
  | .non => .none
  | .bl b => .bool b
  | .int i => .int i
  | .str x => .str x
  | .tup ds => .tuple (toPys ds)
  | .lst ds => .list (toPys ds)
  | .dic _ => .none
  | .obj _ _ => .none
noncomputable def toPys : List D → List PyData
  | [] => []
  | d :: ds => toPy d :: toPys ds
end
noncomputable def Shp : Nat → D → Prop
  | _, .non => True
  | _, .bl _ => True
  | _, .int _ => True
  | _, .str x => PyData.strOk x = true
  | 0, .tup _ => False
  | 0, .lst _ => False
  | k + 1, .tup ds => ∀ d ∈ ds, Shp k d
  | k + 1, .lst ds => ∀ d ∈ ds, Shp k d
  | _, .dic _ => False
  | _, .obj _ _ => False
theorem shp_lst {k : Nat} {ds : List D} : Shp (k + 1) (.lst ds) ↔ ∀ d ∈ ds, Shp k d := by simp only [Shp]
theorem shp_tup {k : Nat} {ds : List D} : Shp (k + 1) (.tup ds) ↔ ∀ d ∈ ds, Shp k d := by simp only [Shp]
noncomputable def eqb (a b : D) : Bool := PyData.eqv (toPy a) (toPy b)
section
variable {X : Cx} {pins : List (Addr × Obj)} {σ : L2.St} {H : Hp} {s : Shared} {G : GH}
theorem reads_all {k : Nat} (ih : ∀ (d : D) (v : V) (u : Value), Shp k d → RG X.K G v d → L2.RelV v u → ∃ as, Reads s.heap u (toPy d) as) : ∀ (ds : List D) (vs : List V) (us : List Value), (∀ d ∈ ds, Shp k d) → RGs X.K G vs ds → Vals vs us → ∃ as, ReadsAll s.heap us (toPys ds) as
  | [], _, _, _, .nil, .nil => ⟨[], .nil⟩
  | d :: ds, _, _, h, .cons r t, .cons r' t' => by
    obtain ⟨a1, h1⟩ := ih d _ _ (h d List.mem_cons_self) r r'
    obtain ⟨a2, h2⟩ := reads_all ih ds _ _ (fun x hx => h x (List.mem_cons_of_mem _ hx)) t t'
    exact ⟨a1 ++ a2, .cons h1 h2⟩
theorem reads_of (I : Inv X pins σ H s) (gk : GOk X.K G H) : ∀ (k : Nat) (d : D) (v : V) (u : Value), Shp k d → RB X.K G H v d → L2.RelV v u → ∃ as, Reads s.heap u (toPy d) as := by
  intro k
  induction k with
  | zero =>
    intro d v u hs r ru
    cases d with
    | non => rw [r.non gk] at ru; cases ru; exact ⟨_, .none⟩
    | bl b => rw [r.bl gk] at ru; cases ru; exact ⟨_, .bool b⟩
    | int i => rw [r.int gk] at ru; obtain ⟨t, rfl⟩ := ru; exact ⟨_, .int i t⟩
    | str x => rw [r.str gk] at ru; obtain ⟨t, rfl⟩ := ru; exact ⟨_, .str x t⟩
    | tup _ => unfold Shp at hs; exact hs.elim
    | lst _ => unfold Shp at hs; exact hs.elim
    | dic _ => unfold Shp at hs; exact hs.elim
    | obj _ _ => unfold Shp at hs; exact hs.elim
  | succ k ih =>
    intro d v u hs r ru
    cases d with
    | non => rw [r.non gk] at ru; cases ru; exact ⟨_, .none⟩
    | bl b => rw [r.bl gk] at ru; cases ru; exact ⟨_, .bool b⟩
    | int i => rw [r.int gk] at ru; obtain ⟨t, rfl⟩ := ru; exact ⟨_, .int i t⟩
    | str x => rw [r.str gk] at ru; obtain ⟨t, rfl⟩ := ru; exact ⟨_, .str x t⟩
    | tup ds =>
      obtain ⟨a, xs, rfl, sq, rs⟩ := r.tup gk
      cases ru
      obtain ⟨its, rv, pl, _⟩ := I.tuple sq
      obtain ⟨o, ho, hc, n, hd⟩ := pl
      obtain ⟨as, h⟩ := reads_all (k := k) (fun d v u h1 h2 h3 => ih d v u h1 h2.rb h3) ds xs its (shp_tup.mp hs) rs rv
      refine ⟨as, ?_⟩
      unfold toPy
      exact .tuple ho hc hd (by simpa using h)
    | lst ds =>
      obtain ⟨a, xs, rfl, sq, rs⟩ := r.lst gk
      cases ru
      obtain ⟨its, rv, pl, _⟩ := I.list sq
      obtain ⟨o, ho, hc, n, hd⟩ := pl.isList
      obtain ⟨as, h⟩ := reads_all (k := k) (fun d v u h1 h2 h3 => ih d v u h1 h2.rb h3) ds xs its (shp_lst.mp hs) rs rv
      refine ⟨a :: as, ?_⟩
      unfold toPy
      exact .list ho hc hd (by simpa using h)
    | dic _ => unfold Shp at hs; exact hs.elim
    | obj _ _ => unfold Shp at hs; exact hs.elim
theorem shp_all {k : Nat} (ih : ∀ d, Shp k d → PyData.canLay0 (toPy d) = true ∧ PyData.depth (toPy d) ≤ k) : ∀ ds : List D, (∀ d ∈ ds, Shp k d) → PyData.canLayAll0 (toPys ds) = true ∧ PyData.depthAll (toPys ds) ≤ k
  | [], _ => by unfold toPys PyData.canLayAll0 PyData.depthAll; exact ⟨rfl, Nat.zero_le _⟩
  | d :: ds, h => by
    obtain ⟨a1, a2⟩ := ih d (h d List.mem_cons_self)
    obtain ⟨b1, b2⟩ := shp_all ih ds fun x hx => h x (List.mem_cons_of_mem _ hx)
    unfold toPys PyData.canLayAll0 PyData.depthAll
    rw [a1, b1]
    exact ⟨rfl, Nat.max_le.mpr ⟨a2, b2⟩⟩
theorem shp_ok : ∀ (k : Nat) (d : D), Shp k d → PyData.canLay0 (toPy d) = true ∧ PyData.depth (toPy d) ≤ k := by
  intro k
  induction k with
  | zero =>
    intro d hs
    cases d with
    | non => unfold toPy PyData.canLay0 PyData.depth; exact ⟨rfl, Nat.zero_le _⟩
    | bl b => unfold toPy PyData.canLay0 PyData.depth; exact ⟨rfl, Nat.zero_le _⟩
    | int i => unfold toPy PyData.canLay0 PyData.depth; exact ⟨rfl, Nat.zero_le _⟩
    | str x => unfold Shp at hs; unfold toPy PyData.canLay0 PyData.depth; exact ⟨hs, Nat.zero_le _⟩
    | tup _ => unfold Shp at hs; exact hs.elim
    | lst _ => unfold Shp at hs; exact hs.elim
    | dic _ => unfold Shp at hs; exact hs.elim
    | obj _ _ => unfold Shp at hs; exact hs.elim
  | succ k ih =>
    intro d hs
    cases d with
    | non => unfold toPy PyData.canLay0 PyData.depth; exact ⟨rfl, Nat.zero_le _⟩
    | bl b => unfold toPy PyData.canLay0 PyData.depth; exact ⟨rfl, Nat.zero_le _⟩
    | int i => unfold toPy PyData.canLay0 PyData.depth; exact ⟨rfl, Nat.zero_le _⟩
    | str x => unfold Shp at hs; unfold toPy PyData.canLay0 PyData.depth; exact ⟨hs, Nat.zero_le _⟩
    | tup ds =>
      obtain ⟨b1, b2⟩ := shp_all ih ds (shp_tup.mp hs)
      unfold toPy PyData.canLay0 PyData.depth
      exact ⟨b1, Nat.succ_le_succ b2⟩
    | lst ds =>
      obtain ⟨b1, b2⟩ := shp_all ih ds (shp_lst.mp hs)
      unfold toPy PyData.canLay0 PyData.depth
      exact ⟨b1, Nat.succ_le_succ b2⟩
    | dic _ => unfold Shp at hs; exact hs.elim
    | obj _ _ => unfold Shp at hs; exact hs.elim
theorem shaped_of {d : D} (h : Shp 60 d) : SeqAt.shaped (toPy d) = true := by
  obtain ⟨a, b⟩ := shp_ok 60 d h
  unfold SeqAt.shaped
  rw [a, decide_eq_true (Nat.le_trans b (by decide))]
  rfl
end
section
variable {X : Cx} {g : GE} {m mb : List Md} {e a b o c : Expr} {f fa fb fc : FE} {pos pos' : Pos}
noncomputable def scalD (a b : D) : Bool := flatD a && flatD b && scal (toV a) (toV b)
open Classical in
noncomputable def eqB (a b : D) : Option Bool := if scalD a b = true then some (eqs a b) else if Shp 60 a ∧ Shp 60 b then some (eqb a b) else none
noncomputable def eqD (a b : D) : Option D := (eqB a b).map .bl
noncomputable def neD (a b : D) : Option D := (eqB a b).map fun c => .bl (!c)
theorem eqB_deep {a b : D} (h : scalD a b = false) (h1 : Shp 60 a) (h2 : Shp 60 b) : eqB a b = some (eqb a b) := by
  unfold eqB
  rw [if_neg (by rw [h]; exact Bool.false_ne_true), if_pos ⟨h1, h2⟩]
theorem eqB_scal {a b : D} (h : scalD a b = true) : eqB a b = some (eqs a b) := by
  unfold eqB
  rw [if_pos h]
@[simp] theorem eqB_int (a b : Int) : eqB (.int a) (.int b) = some (a == b) := eqB_scal rfl
@[simp] theorem eqB_str (a b : Str) : eqB (.str a) (.str b) = some (a == b) := eqB_scal rfl
@[simp] theorem eqB_non_int (b : Int) : eqB .non (.int b) = some false := eqB_scal rfl
@[simp] theorem eqB_int_non (b : Int) : eqB (.int b) .non = some false := eqB_scal rfl
@[simp] theorem eqB_non_non : eqB .non .non = some true := eqB_scal rfl
theorem scal_dec {a b : D} (h : scal (toV a) (toV b) = true) (fa : flatD a = true) (fb : flatD b = true) : decide (toV a = toV b) = eqs a b := by
  cases a <;> cases b <;> first
    | exact absurd (show false = true from fa) Bool.false_ne_true
    | exact absurd (show false = true from fb) Bool.false_ne_true
    | exact absurd (show false = true from h) Bool.false_ne_true
    | exact dec_int
    | exact dec_bl
    | exact dec_str
    | rfl
    | simp [toV, eqs, eqV]
noncomputable def rEqDeep (K : PySem.W.Frag) (neg : Bool) : R2 := fun x y H Q => ∃ (G : GH) (d1 d2 : D), GOk K G H ∧ RB K G H x d1 ∧ RB K G H y d2 ∧ Shp 60 d1 ∧ Shp 60 d2 ∧ Q (.bl (if neg then !eqb d1 d2 else eqb d1 d2)) H
theorem op_eqDeep (hu : X.A.units + 64 < cLine) : OpR X (compareOp .Eq) (rEqDeep X.K false) := by
  intro pins s σ H x y v u Q I rx ry h
  obtain ⟨G, d1, d2, gk, r1, r2, s1, s2, q⟩ := h
  obtain ⟨as, h1⟩ := reads_of I gk 60 d1 x v s1 r1 rx
  obtain ⟨bs, h2⟩ := reads_of I gk 60 d2 y u s2 r2 ry
  exact SeqAt.compareEq_shaped h1 h2 (shaped_of s1) (shaped_of s2) hu ⟨.bl _, H, I, rfl, q⟩
theorem op_neDeep (hu : X.A.units + 64 < cLine) : OpR X (compareOp .NotEq) (rEqDeep X.K true) := by
  intro pins s σ H x y v u Q I rx ry h
  obtain ⟨G, d1, d2, gk, r1, r2, s1, s2, q⟩ := h
  obtain ⟨as, h1⟩ := reads_of I gk 60 d1 x v s1 r1 rx
  obtain ⟨bs, h2⟩ := reads_of I gk 60 d2 y u s2 r2 ry
  exact SeqAt.compareNe_shaped h1 h2 (shaped_of s1) (shaped_of s2) hu ⟨.bl _, H, I, rfl, q⟩
theorem eq_cases {a b : D} {c : Bool} (h : eqB a b = some c) : (scalD a b = true ∧ c = eqs a b) ∨ (Shp 60 a ∧ Shp 60 b ∧ c = eqb a b) := by
  unfold eqB at h
  split at h
  · rename_i hs; cases h; exact .inl ⟨hs, rfl⟩
  · split at h
    · rename_i hs; cases h; exact .inr ⟨hs.1, hs.2, rfl⟩
    · cases h
theorem eq_ok {K : PySem.W.Frag} : OpD K (fun x y H Q => rEq x y H Q ∨ rEqDeep K false x y H Q) eqD := by
  intro G H v1 v2 d1 d2 d Q gk r1 r2 e q
  unfold eqD at e
  cases ec : eqB d1 d2 with
  | none => rw [ec] at e; cases e
  | some c =>
    rw [ec] at e
    cases e
    rcases eq_cases ec with ⟨hs, rfl⟩ | ⟨s1, s2, rfl⟩
    · unfold scalD at hs
      rw [Bool.and_eq_true, Bool.and_eq_true] at hs
      obtain ⟨e1, _⟩ := RB.flat r1 gk hs.1.1
      obtain ⟨e2, _⟩ := RB.flat r2 gk hs.1.2
      refine .inl ⟨by rw [e1, e2]; exact hs.2, ?_⟩
      rw [e1, e2, scal_dec hs.2 hs.1.1 hs.1.2]
      exact q _ G H (Grow.refl gk) (.scl (.bl _))
    · exact .inr ⟨G, d1, d2, gk, r1, r2, s1, s2, q _ G H (Grow.refl gk) (.scl (.bl _))⟩
theorem ne_ok {K : PySem.W.Frag} : OpD K (fun x y H Q => rNe x y H Q ∨ rEqDeep K true x y H Q) neD := by
  intro G H v1 v2 d1 d2 d Q gk r1 r2 e q
  unfold neD at e
  cases ec : eqB d1 d2 with
  | none => rw [ec] at e; cases e
  | some c =>
    rw [ec] at e
    cases e
    rcases eq_cases ec with ⟨hs, rfl⟩ | ⟨s1, s2, rfl⟩
    · unfold scalD at hs
      rw [Bool.and_eq_true, Bool.and_eq_true] at hs
      obtain ⟨e1, _⟩ := RB.flat r1 gk hs.1.1
      obtain ⟨e2, _⟩ := RB.flat r2 gk hs.1.2
      refine .inl ⟨by rw [e1, e2]; exact hs.2, ?_⟩
      rw [e1, e2, scal_dec hs.2 hs.1.1 hs.1.2]
      exact q _ G H (Grow.refl gk) (.scl (.bl _))
    · exact .inr ⟨G, d1, d2, gk, r1, r2, s1, s2, q _ G H (Grow.refl gk) (.scl (.bl _))⟩
theorem s_eq (hu : X.A.units + 64 < cLine) (ha : SB X g m a fa) (hb : SB X g m b fb) : SE X g m (.Compare a [.Eq] [b] pos) (f2 fa fb eqD) := s_cmp (OpR.or op_eq (op_eqDeep hu)) eq_ok ha hb (nomark _)
theorem q_eq (hu : X.A.units + 64 < cLine) (ha : SB X g m a fa) (hb : SB X g m b fb) : SQ X g m (.Compare a [.Eq] [b] pos) (fTest (f2 fa fb eqD)) := q_cmp (OpR.or op_eq (op_eqDeep hu)) eq_ok ha hb (nomark _)
theorem q_ne (hu : X.A.units + 64 < cLine) (ha : SB X g m a fa) (hb : SB X g m b fb) : SQ X g m (.Compare a [.NotEq] [b] pos) (fTest (f2 fa fb neD)) := q_cmp (OpR.or op_ne (op_neDeep hu)) ne_ok ha hb (nomark _)
noncomputable def rCatS (K : PySem.W.Frag) : R2 := fun x y H Q => ∃ l b xs zs, x = .ref l ∧ y = .ref b ∧ SqL K H l xs ∧ SqL K H b zs ∧ xs.length + zs.length ≤ sizeLine ∧ ∀ p, H p = none → Q (.ref p) (upd H p (.lst (xs ++ zs)))
theorem op_catS : OpR X (binaryOp .Add) (rCatS X.K) := by
  intro pins s σ H x y v u Q I rx ry h
  obtain ⟨l, b, xs, zs, rfl, rfl, hH, hB, hz, q⟩ := h
  cases rx
  cases ry
  obtain ⟨its, r, pl, _⟩ := I.list hH
  obtain ⟨its2, r2, pl2, _⟩ := I.list hB
  have l1 := r.length
  have l2 := r2.length
  obtain ⟨⟨cls, dd, data, sl⟩, ho, hc, n, hd⟩ := pl.isList
  obtain ⟨⟨cls2, dd2, data2, sl2⟩, ho2, hc2, n2, hd2⟩ := pl2.isList
  simp only at hc hd hc2 hd2
  subst hc hd hc2 hd2
  have e : its.toArray ++ its2.toArray = (its ++ its2).toArray := by simp
  refine concat_meets ⟨_, ho, rfl⟩ ⟨_, ho2, rfl⟩ noFill_list_add seq_list_add PySem.F.slot_list_add PySem.F.entry_list_add (PySem.F.args_list_add_2 _ _) (list_addW _ _ its.toArray its2.toArray n n2 dd dd2 sl sl2 (by simp; omega)) ⟨ho, ho2, ?_⟩
  rw [e]
  exact ⟨.ref _, _, I.lnew (t' := s.toks) (r.append r2) (by rw [List.length_append]; omega), rfl, q _ I.fresh⟩
noncomputable def addA : D → D → Option D
  | .int a, .int b => some (.int (a + b))
  | .str a, .str b => if a.length + b.length ≤ sizeLine then some (.str (a ++ b)) else none
  | .lst a, .lst b => if a.length + b.length ≤ sizeLine then some (.lst (a ++ b)) else none
  | .tup (x :: a), .tup b => if (x :: a).length + b.length ≤ sizeLine then some (.tup (x :: a ++ b)) else none
  | _, _ => none
theorem addA_ok {K : PySem.W.Frag} : OpD K (fun x y H Q => (∃ i j, x = .int i ∧ y = .int j ∧ Q (.int (i + j)) H) ∨ (∃ i j, x = .str i ∧ y = .str j ∧ i.length + j.length ≤ sizeLine ∧ Q (.str (i ++ j)) H) ∨ rCatS K x y H Q ∨ rCatT K x y H Q) addA := by
  intro G H v1 v2 d1 d2 d Q gk r1 r2 e q
  unfold addA at e
  split at e
  · cases e
    exact .inl ⟨_, _, r1.int gk, r2.int gk, q _ G H (Grow.refl gk) (.scl (.int _))⟩
  · split at e
    · rename_i hl
      cases e
      exact .inr (.inl ⟨_, _, r1.str gk, r2.str gk, hl, q _ G H (Grow.refl gk) (.scl (.str _))⟩)
    · cases e
  · split at e
    · rename_i hl
      cases e
      obtain ⟨a, xs, rfl, s1, t1⟩ := r1.lst gk
      obtain ⟨b, ys, rfl, s2, t2⟩ := r2.lst gk
      have l1 := Paired.length t1
      have l2 := Paired.length t2
      exact .inr (.inr (.inl ⟨a, b, xs, ys, rfl, rfl, s1, s2, by omega, fun p hp => q _ _ _ (Grow.newF gk hp (.lst (.inl upd_same) (Paired.app t1 t2))) (.ref gset_same)⟩))
    · cases e
  · split at e
    · rename_i x0 a0 b0 hl
      cases e
      rcases r1 with r1 | ⟨a', _, oo⟩
      · obtain ⟨a, xs, rfl, s1, t1⟩ := r1.tup gk
        obtain ⟨b, ys, rfl, s2, t2⟩ := r2.tup gk
        have l1 := Paired.length t1
        have l2 := Paired.length t2
        refine .inr (.inr (.inr ⟨a, b, xs, ys, rfl, rfl, s1, s2, ?_, by omega, fun hy => ?_, fun _ p hp => q _ _ _ (Grow.newF gk hp (.tup (.inl upd_same) (Paired.app t1 t2))) (.ref gset_same)⟩))
        · rintro rfl
          cases t1
        · subst hy
          cases t2
          refine q _ G H (Grow.refl gk) ?_
          rw [List.append_nil]
          exact r1
      · cases oo.ob
    · cases e
  · cases e
theorem s_addA (ha : SB X g m a fa) (hb : SB X g m b fb) : SE X g m (.BinOp a .Add b pos) (f2 fa fb addA) := s_bin (OpR.or op_add (OpR.or op_add_str (OpR.or op_catS op_catT))) addA_ok ha hb
end
end DL
end
section
set_option Elab.async false
set_option linter.all false
set_option maxRecDepth 100000
namespace DL
open PySem PySem.Spec PyProof.Rows L2
structure DefAt (K : PySem.W.Frag) (mg : Str → Option Value) (x : Str) (st : Stmt) : Prop where
  ex : ∃ f fd, mg x = some (.ref f) ∧ Fun K x x st f fd
structure Callee (P : Program) (w : World) (K : PySem.W.Frag) (mg : Str → Option Value) (base : Heap) (x : Str) (ps : List Str) (ds : List Value) (k : Nat) (ro : Bool) (ms : List Md) (F : List D → Res D) : Prop where
  ex : ∃ f fd, mg x = some (.ref f) ∧ PySem.W.keepIn K (.ref f) = true ∧ Binds K fd ps ds ∧ FnOk P w K mg base CX0 k f fd ps (spM K ro ms F)
section
variable {P : Program} {w : World} {K : PySem.W.Frag} {mg : Str → Option Value} {base : Heap}
theorem mk_def {x : Str} {st : Stmt} {N ps : List Str} {k : Nat} {ro : Bool} {ms : List Md} {fs : FS} {m' : List Md} (A : DefAt K mg x st) (S : FnScope N ps (defScope st)) (hms : ms.length = ps.length)
    (hb : ∀ (kV doc pm : Value) (an : Option Addr) (cdv ct : Value) (us : List Value), us.length = ps.length → bindArgs (PySem.W.fnOf x x (defArgs st) (defBody st) (defScope st) .none kV doc pm an cdv ct) ⟨us, []⟩ = pure (ps.zip us))
    (hbody : ∀ (f : Addr) (cdv : Value) (A : Around) (outer : List Env) (s : Shared) (H : Hp) (g : GE) (E : XK), Room k (A.deeper (envOfC x (defScope st) s.heap.objs.size f cdv)) →
      SSs (cxOf CX0 P w K mg base N x (defScope st) f cdv A outer s H E).nox g ro [] (startM N.length ms) (defBody st) fs m') :
    Callee P w K mg base x ps [] (k + 1) ro ms fun ds => outR ro (fs (start0 N.length ds)) := by
  obtain ⟨f, fd, h1, F⟩ := A.ex
  exact ⟨f, fd, h1, F.kp, F.binds hb, fn_def F S hms (hbody f)⟩
structure DefAtD (K : PySem.W.Frag) (mg : Str → Option Value) (x : Str) (st : Stmt) (dds : List Value) : Prop where
  ex : ∃ (f T : Addr) (o : Obj) (n : Nat) (oc : Value) (od : Option Addr) (kV doc pm : Value) (an : Option Addr) (cdv ct : Value) (osl : Array (Option Value)),
    mg x = some (.ref f) ∧ K.lookup T = some o ∧ o.data = .seq dds.toArray n ∧ K.lookup f = some ⟨oc, od, .func (PySem.W.fnOf x x (defArgs st) (defBody st) (defScope st) (.ref T) kV doc pm an cdv ct), osl⟩ ∧ PySem.W.codeIn K cdv x = true ∧ PySem.W.keepIn K (.ref f) = true
end
section
variable {X : Cx} {g : GE} {m : List Md} {e : Expr} {es : List Expr} {fl : Rho → Res (List D)} {k : Nat} {ps : List Str} {F : List D → Res D} {dvs : List V} {ds : List Value} {dds : List D} {x : Str} {p pos : Pos} {i : Nat} {ms ms' : List Md}
theorem c_call (c : Callee X.prog X.w X.K X.mg X.base x ps ds k false ms' F) (hr : Room k X.A) (ha : SAM X g m (e :: es) ms fl) (hms : ms' = ms ++ List.replicate dds.length .sh := by rfl) (hg : Gl X x := by rfl) (hd : Vals dvs ds := by exact .nil) (hsc : Paired Scl dvs dds := by exact .nil)
    (hdb : (x == ("__debug__" : Str)) = false := by decide) (he : starEach (e :: es) X.env = (false, eval e X.env) :: starEach es X.env := by rfl) (hpl : (backTo pos (starEach es X.env)).any (·.1) = false := by rfl) :
    SE X g m (.Call (.Name x p) (e :: es) [] pos) (callF fl dds F) := by
  subst hms
  obtain ⟨f, fd, h1, h2, h3, h4⟩ := c.ex
  exact s_call h4 hr hg h1 h2 h3 hd hsc ha hdb he hpl
theorem v_ (i : Nat) (hm : m[i]? = some .sh := by rfl) (hN : X.N[i]? = some x := by rfl) (hv : Vis X.env.scope x := by first | exact Or.inl rfl | exact Or.inr (Or.inl rfl) | exact Or.inr (Or.inr rfl)) (hd : (x == ("__debug__" : Str)) = false := by decide) (hcd : (x == ("__classdict__" : Str)) = false := by decide) :
    SE X g m (.Name x p) fun r => getV r i := s_var i hm hN hv hd hcd
theorem vb_ (i : Nat) (hm : i < m.length := by decide) (hN : X.N[i]? = some x := by rfl) (hv : Vis X.env.scope x := by first | exact Or.inl rfl | exact Or.inr (Or.inl rfl) | exact Or.inr (Or.inr rfl)) (hd : (x == ("__debug__" : Str)) = false := by decide) (hcd : (x == ("__classdict__" : Str)) = false := by decide) :
    SB X g m (.Name x p) fun r => getV r i := s_varB i hm hN hv hd hcd
end
end DL
end
section
set_option Elab.async false
set_option linter.all false
set_option maxRecDepth 100000
namespace DL
open PySem PySem.Spec PyProof.Rows L2
noncomputable def compOkB (osc : Scope) (ON : List Str) (sc : Scope) (N' : List Str) (nl : Nat) (cap : List Nat) : Bool :=
  decide (sc.kind = .function) && sc.names.all (fun y => decide (y.2 ≠ .cell)) && sc.names.all (fun y => decide (y.2 ≠ .local) || decide (sc.names.lookup y.1 = some .local)) &&
  sc.names.all (fun y => decide (y.2 ≠ .free) || (decide (osc.names.lookup y.1 = some .cell) || decide (osc.names.lookup y.1 = some .free))) && decide (N'.length = nl + cap.length) &&
  (List.range cap.length).all fun j => match N'[nl + j]?, ON[cap.getD j 0]? with
    | some x, some y => decide (x = y) && decide (sc.names.lookup x = some .free)
    | _, _ => false
theorem compSc_of {X : Cx} {osc : Scope} {ON : List Str} {sc : Scope} {N' : List Str} {nl : Nat} {cap : List Nat} (h1 : X.env.scope = osc) (h2 : X.N = ON) (h : compOkB osc ON sc N' nl cap = true) : CompSc X sc N' nl cap := by
  subst h1 h2
  unfold compOkB at h
  simp only [Bool.and_eq_true, List.all_eq_true, decide_eq_true_eq, Bool.or_eq_true] at h
  obtain ⟨⟨⟨⟨⟨a1, a2⟩, a3⟩, a4⟩, a5⟩, a6⟩ := h
  refine ⟨a1, a2, fun y hy hl => (a3 y hy).resolve_left fun z => z hl, fun y hy hf => (a4 y hy).resolve_left fun z => z hf, a5, fun j hj => ?_⟩
  have h6 := a6 j (List.mem_range.mpr hj)
  cases e1 : N'[nl + j]? with
  | none => rw [e1] at h6; cases h6
  | some x =>
    cases e2 : X.N[cap.getD j 0]? with
    | none => rw [e1, e2] at h6; cases h6
    | some y =>
      rw [e1, e2] at h6
      simp only [Bool.and_eq_true, decide_eq_true_eq] at h6
      exact ⟨x, rfl, by rw [h6.1], h6.2⟩
section
variable {X : Cx} {g : GE} {m mb : List Md} {e a b c : Expr} {f fa fb fc : FE} {pos pos' : Pos}
end
end DL
end
section
set_option Elab.async false
set_option linter.all false
set_option maxRecDepth 100000
namespace DL
open PySem PySem.Spec PyProof.Rows L2
theorem def_mk {K : PySem.W.Frag} {h : Heap} {mg : Str → Option Value} {x : Str} {st : Stmt} (KX : K.In h) (G : h.Ns mainGlobals mg) {f : Addr} {oc : Value} {od an : Option Addr} {osl : Array (Option Value)} {kV doc pm cdv ct : Value} (a : PySem.W.nsIn K mainGlobals x = some (some (.ref f)))
    (l : K.lookup f = some ⟨oc, od, .func (PySem.W.fnOf x x (defArgs st) (defBody st) (defScope st) .none kV doc pm an cdv ct), osl⟩) (c : PySem.W.codeIn K cdv x = true) (k : PySem.W.keepIn K (.ref f) = true) : DefAt K mg x st :=
  ⟨f, _, PySem.W.mg_of KX G a, fun_mk l c k⟩
theorem law_fn {P : Program} {w : World} {K : PySem.W.Frag} {mg : Str → Option Value} {x p : Str} {st : Stmt} {k : Nat} {F : List D → Res D} {fa : Addr} (hfa : mg x = some (.ref fa)) (A : DefAt K mg x st)
    (hb : ∀ (kV doc pm : Value) (an : Option Addr) (cdv ct : Value) (us : List Value), us.length = [p].length → bindArgs (PySem.W.fnOf x x (defArgs st) (defBody st) (defScope st) .none kV doc pm an cdv ct) ⟨us, []⟩ = pure ([p].zip us))
    (C : ∀ (f : Addr) (fd : FuncData), Fun K x x st f fd → ∀ base : Heap, FnOk P w K mg base CX0 k f fd [p] (spM K false [.sh] F)) :
    ∃ fd : FuncData, (∀ (s : Shared) (u : Value), BindsTo s fd ⟨[u], []⟩ [(p, u)]) ∧ ∀ base : Heap, K.In base → base.Ns mainGlobals mg → FnOk P w K mg base CX0 k fa fd [p] (spM K false [.sh] F) := by
  obtain ⟨f, fd, h1, Fn⟩ := A.ex
  rw [hfa] at h1
  cases h1
  refine ⟨fd, fun s u => ?_, fun base _ _ => C fa fd Fn base⟩
  obtain ⟨oc, od, kV, doc, pm, an, cdv, ct, osl, rfl, lk, hcd⟩ := Fn.ex
  exact .of_eq (hb kV doc pm an cdv ct [u] rfl)
theorem walkD {l : PySem.W.OpenLaw} {k : Nat} {q : Program} {loose : List Str} {XP : (Str → Option Value) → Heap → Prop} {YP : World → Heap → Prop} {d : DefRec} {K : Params → PySem.W.Frag} {x : Str} {F : List D → Res D} (hn : l.most = some 63) (hdf : d.params.defaults = []) (hr : Room k callerA)
    (hY : ∀ (w : World) (h : Heap), YP w h → (K w.params).In h) (hF : ∀ ns : List Int, ns.length ≤ 63 → F [.lst (ns.map .int)] = .ok (.bl true))
    (C : ∀ (w : World) (mg : Str → Option Value) (fa : Addr) (h : Heap), (K w.params).In h → h.Ns mainGlobals mg → mg d.name = some (.ref fa) →
      ∃ fd : FuncData, (∀ (s : Shared) (u : Value), BindsTo s fd ⟨[u], []⟩ [(x, u)]) ∧ ∀ base : Heap, (K w.params).In base → base.Ns mainGlobals mg → FnOk l.prog w (K w.params) mg base CX0 k fa fd [x] (spM (K w.params) false [.sh] F)) :
    PySem.W.WalkO q loose XP YP l.row.toRowW d [] (fun f vs => PySem.call f vs) := by
  refine L2.walk_of (n := 63) (k := k) (x := x) (CX := fun _ => CX0) (sp := fun w => spM (K w.params) false [.sh] F) hn (by decide) hdf hr hY C (fun w H a ns hl hO hS => ?_) fun _ _ _ _ _ z => z
  have intsP : ∀ (l : List Int), Paired Scl (l.map V.int) (l.map D.int) := fun l => by
    induction l with
    | nil => exact .nil
    | cons i l ih => exact .cons (.int i) ih
  rcases hS with hS | hS
  · refine ⟨fun b => if b = a then some (.lst (ns.map D.int)) else none, [.lst (ns.map .int)], fun b d' hb => ?_, .sh (.ref (if_pos rfl)) .nil, ?_⟩
    · by_cases e : b = a
      · subst e
        have hb' : some (D.lst (ns.map D.int)) = some d' := (if_pos rfl).symm.trans hb
        cases hb'
        exact .lst hS (Paired.mono (fun _ _ z => .scl z) (intsP ns))
      · have hb' : (none : Option D) = some d' := (if_neg e).symm.trans hb
        cases hb'
    · rw [hF ns hl]
      intro v G' H' w' rv
      exact rv.bl w'.ok
  · refine ⟨fun _ => none, [.lst (ns.map .int)], fun b d' hb => (by cases hb), .sh (.kc (.lst (.inr hS) (intsP ns))) .nil, ?_⟩
    rw [hF ns hl]
    intro v G' H' w' rv
    exact rv.bl w'.ok
end DL
end
section
set_option Elab.async false
set_option linter.all false
set_option maxRecDepth 100000
namespace DL
open PySem PySem.Spec PyProof.Rows L2
open AutoSeq1 (wpAny_loadPart')
section
variable {prog : Program} {w : World} {A : Around} {E : Value → Shared → Prop} {s : Shared}
theorem nextOf_tuple_item {it t : Addr} {i : Nat} {items} {x : Value} {Q : Value → Shared → Prop} (hit : s.heap.IsTupleIter it t i) (ht : s.heap.IsTuple t items) (hx : items[i]? = some x)
    (hQ : ∀ h', h'.IsTupleIter it t (i + 1) → Heap.SameBut it s.heap h' → Q x { s with heap := h' }) : wpAny (model prog w) A (Builtin.SmallTypes.nextOf (.ref it)) Q E s := by
  obtain ⟨o, ho, hc, hd⟩ := id hit
  obtain ⟨ol, hol, _, nl, hdl⟩ := ht
  unfold Builtin.SmallTypes.nextOf
  refine wpAny_bind (wpAny_callSpecial?_slot (name := Str.ofString "__next__") hit.typeIs F.slot_tuple_iterator_next
    (wpAny_call_entry F.slot_tuple_iterator_next hit.typeIs F.entry_tuple_iterator_next ?_ (F.args_tuple_iterator_next_1 _)))
  show wpAny _ _ (field (.ref it) 0 >>= _) _ _ s
  refine wpAny_bind (wpAny_field ho hd (x := .ref t) rfl ?_)
  show wpAny _ _ (if (Value.ref t == Value.none) = true then _ else _) _ _ s
  rw [if_neg (show ¬ ((Value.ref t == Value.none) = true) from Bool.false_ne_true)]
  show wpAny _ _ (field (.ref it) 1 >>= _) _ _ s
  refine wpAny_bind (wpAny_field ho hd (x := .int i 0) rfl ?_)
  show wpAny _ _ (seqItems? (.ref t) >>= _) _ _ s
  refine wpAny_bind (wpAny_seqItems hol hdl ?_)
  simp only [Int.toNat_natCast, hx]
  refine wpAny_bind (wpAny_setField ho hd (by simp) (wpAny_pure ⟨x, rfl, wpAny_pure (hQ _ ?_ (Heap.SameBut.update ..))⟩))
  exact ⟨_, Heap.get?_update_self _ ho (Obj.isFreed_of_fields (Obj.data_mapFields hd _)), (Obj.cls_mapFields ..).trans hc, by
    rw [Obj.data_mapFields hd]; simp [rawInt]⟩
theorem nextOf_tuple_end {it t : Addr} {i : Nat} {items} {Q : Value → Shared → Prop} (hh : A.handled = none) (hit : s.heap.IsTupleIter it t i) (ht : s.heap.IsTuple t items) (hx : items[i]? = none)
    (hE : ∀ h' e, Heap.ExtBut it s.heap h' → (∃ o, h'.get? e = some o ∧ o.cls = .type "StopIteration") → E (.ref e) { s with heap := h' }) : wpAny (model prog w) A (Builtin.SmallTypes.nextOf (.ref it)) Q E s := by
  obtain ⟨o, ho, hc, hd⟩ := id hit
  obtain ⟨ol, hol, _, nl, hdl⟩ := ht
  unfold Builtin.SmallTypes.nextOf
  refine wpAny_bind (wpAny_callSpecial?_slot (name := Str.ofString "__next__") hit.typeIs F.slot_tuple_iterator_next
    (wpAny_call_entry F.slot_tuple_iterator_next hit.typeIs F.entry_tuple_iterator_next ?_ (F.args_tuple_iterator_next_1 _)))
  show wpAny _ _ (field (.ref it) 0 >>= _) _ _ s
  refine wpAny_bind (wpAny_field ho hd (x := .ref t) rfl ?_)
  show wpAny _ _ (if (Value.ref t == Value.none) = true then _ else _) _ _ s
  rw [if_neg (show ¬ ((Value.ref t == Value.none) = true) from Bool.false_ne_true)]
  show wpAny _ _ (field (.ref it) 1 >>= _) _ _ s
  refine wpAny_bind (wpAny_field ho hd (x := .int i 0) rfl ?_)
  show wpAny _ _ (seqItems? (.ref t) >>= _) _ _ s
  refine wpAny_bind (wpAny_seqItems hol hdl ?_)
  simp only [Int.toNat_natCast, hx]
  refine wpAny_bind (wpAny_rule (wpAny_bind (wpAny_setField ho hd (by simp) ?_)))
  show wpAny _ _ (newExc (.type "StopIteration") [] >>= _) _ _ _
  refine wpAny_bind ?_
  simp only [newExc, newTuple]
  refine wpAny_bind (wpAny_newObj_type ?_ (by size_fits))
  refine wpAny_bind (m := firstArgMember _ _) (wpAny_of_eq (a := Value.none) (by first | rfl | (simp only [firstArgMember]; rfl)) ?_)
  refine wpAny_newObj_type ?_ (by size_fits)
  simp only [raiseNew]
  refine wpAny_bind (wpAny_handled ?_)
  first | rw [show A.in1.handled = none from hh] | rw [hh]
  refine wpAny_bind (wpAny_pure (wpAny_throw ?_))
  exact hE _ _ (((Heap.SameBut.update ..).extBut.push _).push _) ⟨_, Heap.get?_push_size _ rfl, rfl⟩
end
theorem drawsT {prog : Program} {w : World} {A : Around} (hh : A.handled = none) (it l : Addr) (hne : l ≠ it) (items : Array Value) :
    Draws prog w A it [it, l] items.size (fun i v => items[i]? = some v) (fun i h => h.IsTupleIter it l i ∧ h.IsTuple l items) where
  live := fun _ _ st => let ⟨o, ho, _⟩ := st.1; ⟨o, ho⟩
  frame := fun _ _ _ st hk => ⟨let ⟨o, ho, r⟩ := st.1; ⟨o, hk it (by simp) o ho, r⟩, let ⟨o, ho, r⟩ := st.2; ⟨o, hk l (by simp) o ho, r⟩⟩
  item := fun i s Q E hi st hQ => by
    refine nextOf_tuple_item st.1 st.2 (x := items[i]) (by simp [hi]) fun h' hit' hs' => ?_
    exact hQ _ h' s.toks (by simp [hi]) ⟨hit', st.2.extBut hs'.extBut hne⟩ hs'
  done := fun s Q E st hE => nextOf_tuple_end hh st.1 st.2 (by simp) hE
theorem meets_enum_newT (l : Addr) (items : Array Value) (n : Nat) (dct : Option Addr) (sl : Array (Option Value)) :
    Meets (Builtin.«enumerate.__new__» ⟨[.type "enumerate", .ref l], []⟩) (fun _ R s => s.heap.get? l = some { cls := .type "tuple", dict := dct, data := .seq items n, slots := sl } ∧
      R (.ok (.ret (.ref (s.heap.push { cls := .type "tuple_iterator", data := .fields #[.ref l, .int 0 0] }).objs.size)))
        { s with heap := (s.heap.push { cls := .type "tuple_iterator", data := .fields #[.ref l, .int 0 0] }).push { cls := .type "enumerate", data := .fields #[.none, .bool false, .ref s.heap.objs.size, rawInt 0, .none, .none] } }) :=
  .of_wp fun prog w A R s h => by
    obtain ⟨hp, g, d, tk, os⟩ := s; obtain ⟨hl, h⟩ := h
    have hsub := sub_enumerate
    have hL : Heap.IsTuple (Shared.heap ⟨hp, g, d, tk, os⟩) l items := ⟨_, hl, rfl, n, rfl⟩
    wp_walk using wpAny_loadPart' hl
    refine wpAny_stack_any fun st => wpAny_pure ?_
    split
    · rename_i c _ _ _ _ _
      cases (c == Value.type "enumerate")
      · wp_walk using wpAny_loadPart' hl, wpAny_pyIter_tuple hL
        exact ⟨_, rfl, h⟩
      · wp_walk using wpAny_loadPart' hl, wpAny_pyIter_tuple hL
        exact ⟨_, rfl, h⟩
    · wp_walk using wpAny_loadPart' hl, wpAny_pyIter_tuple hL
      exact ⟨_, rfl, h⟩
section
variable {prog : Program} {w : World} {A : Around} {E : Value → Shared → Prop} {s : Shared}
theorem call_enum_tuple {l : Addr} {items : Array Value} {Q : Value → Shared → Prop} (hL : s.heap.IsTuple l items)
    (h : ∀ h', IsEnum h' (s.heap.objs.size + 1) s.heap.objs.size 0 .none → h'.IsTupleIter s.heap.objs.size l 0 → h'.objs.size = s.heap.objs.size + 2 →
      (∀ b o, s.heap.get? b = some o → h'.get? b = some o) → Q (.ref (s.heap.objs.size + 1)) { s with heap := h' }) :
    wpAny (model prog w) A (call (.type "enumerate") [.ref l]) Q E s := by
  obtain ⟨⟨c, dct, dt, sl⟩, hl, hc, n, hd⟩ := hL
  replace hc : c = .type "tuple" := hc
  replace hd : dt = .seq items n := hd
  subst hc hd
  refine callType_new F.called_enumerate (by decide) (F.typeCall_enumerate_1 _) (F.newCall_enumerate_1 _) (fun obj => F.args_object_init_2 obj _) F.entry_enumerate_new
    (meets_enum_newT l items n dct sl) ⟨hl, ?_⟩
  have hz : (s.heap.push { cls := .type "tuple_iterator", data := .fields #[.ref l, .int 0 0] }).objs.size = s.heap.objs.size + 1 := Heap.size_push ..
  show _ ∧ _
  rw [hz]
  have he : IsEnum ((s.heap.push { cls := .type "tuple_iterator", data := .fields #[.ref l, .int 0 0] }).push
      { cls := .type "enumerate", data := .fields #[.none, .bool false, .ref s.heap.objs.size, rawInt 0, .none, .none] }) (s.heap.objs.size + 1) s.heap.objs.size 0 .none := by
    have := Heap.get?_push_size (s.heap.push { cls := .type "tuple_iterator", data := .fields #[.ref l, .int 0 0] })
      (o := { cls := .type "enumerate", data := .fields #[.none, .bool false, .ref s.heap.objs.size, rawInt 0, .none, .none] }) rfl
    rw [hz] at this; exact this
  refine ⟨⟨_, he, rfl⟩, h _ he ⟨_, Heap.get?_push_of_some _ (Heap.get?_push_size _ rfl), rfl, rfl⟩ (by rw [Heap.size_push, hz]) fun b o x => Heap.get?_push_of_some _ (Heap.get?_push_of_some _ x)⟩
end
theorem inv_turn {X : Cx} {pins : List (Addr × Obj)} {σ : L2.St} {H : Hp} {s : Shared} {h' : Heap} {ch : List Addr} {T : Addr} {o : HO} {t' : Nat} (I : Inv X pins σ H s)
    (hch : ∀ b ∈ ch, FpOk X pins H b) (k : ∀ b ob, b ∉ ch → s.heap.get? b = some ob → h'.get? b = some ob) (hT : s.heap.objs.size ≤ T) (new : ObjOk X.prog X.w (upd H T o) h' T o) : Inv X pins σ (upd H T o) { s with heap := h', toks := t' } := by
  have hTn : H T = none := I.hok.fresh hT
  have trk : ∀ b u, H b = some u → b ∉ ch := fun b u e hb => by rw [(hch b hb).1] at e; cases e
  have neT : ∀ b ob, s.heap.get? b = some ob → b ≠ T := fun b ob e => Nat.ne_of_lt (Nat.lt_of_lt_of_le (Heap.lt_size e) hT)
  have keepU : ∀ b u, H b = some u → upd H T o b = some u := fun b u e => by rw [upd_ne (ne_of_none e hTn)]; exact e
  refine I.step (g' := s.gens) (d' := s.drawn) (ch := ch) (fun b hb => ?_) (fun b ob _ _ hc e _ => k b ob hc e) (fun b ob _ _ hc e _ => ⟨ob.slots, k b ob hc e⟩) (fun b ob hc e n => by rw [upd_ne (neT b ob e)]; exact n)
    (fun b ob hc e => ⟨ob, k b ob hc e⟩) (fun b xs e => keepU b _ e) (fun b ob u e => keepU b _ e) (fun b ps e => ⟨#[], by rw [keepU b _ e]; simp⟩) (fun m hm => ?_) (fun b u e => ?_) I.bare
  · obtain ⟨z0, z1, z2, z3, z4, z5⟩ := hch b hb
    exact ⟨z3, z1, z4, z5⟩
  · obtain ⟨ob, es, ep, ho, r⟩ := hm
    exact ⟨ob, es, ep, k _ ob (fun hb => (hch _ hb).2.1 rfl) ho, r⟩
  · by_cases hb : b = T
    · subst hb
      rw [upd_same] at e
      cases e
      exact new
    · rw [upd_ne hb] at e
      refine (I.hok b u e).stay (fun c v hc q => k c v ?_ q) (fun c q => keepU c _ q) fun c xs q => keepU c _ q
      rcases hc with z | z
      · rw [z]; exact trk b u e
      · exact trk c _ z
noncomputable def Ien (sq : Hp → List V → Prop) : It :=
  ⟨fun i H => ∃ xs x, sq H xs ∧ xs[i]? = some x, fun i H x H' => ∃ p v, H p = none ∧ x = .ref p ∧ H' = upd H p (.tup [.int i, v]) ∧ ∀ xs, sq H xs → xs[i]? = some v, fun i H => ∃ xs, sq H xs ∧ xs.length = i⟩
theorem pair_ok {P : Program} {w : World} {H : Hp} {h : Heap} {T : Addr} {i : Nat} {tk : Tok} {x : Value} {v : V} (hT : h.get? T = some { cls := .type "tuple", data := .seq #[.int i tk, x] }) (r : L2.RelV v x) : ObjOk P w H h T (.tup [.int i, v]) :=
  ⟨by show 2 ≤ sizeLine; decide, [.int i tk, x], .cons ⟨tk, rfl⟩ (.cons r .nil), ⟨_, hT, rfl, 0, rfl⟩, _, hT, rfl⟩
theorem turn_enumL {P : Program} {w : World} {K : PySem.W.Frag} {elts : List Expr} {k : Nat} {pos : Pos} (a it e : Addr) (hei : e ≠ it) : Turn P w K (.Tuple elts k pos) (Ien fun H xs => SqL K H a xs) [e, it] e (fun i h => (∃ old, IsEnum h e it i old) ∧ h.IsListIter it a i) where
  mem := by simp
  obj := fun i h st b hb => by
    obtain ⟨⟨old, he⟩, o, ho, hc, hd⟩ := st
    rcases List.mem_cons.mp hb with rfl | hb
    · exact ⟨_, he, fun v z => by have z' : Data.fields _ = Data.cell v := z; cases z'⟩
    · rw [List.mem_singleton.mp hb]
      exact ⟨o, ho, fun v z => by rw [hd] at z; cases z⟩
  keep := fun i h h' st kk => by
    obtain ⟨⟨old, he⟩, hi⟩ := st
    exact ⟨⟨old, kk e (by simp) _ he⟩, hi.at fun o q => kk it (by simp) o q⟩
  item := by
    intro X hP hw hK hc i pins s σ H E I hf st hg
    subst hP hw hK
    obtain ⟨xs, x, hq, hx⟩ := hg
    obtain ⟨its, rv, p, hz⟩ := I.list hq
    obtain ⟨⟨old, he⟩, hi⟩ := st
    obtain ⟨o1, ho1, hc1, hd1⟩ := id hi
    obtain ⟨o2, ho2, hc2, _⟩ := id p.isList
    have hai : a ≠ it := by rintro rfl; rw [ho1] at ho2; cases ho2; rw [hc1] at hc2; exact absurd hc2 (by decide)
    have hea : e ≠ a := by rintro rfl; rw [he] at ho2; cases ho2; exact absurd (show Value.type "enumerate" = _ from hc2) (by decide)
    have hlt : i < its.toArray.size := by
      have := (List.getElem?_eq_some_iff.mp hx).1
      rw [List.size_toArray, ← rv.length]; exact this
    refine wpAny_pyNext_enum_itemD (Draws.list (A := X.A.in1) (show X.A.in1.handled = none from I.ok.hd hc) it a hai its.toArray) he ⟨hi, p.isList⟩ hlt hei (by simp [hei, hea]) fun y h' tk hP ho hs' hT hsz hk => ?_
    refine ⟨_, rfl, wpAny_letOwnedTupleGo_enum ho fun h'' he'' hs'' => ?_⟩
    obtain ⟨u, hu, ru⟩ := rv.get hx
    have hy : y = u := by
      have : its[i]? = some y := by simpa using hP
      rw [hu] at this; exact (Option.some.inj this).symm
    subst hy
    have hTe : s.heap.objs.size ≠ e := Nat.ne_of_gt (Heap.lt_size he)
    have hT'' : h''.get? s.heap.objs.size = some { cls := .type "tuple", data := .seq #[.int i tk, y] } := (hs''.2 _ hTe).trans hT
    refine ⟨.ref s.heap.objs.size, upd H s.heap.objs.size (.tup [.int i, x]), inv_turn (s := s) (h' := h'') (t' := tk + 1) (ch := [e, it]) I hf (fun b ob hb q => ?_) (Nat.le_refl _) (pair_ok hT'' ru), rfl, ⟨_, x, I.hok.fresh (Nat.le_refl _), rfl, rfl, fun ys hy => by rw [I.list_inj hy hq]; exact hx⟩, ⟨⟨_, by simpa using he''⟩, hs'.1.extBut hs''.extBut (Ne.symm hei)⟩, fun b hb => ?_⟩
    · have hbe : b ≠ e := fun z => hb (by simp [z])
      exact (hs''.2 b hbe).trans (hk b ob hbe (fun z => hb (by simp [z])) q)
    · rw [upd_ne ?_]
      · exact (hf b hb).1
      · rcases List.mem_cons.mp hb with rfl | hb
        · exact Nat.ne_of_lt (Heap.lt_size he)
        · rw [List.mem_singleton.mp hb]; exact Nat.ne_of_lt (Heap.lt_size ho1)
  done := by
    intro X hP hw hK hc i pins s σ H E I hf st hg
    subst hP hw hK
    obtain ⟨xs, hq, hx⟩ := hg
    obtain ⟨its, rv, p, hz⟩ := I.list hq
    obtain ⟨⟨old, he⟩, hi⟩ := st
    obtain ⟨o1, ho1, hc1, hd1⟩ := id hi
    obtain ⟨o2, ho2, hc2, _⟩ := id p.isList
    have hai : a ≠ it := by rintro rfl; rw [ho1] at ho2; cases ho2; rw [hc1] at hc2; exact absurd hc2 (by decide)
    obtain ⟨f0, f1, f2, f3, f4, f5⟩ := hf it (by simp)
    have hn : its.toArray.size = i := by rw [List.size_toArray, ← rv.length]; exact hx
    refine wpAny_pyNext_enum_endD (Draws.list (A := X.A.in1) (show X.A.in1.handled = none from I.ok.hd hc) it a hai its.toArray) he ⟨by rw [hn]; exact hi, p.isList⟩ fun h' eb => ⟨rfl, I.turned (t' := s.toks) (fun b o hb q => eb b o hb q) f0 f1 f3 f4 f5⟩
  self := fun _ _ _ _ _ st h => let ⟨⟨_, he⟩, _⟩ := st; wpAny_pyIter_enum he h
theorem IsTupleIter.at' {h h' : Heap} {a t : Addr} {i : Nat} (x : h.IsTupleIter a t i) (hs : ∀ o, h.get? a = some o → h'.get? a = some o) : h'.IsTupleIter a t i := let ⟨o, ho, r⟩ := x; ⟨o, hs o ho, r⟩
theorem turn_enumT {P : Program} {w : World} {K : PySem.W.Frag} {elts : List Expr} {k : Nat} {pos : Pos} (a it e : Addr) (hei : e ≠ it) : Turn P w K (.Tuple elts k pos) (Ien fun H xs => SqT K H a xs) [e, it] e (fun i h => (∃ old, IsEnum h e it i old) ∧ h.IsTupleIter it a i) where
  mem := by simp
  obj := fun i h st b hb => by
    obtain ⟨⟨old, he⟩, o, ho, hc, hd⟩ := st
    rcases List.mem_cons.mp hb with rfl | hb
    · exact ⟨_, he, fun v z => by have z' : Data.fields _ = Data.cell v := z; cases z'⟩
    · rw [List.mem_singleton.mp hb]
      exact ⟨o, ho, fun v z => by rw [hd] at z; cases z⟩
  keep := fun i h h' st kk => by
    obtain ⟨⟨old, he⟩, hi⟩ := st
    exact ⟨⟨old, kk e (by simp) _ he⟩, IsTupleIter.at' hi fun o q => kk it (by simp) o q⟩
  item := by
    intro X hP hw hK hc i pins s σ H E I hf st hg
    subst hP hw hK
    obtain ⟨xs, x, hq, hx⟩ := hg
    obtain ⟨its, rv, p, hz⟩ := I.tuple hq
    obtain ⟨⟨old, he⟩, hi⟩ := st
    obtain ⟨o1, ho1, hc1, hd1⟩ := id hi
    obtain ⟨o2, ho2, hc2, _⟩ := id p
    have hai : a ≠ it := by rintro rfl; rw [ho1] at ho2; cases ho2; rw [hc1] at hc2; exact absurd hc2 (by decide)
    have hea : e ≠ a := by rintro rfl; rw [he] at ho2; cases ho2; exact absurd (show Value.type "enumerate" = _ from hc2) (by decide)
    have hlt : i < its.toArray.size := by
      have := (List.getElem?_eq_some_iff.mp hx).1
      rw [List.size_toArray, ← rv.length]; exact this
    refine wpAny_pyNext_enum_itemD (drawsT (A := X.A.in1) (show X.A.in1.handled = none from I.ok.hd hc) it a hai its.toArray) he ⟨hi, p⟩ hlt hei (by simp [hei, hea]) fun y h' tk hP ho hs' hT hsz hk => ?_
    refine ⟨_, rfl, wpAny_letOwnedTupleGo_enum ho fun h'' he'' hs'' => ?_⟩
    obtain ⟨u, hu, ru⟩ := rv.get hx
    have hy : y = u := by
      have : its[i]? = some y := by simpa using hP
      rw [hu] at this; exact (Option.some.inj this).symm
    subst hy
    have hTe : s.heap.objs.size ≠ e := Nat.ne_of_gt (Heap.lt_size he)
    have hT'' : h''.get? s.heap.objs.size = some { cls := .type "tuple", data := .seq #[.int i tk, y] } := (hs''.2 _ hTe).trans hT
    refine ⟨.ref s.heap.objs.size, upd H s.heap.objs.size (.tup [.int i, x]), inv_turn (s := s) (h' := h'') (t' := tk + 1) (ch := [e, it]) I hf (fun b ob hb q => ?_) (Nat.le_refl _) (pair_ok hT'' ru), rfl, ⟨_, x, I.hok.fresh (Nat.le_refl _), rfl, rfl, fun ys hy => by rw [I.tuple_inj hy hq]; exact hx⟩, ⟨⟨_, by simpa using he''⟩, hs'.1.extBut hs''.extBut (Ne.symm hei)⟩, fun b hb => ?_⟩
    · have hbe : b ≠ e := fun z => hb (by simp [z])
      exact (hs''.2 b hbe).trans (hk b ob hbe (fun z => hb (by simp [z])) q)
    · rw [upd_ne ?_]
      · exact (hf b hb).1
      · rcases List.mem_cons.mp hb with rfl | hb
        · exact Nat.ne_of_lt (Heap.lt_size he)
        · rw [List.mem_singleton.mp hb]; exact Nat.ne_of_lt (Heap.lt_size ho1)
  done := by
    intro X hP hw hK hc i pins s σ H E I hf st hg
    subst hP hw hK
    obtain ⟨xs, hq, hx⟩ := hg
    obtain ⟨its, rv, p, hz⟩ := I.tuple hq
    obtain ⟨⟨old, he⟩, hi⟩ := st
    obtain ⟨o1, ho1, hc1, hd1⟩ := id hi
    obtain ⟨o2, ho2, hc2, _⟩ := id p
    have hai : a ≠ it := by rintro rfl; rw [ho1] at ho2; cases ho2; rw [hc1] at hc2; exact absurd hc2 (by decide)
    obtain ⟨f0, f1, f2, f3, f4, f5⟩ := hf it (by simp)
    have hn : its.toArray.size = i := by rw [List.size_toArray, ← rv.length]; exact hx
    refine wpAny_pyNext_enum_endD (drawsT (A := X.A.in1) (show X.A.in1.handled = none from I.ok.hd hc) it a hai its.toArray) he ⟨by rw [hn]; exact hi, p⟩ fun h' eb => ⟨rfl, I.turned (t' := s.toks) (fun b o hb q => eb b o hb q) f0 f1 f3 f4 f5⟩
  self := fun _ _ _ _ _ st h => let ⟨⟨_, he⟩, _⟩ := st; wpAny_pyIter_enum he h
end DL
end
section
set_option Elab.async false
set_option linter.all false
set_option maxRecDepth 100000
namespace DL
open PySem PySem.Spec PyProof.Rows L2
noncomputable def tyN : D → Option String
  | .non => some "NoneType"
  | .bl _ => some "bool"
  | .int _ => some "int"
  | .str _ => some "str"
  | .tup _ => some "tuple"
  | .lst _ => some "list"
  | .dic _ => some "dict"
  | .obj _ _ => none
noncomputable def subT (t T : String) : Bool := t == T || (t == "bool" && T == "int")
noncomputable def isiD (T : String) (d : D) : Option D := (tyN d).map fun t => .bl (subT t T)
noncomputable def TyD (K : PySem.W.Frag) (x : V) (H : Hp) (t : String) : Prop := match x with
  | .non => t = "NoneType"
  | .bl _ => t = "bool"
  | .int _ => t = "int"
  | .str _ => t = "str"
  | .ref p => (t = "list" ∧ ∃ xs, SqL K H p xs) ∨ (t = "tuple" ∧ ∃ xs, SqT K H p xs) ∨ (t = "dict" ∧ ∃ kvs, Rd H p (.dK kvs))
  | _ => False
theorem tyD_ok {K : PySem.W.Frag} {G : GH} {H : Hp} {v : V} {d : D} {t : String} (gk : GOk K G H) (h : RB K G H v d) (e : tyN d = some t) : TyD K v H t := by
  cases d with
  | non => cases e; rw [h.non gk]; rfl
  | bl b => cases e; rw [h.bl gk]; rfl
  | int i => cases e; rw [h.int gk]; rfl
  | str x => cases e; rw [h.str gk]; rfl
  | tup ds => cases e; obtain ⟨a, xs, rfl, s, r⟩ := h.tup gk; exact .inr (.inl ⟨rfl, xs, s⟩)
  | lst ds => cases e; obtain ⟨a, xs, rfl, s, r⟩ := h.lst gk; exact .inl ⟨rfl, xs, s⟩
  | dic ds => cases e; obtain ⟨a, xs, rfl, s, r⟩ := h.dic gk; exact .inr (.inr ⟨rfl, xs, s⟩)
  | obj _ _ => cases e
section
variable {X : Cx} {g : GE} {m : List Md} {e a : Expr} {f : FE} {pos p p2 : Pos}
theorem call_isi : CallR X (.builtin "isinstance") (fun xs H Q => ∃ x t T b, xs = [x, .ty T] ∧ TyD X.K x H t ∧ PySem.W.kitOne X.K (.type t) (.type T) = some b ∧ Q (.bl b) H) := by
  intro pins s σ H xs us Q I r h
  obtain ⟨x, t, T, b, rfl, ty, e, q⟩ := h
  obtain ⟨u, w', rfl, rx, ry⟩ := vals2 r
  cases ry
  have fin : ∀ tk, EP X pins σ Q (.bool b) { s with toks := tk } := fun tk => ⟨.bl b, H, I.tok tk, rfl, q⟩
  cases x with
  | non => cases rx; cases (show t = "NoneType" from ty); exact PySem.W.kia_one PySem.W.kitx_none I.kIn True.intro e (fun z => nomatch z) fin
  | bl y => cases rx; cases (show t = "bool" from ty); exact PySem.W.kia_one PySem.W.kitx_bool I.kIn True.intro e (fun z => nomatch z) fin
  | int i => obtain ⟨t, rfl⟩ := rx; cases ty; exact PySem.W.kia_one PySem.W.kitx_int I.kIn True.intro e (fun z => nomatch z) fin
  | str i => obtain ⟨t, rfl⟩ := rx; cases ty; exact PySem.W.kia_one PySem.W.kitx_str I.kIn True.intro e (fun z => nomatch z) fin
  | ref p =>
    cases rx
    rcases ty with ⟨rfl, xs, hq⟩ | ⟨rfl, xs, hq⟩ | ⟨rfl, kvs, hq⟩
    · obtain ⟨its, _, pl, _⟩ := I.list hq
      obtain ⟨o, ho, hc, _⟩ := pl.isList
      exact PySem.W.kia_one PySem.W.kitx_list I.kIn ⟨o, ho, hc⟩ e (fun z => nomatch z) fin
    · obtain ⟨its, _, pl, _⟩ := I.tuple hq
      obtain ⟨o, ho, hc, _⟩ := pl
      exact PySem.W.kia_one PySem.W.kitx_tuple I.kIn ⟨o, ho, hc⟩ e (fun z => nomatch z) fin
    · obtain ⟨_, _, vs, _, pp⟩ := (show ObjOk X.prog X.w H s.heap p (.dK kvs) from hq.ok I.hok)
      obtain ⟨o, es, ep, h1, h2, _⟩ := pp
      exact PySem.W.kia_one PySem.W.kitx_dict I.kIn ⟨o, h1, h2.1⟩ e (fun z => nomatch z) fin
  | _ => exact (show False from ty).elim
theorem s_isi (x : Str) (T : String) (hv : bootBuiltins x = some (.type T)) (hk : ∀ (d : D) (t : String), tyN d = some t → PySem.W.kitOne X.K (.type t) (.type T) = some (subT t T)) (hg : Gl X "isinstance") (hm : X.mg "isinstance" = none) (hgT : Gl X x) (hmT : X.mg x = none) (he : SB X g m e f)
    (hn : x ≠ "__name__" := by decide) (hd : (x == ("__debug__" : Str)) = false := by decide) (hs1 : starEach [e, .Name x p2] X.env = (false, eval e X.env) :: starEach [.Name x p2] X.env := by rfl) (hs2 : starEach [.Name x p2] X.env = (false, eval (.Name x p2) X.env) :: starEach [] X.env := by rfl)
    (hpl : (backTo pos (starEach [.Name x p2] X.env)).any (·.1) = false := by rfl) :
    SE X g m (.Call (.Name "isinstance" p) [e, .Name x p2] [] pos) (f1 f (isiD T)) := by
  refine PE.imp (pe_callB call_isi hg hm (by first | exact PyProof.Rows.boot_isinstance | rfl) (pa_cons he (pa_cons (pe_bltn (v := .ty T) hgT hmT hv rfl hn hd) pa_nil hs2) hs1) (by decide) (by decide) hs1 hpl) fun σ H Q ⟨r, G, si, q⟩ => ⟨r, G, si, fin_mono (fin_bind q) fun d q1 v G1 H1 w1 r1 => ?_⟩
  obtain ⟨d', e', q2⟩ := fin_opt q1
  unfold isiD at e'
  cases et : tyN d with
  | none => rw [et] at e'; cases e'
  | some t =>
    rw [et] at e'
    cases e'
    exact ⟨v, t, T, _, rfl, tyD_ok w1.ok r1 et, hk d t et, q2 _ G1 H1 w1 (.scl (.bl _))⟩
end
theorem tyN_cases {d : D} {t : String} (h : tyN d = some t) {P : String → Prop} (h1 : P "NoneType") (h2 : P "bool") (h3 : P "int") (h4 : P "str") (h5 : P "tuple") (h6 : P "list") (h7 : P "dict") : P t := by
  cases d <;> cases h <;> assumption
theorem kit_int (K : PySem.W.Frag) (d : D) (t : String) (h : tyN d = some t) : PySem.W.kitOne K (.type t) (.type "int") = some (subT t "int") := tyN_cases (P := fun t => PySem.W.kitOne K (.type t) (.type "int") = some (subT t "int")) h (by kernel_rfl) (by kernel_rfl) (by kernel_rfl) (by kernel_rfl) (by kernel_rfl) (by kernel_rfl) (by kernel_rfl)
theorem kit_bool (K : PySem.W.Frag) (d : D) (t : String) (h : tyN d = some t) : PySem.W.kitOne K (.type t) (.type "bool") = some (subT t "bool") := tyN_cases (P := fun t => PySem.W.kitOne K (.type t) (.type "bool") = some (subT t "bool")) h (by kernel_rfl) (by kernel_rfl) (by kernel_rfl) (by kernel_rfl) (by kernel_rfl) (by kernel_rfl) (by kernel_rfl)
theorem kit_tuple (K : PySem.W.Frag) (d : D) (t : String) (h : tyN d = some t) : PySem.W.kitOne K (.type t) (.type "tuple") = some (subT t "tuple") := tyN_cases (P := fun t => PySem.W.kitOne K (.type t) (.type "tuple") = some (subT t "tuple")) h (by kernel_rfl) (by kernel_rfl) (by kernel_rfl) (by kernel_rfl) (by kernel_rfl) (by kernel_rfl) (by kernel_rfl)
section
variable {X : Cx} {g : GE} {m : List Md} {e a b : Expr} {f fa : FE} {pos p pos2 p2 : Pos} {es : List Expr} {fl : Rho → Res (List D)}
end
end DL
end
section
set_option Elab.async false
set_option linter.all false
set_option maxRecDepth 100000
namespace DL
open PySem PySem.Spec PyProof.Rows L2
section
variable {X : Cx} {g : GE} {m mb : List Md} {e a b o : Expr} {es : List Expr} {f fa fb fo : FE} {fl : Rho → Res (List D)} {pos pos' apos cpos : Pos} {ro : Bool} {x name : Str} {T id : String} {R : V → List V → Hp → VK → Prop} {k : D → List D → Option D}
noncomputable def isInt : D → Bool
  | .int _ => true
  | _ => false
noncomputable def valsD : D → Option D
  | .dic kvs => some (.lst (kvs.map (·.2)))
  | _ => none
end
end DL
end
section
set_option Elab.async false
set_option linter.all false
set_option maxRecDepth 100000
namespace DL
open PySem PySem.Spec PyProof.Rows L2
noncomputable def enuD : Nat → List D → List D
  | _, [] => []
  | i, d :: ds => .tup [.int i, d] :: enuD (i + 1) ds
theorem enuD_len : ∀ (i : Nat) (ds : List D), (enuD i ds).length = ds.length
  | _, [] => rfl
  | i, d :: ds => congrArg (· + 1) (enuD_len (i + 1) ds)
theorem enuD_get : ∀ (i j : Nat) (ds : List D), (enuD i ds)[j]? = (ds[j]?).map fun d => D.tup [.int ((i + j : Nat) : Int), d]
  | _, _, [] => by simp [enuD]
  | i, 0, d :: ds => by simp [enuD]
  | i, j + 1, d :: ds => by
    show (enuD (i + 1) ds)[j]? = _
    rw [enuD_get (i + 1) j ds]
    simp only [List.getElem?_cons_succ]
    rw [show i + 1 + j = i + (j + 1) by omega]
theorem yl_enum {K : PySem.W.Frag} {ds : List D} {G0 : GH} {sq : Hp → List V → Prop} (h : ∀ G H, Gle G0 G → GOk K G H → ∃ xs, sq H xs ∧ RGs K G xs ds) : Yields K (Ien sq) (enuD 0 ds) G0 := by
  refine ⟨fun G H i w gk hi => ?_, fun G H i x H' d w gk y e => ?_, fun G H w gk => ?_⟩
  · obtain ⟨xs, s, r⟩ := h G H w gk
    rw [enuD_len] at hi
    have hl := Paired.length r
    exact ⟨xs, xs[i], s, List.getElem?_eq_getElem (by omega)⟩
  · obtain ⟨xs, s, r⟩ := h G H w gk
    obtain ⟨p, v, hp, rfl, rfl, hv⟩ := y
    rw [enuD_get] at e
    cases ed : ds[i]? with
    | none => rw [ed] at e; cases e
    | some d0 =>
      rw [ed] at e
      simp only [Option.map_some, Option.some.injEq, Nat.zero_add] at e
      subst e
      obtain ⟨v', e1, rv⟩ := Paired.get r ed
      have := hv xs s
      rw [e1] at this; cases this
      exact ⟨_, Grow.newF gk hp (.tup (.inl upd_same) (.cons (.scl (.int _)) (.cons rv .nil))), .ref gset_same⟩
  · obtain ⟨xs, s, r⟩ := h G H w gk
    rw [enuD_len]
    exact ⟨xs, s, Paired.length r⟩
noncomputable def fEnu (f : FE) : FI := fun r => (f r).bind fun d => (opt (asSeq d)).bind fun ds => .ok (enuD 0 ds)
section
variable {X : Cx} {g : GE} {m : List Md} {e a : Expr} {f : FE} {pos p pos2 : Pos} {elts : List Expr} {kk : Nat}
theorem pi_enum {te : TE} (hg : Gl X "enumerate") (hm : X.mg "enumerate" = none) (he : PE X e te) (hs : starEach [e] X.env = (false, eval e X.env) :: starEach [] X.env := by rfl) : PI X (.Tuple elts kk pos2) (.Call (.Name "enumerate" p) [e] [] pos) (fun σ H R => te σ H fun x H1 =>
      (∃ a, x = .ref a ∧ (∃ xs, SqL X.K H1 a xs) ∧ R (Ien fun H xs => SqL X.K H a xs) H1) ∨ ∃ a, x = .ref a ∧ (∃ xs, SqT X.K H1 a xs) ∧ R (Ien fun H xs => SqT X.K H a xs) H1) := by
  intro pins s σ H R I h
  refine Call_ (ld_blt I hg hm boot_enumerate (PyProof.Rows.callWith_type1 (thn (pa_cons he pa_nil hs pos pins s σ H (fun vs H1 => match vs with
    | [x] => (∃ a, x = .ref a ∧ (∃ xs, SqL X.K H1 a xs) ∧ R (Ien fun H xs => SqL X.K H a xs) H1) ∨ ∃ a, x = .ref a ∧ (∃ xs, SqT X.K H1 a xs) ∧ R (Ien fun H xs => SqT X.K H a xs) H1
    | _ => False) I h) fun us s1 ⟨vs, H1, I1, r1, q1⟩ => ?_) hs rfl))
  · cases r1 with
    | nil => exact q1.elim
    | @cons x u xs us rx rt =>
    cases rt with
    | cons _ _ => exact q1.elim
    | nil =>
    have fin : ∀ {h' : Heap}, h'.objs.size = s1.heap.objs.size + 2 → (∀ b o, s1.heap.get? b = some o → h'.get? b = some o) → ∀ b ∈ [s1.heap.objs.size + 1, s1.heap.objs.size], FpOk X pins H1 b := fun hz kp b hb => by
      have hge : s1.heap.objs.size ≤ b := by
        rcases List.mem_cons.mp hb with rfl | hb
        · exact Nat.le_succ _
        · rw [List.mem_singleton.mp hb]; exact Nat.le_refl _
      exact I1.fpOk hge (I1.hok.fresh hge)
    rcases q1 with ⟨a, rfl, ⟨xs, hq⟩, q⟩ | ⟨a, rfl, ⟨xs, hq⟩, q⟩
    · cases rx
      obtain ⟨its, rv, pl, hz⟩ := I1.list hq
      refine call_enumerate_list pl.isList fun h' he hi hsz kp => wpAny_pyIter_enum he ?_
      exact ⟨_, [s1.heap.objs.size + 1, s1.heap.objs.size], _, _, H1, rfl, I1.kept (t' := s1.toks) kp, turn_enumL a _ _ (Nat.ne_of_gt (Nat.lt_succ_self _)), ⟨⟨_, he⟩, hi⟩, fin hsz kp, q⟩
    · cases rx
      obtain ⟨its, rv, pl, hz⟩ := I1.tuple hq
      refine call_enum_tuple (show s1.heap.IsTuple a its.toArray from pl) fun h' he hi hsz kp => wpAny_pyIter_enum he ?_
      exact ⟨_, [s1.heap.objs.size + 1, s1.heap.objs.size], _, _, H1, rfl, I1.kept (t' := s1.toks) kp, turn_enumT a _ _ (Nat.ne_of_gt (Nat.lt_succ_self _)), ⟨⟨_, he⟩, hi⟩, fin hsz kp, q⟩
theorem i_enum (hg : Gl X "enumerate") (hm : X.mg "enumerate" = none) (he : SE X g m e f) (hs : starEach [e] X.env = (false, eval e X.env) :: starEach [] X.env := by rfl) : SIt X g m (.Tuple elts kk pos2) (.Call (.Name "enumerate" p) [e] [] pos) (fEnu f) := by
  refine PI.imp (pi_enum hg hm he hs) fun σ H R ⟨r, G, si, q⟩ => ⟨r, G, si, fin_mono (fin_bind q) fun d q v G' H' w rv => ?_⟩
  obtain ⟨ds, e, q⟩ := fin_opt (fin_bind q)
  cases d with
  | lst ds' =>
    cases e
    obtain ⟨a, xs, rfl, s, rs⟩ := rv.lst w.ok
    refine .inl ⟨a, rfl, ⟨xs, s⟩, q _ G' H' w (yl_enum fun G H le gk => ?_)⟩
    obtain ⟨b, ys, e, s', r'⟩ := (rv.mono le).lst gk
    cases e
    exact ⟨ys, s', r'⟩
  | tup ds' =>
    cases e
    obtain ⟨a, xs, rfl, s, rs⟩ := rv.tup w.ok
    refine .inr ⟨a, rfl, ⟨xs, s⟩, q _ G' H' w (yl_enum fun G H le gk => ?_)⟩
    obtain ⟨b, ys, e, s', r'⟩ := (rv.mono le).tup gk
    cases e
    exact ⟨ys, s', r'⟩
  | _ => cases e
end
end DL
end
section
set_option Elab.async false
set_option linter.all false
set_option maxRecDepth 100000
namespace DL
open PySem PySem.Spec PyProof.Rows L2
inductive TupI (h : Heap) : Value → List Int → Prop where
  | mk {a : Addr} {items : Array Value} {ns : List Int} : IsTup h a items → IntsAre items.toList ns → TupI h (.ref a) ns
inductive TupsI (h : Heap) : List Value → List (List Int) → Prop where
  | nil : TupsI h [] []
  | cons {p : Value} {k : List Int} {ps : List Value} {ks : List (List Int)} : TupI h p k → TupsI h ps ks → TupsI h (p :: ps) (k :: ks)
theorem TupsI.length {h : Heap} : ∀ {ps : List Value} {ks : List (List Int)}, TupsI h ps ks → ps.length = ks.length
  | _, _, .nil => rfl
  | _, _, .cons _ t => congrArg (· + 1) t.length
section
variable {prog : Program} {w : World} {A : Around} {s : Shared}
inductive TupR (h : Heap) : Value → List (List Int) → Prop where
  | mk {a : Addr} {items : List Value} {ks : List (List Int)} : IsTup h a items.toArray → TupsI h items ks → ks ≠ [] → TupR h (.ref a) ks
end
end DL
end
section
set_option Elab.async false
set_option linter.all false
set_option maxRecDepth 100000
namespace DL
open PySem PySem.Spec PyProof.Rows L2
noncomputable def asInts : List D → Option (List Int)
  | [] => some []
  | .int i :: ds => (asInts ds).map (i :: ·)
  | _ => none
theorem asInts_v {K : PySem.W.Frag} {G : GH} {H : Hp} (gk : GOk K G H) : ∀ {ds : List D} {xs : List V} {ns : List Int}, RGs K G xs ds → asInts ds = some ns → xs = ns.map V.int
  | [], _, _, .nil, e => by cases e; rfl
  | d :: ds, _, ns, .cons r t, e => by
    cases d with
    | int i =>
      have e' : (asInts ds).map (i :: ·) = some ns := e
      cases q : asInts ds with
      | none => rw [q] at e'; cases e'
      | some ms =>
        rw [q] at e'
        cases e'
        have h1 := r.int gk
        have h2 := asInts_v gk t q
        rw [h1, h2]; rfl
    | _ => cases e
section
variable {X : Cx} {g : GE} {m : List Md} {e a : Expr} {f : FE} {pos p pos2 p2 : Pos}
end
end DL
end
section
set_option Elab.async false
set_option linter.all false
set_option maxRecDepth 100000
namespace DL
open PySem PySem.Spec PyProof.Rows L2
theorem ObjOk.isS {P : Program} {w : World} {H : Hp} {h : Heap} {a : Addr} {o : HO} (x : ObjOk P w H h a o) : h.get? a ≠ none := by
  have s : ∀ {u : Obj}, h.get? a = some u → h.get? a ≠ none := fun e z => by rw [z] at e; cases e
  cases o with
  | lst xs => obtain ⟨_, _, _, _, e⟩ := x; exact s e
  | tup xs => obtain ⟨_, _, _, ⟨_, e, _⟩, _⟩ := x; exact s e
  | dK kvs => obtain ⟨_, _, _, _, o, _, _, e, _⟩ := x; exact s e
  | dT kvs => obtain ⟨_, _, _, _, o, _, _, e, _⟩ := x; exact s e
  | set S n => obtain ⟨o, _, _, _, e, _⟩ := x; exact s e
  | ins C dx fs => obtain ⟨_, _, _, e, _⟩ := x; exact s e
  | own y => obtain ⟨_, e⟩ := x; exact s e
  | xd fs => obtain ⟨_, ⟨_, _, _, e, _⟩, _⟩ := x; exact s e
  | rng lo hi => obtain ⟨_, _, _, e⟩ := x; exact s e
  | frz ob u => obtain ⟨e, _⟩ := x; exact s e
  | tbl ps => exact s (show h.get? a = some _ from x)
  | met f y => exact s (show h.get? a = some _ from x)
  | ext φ => obtain ⟨_, ⟨_, e⟩, _⟩ := x; exact s e
section
variable {X : Cx} {pins : List (Addr × Obj)} {σ : L2.St} {H : Hp} {s : Shared}
theorem TupI.stay {h h' : Heap} {L : Addr} {mm : Str → Option Value} (hL : h.Ns L mm) (k : ∀ b o, b ≠ L → h.get? b = some o → h'.get? b = some o) {p : Value} {ns : List Int} (x : TupI h p ns) : TupI h' p ns := by
  cases x with
  | mk ht hi =>
    obtain ⟨o, h1, h2, n, h3⟩ := ht
    refine .mk ⟨o, k _ _ ?_ h1, h2, n, h3⟩ hi
    rintro rfl
    obtain ⟨o', es, ep, e, d, _⟩ := hL
    rw [h1] at e; cases e
    rw [h3] at d; cases d
theorem TupsI.stay {h h' : Heap} {L : Addr} {mm : Str → Option Value} (hL : h.Ns L mm) (k : ∀ b o, b ≠ L → h.get? b = some o → h'.get? b = some o) : ∀ {ps : List Value} {ks : List (List Int)}, TupsI h ps ks → TupsI h' ps ks
  | _, _, .nil => .nil
  | _, _, .cons x t => .cons (x.stay hL k) (t.stay hL k)
theorem TupR.stay {h h' : Heap} {L : Addr} {mm : Str → Option Value} (hL : h.Ns L mm) (k : ∀ b o, b ≠ L → h.get? b = some o → h'.get? b = some o) {p : Value} {ks : List (List Int)} (x : TupR h p ks) : TupR h' p ks := by
  cases x with
  | mk ht hi hn =>
    obtain ⟨o, h1, h2, n, h3⟩ := ht
    refine .mk ⟨o, k _ _ ?_ h1, h2, n, h3⟩ (hi.stay hL k) hn
    rintro rfl
    obtain ⟨o', es, ep, e, d, _⟩ := hL
    rw [h1] at e; cases e
    rw [h3] at d; cases d
theorem ns_uniq {h : Heap} {L : Addr} {m m' : Str → Option Value} (a : h.Ns L m) (b : h.Ns L m') : m = m' := by
  obtain ⟨o, es, ep, e, d, _, f⟩ := a
  obtain ⟨o', es', ep', e', d', _, f'⟩ := b
  rw [e] at e'; cases e'
  rw [d] at d'; cases d'
  funext x
  rw [← f, ← f']
end
end DL
end
section
set_option Elab.async false
set_option linter.all false
set_option maxRecDepth 100000
namespace DL
open PySem PySem.Spec PyProof.Rows L2
section
variable {K : PySem.W.Frag} {G : GH} {H : Hp}
end
section
variable {X : Cx} {g : GE} {m : List Md} {a : Expr} {fl : Rho → Res (List D)} {pos p : Pos} {k : Nat}
end
end DL
end
section
set_option Elab.async false
set_option linter.all false
set_option maxRecDepth 100000
set_option maxHeartbeats 1000000
namespace DL
open PySem PyProof.Rows PySem.SeqAt PySem.MeetsSeq PySem.MeetsSeq2 PySem.MeetsSeq3 L2
open PySem.AutoSeq1 (wpAny_loadPart')
end DL
end
section
set_option Elab.async false
set_option linter.all false
set_option maxRecDepth 100000
set_option maxHeartbeats 1000000
namespace DL
open PySem PyProof.Rows L2
section
variable {prog : Program} {w : World} {A : Around} {E : Value → Shared → Prop} {s : Shared}
noncomputable def LisI (h : Heap) (u : Value) (ns : List Int) : Prop := ∃ a its, u = .ref a ∧ h.IsList a its ∧ IntsAre its.toList ns
end
end DL
end
section
set_option Elab.async false
set_option linter.all false
set_option maxRecDepth 100000
namespace DL
open PySem PySem.Spec PyProof.Rows L2
section
variable {X : Cx} {pins : List (Addr × Obj)} {σ : L2.St} {H : Hp} {s : Shared}
theorem LisI.stay {h h' : Heap} {L : Addr} {mm : Str → Option Value} (hL : h.Ns L mm) (k : ∀ b o, b ≠ L → h.get? b = some o → h'.get? b = some o) {p : Value} {ns : List Int} (x : LisI h p ns) : LisI h' p ns := by
  obtain ⟨a, its, rfl, ⟨o, h1, h2, n, h3⟩, hi⟩ := x
  refine ⟨a, its, rfl, ⟨o, k _ _ ?_ h1, h2, n, h3⟩, hi⟩
  rintro rfl
  obtain ⟨o', es, ep, e, d, _⟩ := hL
  rw [h1] at e; cases e
  rw [h3] at d; cases d
end
section
variable {K : PySem.W.Frag} {G : GH} {H : Hp}
end
section
variable {X : Cx} {g : GE} {m : List Md} {a : Expr} {fl : Rho → Res (List D)} {pos p : Pos} {k : Nat}
end
end DL
end
section
set_option Elab.async false
set_option linter.all false
set_option maxRecDepth 100000
namespace DL
open PySem PySem.Spec PyProof.Rows L2
section
variable {X : Cx} {pins : List (Addr × Obj)} {σ : L2.St} {H : Hp} {s : Shared}
theorem Inv.keptN {h' : Heap} (I : Inv X pins σ H s) (k : ∀ b o, b ≠ X.env.locals → s.heap.get? b = some o → h'.get? b = some o)
    (hns : ∀ m, s.heap.Ns X.env.locals m → h'.Ns X.env.locals m) (t' : Nat) : Inv X pins σ H { s with heap := h', toks := t' } := by
  have trkL : ∀ b u, H b = some u → b ≠ X.env.locals := fun b u e z => by rw [z, I.free] at e; cases e
  refine I.step (g' := s.gens) (d' := s.drawn) (ch := []) (fun b hb => absurd hb (by simp)) (fun b ob hL _ _ e _ => k b ob hL e) (fun b ob hL _ _ e _ => ⟨ob.slots, k b ob hL e⟩) (fun b ob _ e n => n)
    (fun b ob _ e => ?_) (fun b xs e => e) (fun b ob u e => e) (fun b ps e => ⟨#[], by rw [e]; simp⟩) hns (fun b u e => ?_) I.bare
  · by_cases hb : b = X.env.locals
    · subst hb
      obtain ⟨m, hn, _⟩ := I.loc
      obtain ⟨o, _, _, ho', _⟩ := hns m hn
      exact ⟨o, ho'⟩
    · exact ⟨ob, k b ob hb e⟩
  · refine (I.hok b u e).stay (fun cc v hc q => k cc v ?_ q) (fun cc q => q) fun cc xs q => q
    rcases hc with z | z
    · rw [z]; exact trkL b u e
    · exact trkL cc _ z
theorem Inv.keptF {h' : Heap} {mF : Str → Option Value} (I : Inv X pins σ H s) (F : Fr X.base X.env.locals s.heap mF) (F' : Fr X.base X.env.locals h' mF) (N' : News X.base X.env.locals h' (allNews X.base s.heap X.env.locals)) (t' : Nat) : Inv X pins σ H { s with heap := h', toks := t' } := by
  refine Inv.keptN I (fun b o hb e => ?_) (fun m hm => by rw [ns_uniq hm F.ns]; exact F'.ns) t'
  cases z : X.base.get? b with
  | some o' =>
    have := I.bk b o' z
    rw [e] at this; cases this
    exact F'.keep b o z
  | none => exact (N' (b, o) (mem_allNews hb z e)).1
end
section
variable {X : Cx} {g : GE} {m : List Md} {e a b : Expr} {es : List Expr} {fl : Rho → Res (List D)} {fa fb : FE} {pos p : Pos}
end
end DL
end
section
set_option Elab.async false
set_option linter.all false
set_option maxRecDepth 100000
set_option maxHeartbeats 1000000
namespace DL
open PySem PyProof.Rows L2
open PySem.AutoSeq1 (wpAny_loadPart')
section
variable {X : Cx}
end
end DL
end
section
set_option Elab.async false
set_option linter.all false
set_option maxRecDepth 100000
namespace DL
open PySem PyProof.Rows PySem.W
noncomputable abbrev at0 (p : Array Nat) (i : Nat) : Nat := p.getD i 0
section
variable {n : Nat} {c : Nat → Nat → Bool} (as : ∀ i j, c i j = true → c j i = false) (tr : ∀ i j k, c j i = false → c k j = false → c k i = false)
noncomputable def Le (c : Nat → Nat → Bool) (i j : Nat) : Prop := c j i = false
noncomputable def Dn (c : Nat → Nat → Bool) (p : Array Nat) (k : Nat) : Prop := ∀ i, i + 1 < k → Le c (at0 p (i + 1)) (at0 p i)
noncomputable def Eqv (c : Nat → Nat → Bool) (i j : Nat) : Prop := Le c i j ∧ Le c j i
include tr in
theorem Eqv.trans {i j k : Nat} (h1 : Eqv c i j) (h2 : Eqv c j k) : Eqv c i k := ⟨tr _ _ _ h1.1 h2.1, tr _ _ _ h2.2 h1.2⟩
theorem Eqv.symm {i j : Nat} (h : Eqv c i j) : Eqv c j i := ⟨h.2, h.1⟩
include as tr in
include tr in
theorem Dn.eqv {p p' : Array Nat} {k : Nat} (h : Dn c p k) (e : ∀ i, Eqv c (at0 p' i) (at0 p i)) : Dn c p' k := fun i hi => tr _ _ _ (e (i + 1)).1 (tr _ _ _ (h i hi) (e i).2)
include as tr in
include as tr in
include as tr in
include as tr in
include as tr in
include as tr in
include as tr in
include as tr in
include as tr in
end
end DL
end
section
set_option Elab.async false
set_option linter.all false
namespace DL
section
variable {α : Type} {lt : α → α → Bool} {d : α}
end
end DL
end
section
set_option Elab.async false
set_option linter.all false
set_option maxRecDepth 100000
namespace DL
open PySem PySem.Spec PyProof.Rows L2
section
variable {X : Cx} {pins : List (Addr × Obj)} {σ : L2.St} {H : Hp} {s : Shared}
end
section
variable {X : Cx} {g : GE} {m : List Md} {a : Expr} {fl : Rho → Res (List D)} {pos p : Pos} {k : Nat}
end
end DL
end
section
set_option Elab.async false
set_option linter.all false
set_option maxRecDepth 100000
namespace DL
open PySem PySem.Spec PyProof.Rows L2
section
variable {X : Cx} {pins : List (Addr × Obj)} {σ : L2.St} {H : Hp} {s : Shared}
theorem all_range (bs : List Bool) : ((List.range bs.length).all fun i => bs.getD i true) = bs.all id := by
  rw [Bool.eq_iff_iff, List.all_eq_true, List.all_eq_true]
  constructor
  · intro h b hb
    obtain ⟨i, hi, rfl⟩ := List.getElem_of_mem hb
    have := h i (List.mem_range.mpr hi)
    simpa [List.getD_eq_getElem?_getD, hi] using this
  · intro h i hi
    have hi := List.mem_range.mp hi
    have := h bs[i] (List.getElem_mem _)
    simpa [List.getD_eq_getElem?_getD, hi] using this
theorem walk_bools (hc : X.calm = true) (I : Inv X pins σ H s) {p : Addr} {bs : List Bool} (hq : SqL X.K H p (bs.map V.bl)) {A : Around} (hA : A.handled = none) {E : Value → Shared → Prop} {Q : Value → Shared → Prop}
    (h : ∀ I fp wr n P St tr it s₂, it = Value.ref I → Walks X.prog X.w A I fp wr n P St → St 0 s₂.heap → TruthOf X.prog X.w A P tr → n = bs.length → (∀ i, tr i = bs.getD i true) →
      (∀ (h' : Heap) (tk : Nat), (∀ (b : Addr) (o : Obj), ¬b ∈ wr → s₂.heap.get? b = some o → h'.get? b = some o) → Inv X pins σ H { heap := h', gens := s₂.gens, drawn := s₂.drawn, toks := tk, os := s₂.os }) → Q it s₂) :
    wpAny (model X.prog X.w) A (pyIter (.ref p)) Q E s := by
  obtain ⟨its, rv, pl, hz⟩ := I.list hq
  have hl := rv.length
  rw [List.length_map] at hl
  refine PySem.Flt.iter_list_ pl.isList fun s₂ e2 hi hlt hne => ?_
  refine h s.heap.objs.size [s.heap.objs.size, p] [s.heap.objs.size] its.toArray.size _ _ (fun i => bs.getD i true) _ s₂ rfl (Walks.list hA _ p hne its.toArray) hi ?_ (by rw [List.size_toArray, hl]) (fun i => rfl) fun h' tk k => ?_
  · intro i v s' Q' E' hv hq'
    have hv' : its[i]? = some v := by simpa using hv
    have hi : i < its.length := (List.getElem?_eq_some_iff.mp hv').1
    have hki : i < (bs.map V.bl).length := by rw [List.length_map]; omega
    obtain ⟨u, h1, h3⟩ := rv.get (i := i) (x := (bs.map V.bl)[i]) (List.getElem?_eq_getElem hki)
    rw [hv'] at h1
    cases h1
    rw [List.getElem_map] at h3
    have h3' : v = Value.bool bs[i] := h3
    subst h3'
    have e : bs.getD i true = bs[i] := by
      have hb : i < bs.length := by omega
      simp [List.getD_eq_getElem?_getD, hb]
    have hq2 : Q' (bs.getD i true) s' := hq'
    rw [e] at hq2
    exact wpAny_pure hq2
  · subst e2
    have ne : ∀ b o, s.heap.get? b = some o → ¬ b ∈ [s.heap.objs.size] := fun b o e z => by
      have := List.mem_singleton.mp z
      subst this
      exact absurd (Heap.lt_size e) (Nat.lt_irrefl _)
    exact Inv.keptN I (fun b o _ e => k b o (ne b o e) (Heap.get?_push_of_some _ e)) (fun m ⟨o, es, ep, e, z⟩ => ⟨o, es, ep, k _ _ (ne _ _ e) (Heap.get?_push_of_some _ e), z⟩) tk
theorem call_all (hc : X.calm = true) : CallR X (.builtin "all") (fun xs H Q => ∃ (p : Addr) (bs : List Bool), xs = [.ref p] ∧ SqL X.K H p (bs.map V.bl) ∧ Q (.bl (bs.all id)) H) := by
  intro pins s σ H xs us Q I r h
  obtain ⟨p, bs, rfl, hq, q⟩ := h
  obtain ⟨u, rfl, rx⟩ := vals1 r
  cases rx
  refine call_all_walk (walk_bools hc I hq (show X.A.in1.handled = none from I.ok.hd hc) fun J fp wr n P St tr it s₂ e1 e2 e3 e4 e5 e6 e7 => ⟨J, fp, wr, n, P, St, tr, e1, e2, e3, e4, fun h' tk k => ?_⟩)
  have et : tr = fun i => bs.getD i true := funext e6
  rw [e5, et, all_range]
  exact ⟨.bl (bs.all id), H, e7 h' tk k, rfl, q⟩
end
noncomputable def asBls : List D → Option (List Bool)
  | [] => some []
  | .bl b :: ds => (asBls ds).map (b :: ·)
  | _ => none
theorem asBls_v {K : PySem.W.Frag} {G : GH} {H : Hp} (gk : GOk K G H) : ∀ {ds : List D} {xs : List V} {bs : List Bool}, RGs K G xs ds → asBls ds = some bs → xs = bs.map V.bl
  | [], _, _, .nil, e => by cases e; rfl
  | d :: ds, _, bs, .cons r t, e => by
    cases d with
    | bl b =>
      have e' : (asBls ds).map (b :: ·) = some bs := e
      cases e1 : asBls ds with
      | none => rw [e1] at e'; cases e'
      | some bs' =>
        rw [e1] at e'; cases e'
        rw [asBls_v gk t e1, List.map_cons, (RG.rb (H := H) r).bl gk]
    | _ => cases e
noncomputable def allD : List D → Option D
  | [.lst ds] => (asBls ds).map fun bs => .bl (bs.all id)
  | _ => none
theorem all_ok {K : PySem.W.Frag} : CallD K (fun xs H Q => ∃ (p : Addr) (bs : List Bool), xs = [.ref p] ∧ SqL K H p (bs.map V.bl) ∧ Q (.bl (bs.all id)) H) allD := by
  intro G H vs ds d Q gk rs e q
  unfold allD at e
  split at e
  · rename_i zs
    cases ek : asBls zs with
    | none => rw [ek] at e; cases e
    | some bs =>
      rw [ek] at e; cases e
      cases rs with
      | cons r1 t =>
        cases t
        obtain ⟨b, xs, rfl, s, r⟩ := r1.lst gk
        have ex := asBls_v gk r ek
        subst ex
        exact ⟨b, bs, rfl, s, q _ G H (Grow.refl gk) (.scl (.bl _))⟩
  · cases e
section
variable {X : Cx} {g : GE} {m : List Md} {e : Expr} {es : List Expr} {fl : Rho → Res (List D)} {pos p : Pos}
theorem s_all (hc : X.calm = true) (hg : Gl X "all") (hm : X.mg "all" = none) (ha : SAB X g m (e :: es) fl) (he : starEach (e :: es) X.env = (false, eval e X.env) :: starEach es X.env := by rfl) (hpl : (backTo pos (starEach es X.env)).any (·.1) = false := by rfl) :
    SE X g m (.Call (.Name "all" p) (e :: es) [] pos) (fC fl allD) := s_cb all_ok (pe_callB (call_all hc) hg hm PyProof.Rows.boot_all ha (by decide) (by decide) he hpl)
end
end DL
end
section
set_option Elab.async false
set_option linter.all false
set_option maxRecDepth 100000
namespace DL
open PySem PySem.Spec PyProof.Rows L2
section
variable {X : Cx} {pins : List (Addr × Obj)} {σ : L2.St} {H : Hp} {s : Shared}
end
section
variable {X : Cx} {g : GE} {m : List Md} {e : Expr} {es : List Expr} {fl : Rho → Res (List D)} {pos p : Pos}
end
end DL
end
section
set_option Elab.async false
set_option linter.all false
set_option maxRecDepth 100000
namespace DL
open PySem PySem.Spec PyProof.Rows L2
noncomputable def OldIn (h0 H : Hp) : Prop := ∀ a o, h0 a = some o → H a = some o
structure YieldsB (K : PySem.W.Frag) (h0 : Hp) (J : It) (ds : List D) (G0 : GH) : Prop where
  go : ∀ G H (i : Nat), Gle G0 G → GOk K G H → OldIn h0 H → i < ds.length → J.go i H
  yld : ∀ G H (i : Nat) x H' d, Gle G0 G → GOk K G H → OldIn h0 H → J.yld i H x H' → ds[i]? = some d → ∃ G', Grow K G H G' H' ∧ RG K G' x d
  stop : ∀ G H, Gle G0 G → GOk K G H → OldIn h0 H → J.stop ds.length H
theorem Yields.toH {K : PySem.W.Frag} {h0 : Hp} {J : It} {ds : List D} {G0 : GH} (y : Yields K J ds G0) : YieldsB K h0 J ds G0 :=
  ⟨fun G H i w gk _ hi => y.go G H i w gk hi, fun G H i x H' d w gk _ q e => y.yld G H i x H' d w gk q e, fun G H w gk _ => y.stop G H w gk⟩
noncomputable def tIB (X : Cx) (g : GE) (m : List Md) (f : FI) : TI := fun σ H R => ∃ r G, SI X g m r G σ H ∧ fin (f r) (fun ds => ∀ J G' H', Grow X.K G H G' H' → YieldsB X.K g.h0 J ds G' → R J H') (XW X σ G H)
noncomputable def SItB (X : Cx) (g : GE) (m : List Md) (tg iter : Expr) (f : FI) : Prop := PI X tg iter (tIB X g m f)
noncomputable def tBw (X : Cx) (g : GE) (m : List Md) (f : FE) : TE := fun σ H Q => ∃ r G, SI X g m r G σ H ∧ fin (f r) (fun d => ∀ v G' H', Grow X.K G H G' H' → Bw X.K g.h0 G' H' v d → Q v H') (XW X σ G H)
noncomputable def SBw (X : Cx) (g : GE) (m : List Md) (e : Expr) (f : FE) : Prop := PE X e (tBw X g m f)
section
variable {X : Cx} {g : GE} {m m' mb : List Md} {tg e a iter : Expr} {f : FE} {pos p pos2 : Pos} {ro : Bool} {sts : List Stmt} {s1 : FS} {elts : List Expr} {kk : Nat}
theorem SIt.toH {fi : FI} (h : SIt X g m tg iter fi) : SItB X g m tg iter fi := PI.imp h fun σ H R ⟨r, G, si, q⟩ => ⟨r, G, si, fin_mono q fun ds k J G' H' w y => k J G' H' w y.toH⟩
theorem vw_ (i : Nat) {x : Str} (hm : m[i]? = some .bw := by rfl) (hN : X.N[i]? = some x := by rfl) (hv : Vis X.env.scope x := by first | exact Or.inl rfl | exact Or.inr (Or.inl rfl) | exact Or.inr (Or.inr rfl)) (hd : (x == ("__debug__" : Str)) = false := by decide) (hcd : (x == ("__classdict__" : Str)) = false := by decide) :
    SBw X g m (.Name x pos) fun r => getV r i := by
  refine PE.imp (pe_var hN hv hd hcd) fun σ H Q ⟨r, G, si, q⟩ => ?_
  obtain ⟨d, e, k⟩ := fin_getV q
  obtain ⟨v, e1, e2⟩ := si.bw i d e hm
  exact ⟨v, e1, k _ G H (Grow.refl si.gok) e2⟩
theorem own_old {K : PySem.W.Frag} {h0 : Hp} {G0 G : GH} {H0 H : Hp} {a : Addr} {ds : List D} (o : Own K G0 H0 a (.lst ds)) (h : h0 a ≠ none) (o0 : OldIn h0 H0) (le : Gle G0 G) (o1 : OldIn h0 H) : ∃ xs, SqL K H a xs ∧ RGs K G xs ds := by
  cases e : h0 a with
  | none => exact absurd e h
  | some u =>
    have h1 := o0 a u e
    have h2 := o1 a u e
    cases o.ob with
    | lst r s =>
      rw [h1] at r
      cases r
      exact ⟨_, SqL.of h2, RGs.mono s le⟩
theorem yb_seq {K : PySem.W.Frag} {h0 : Hp} {ds : List D} {G0 : GH} {a : Addr} (h : ∀ G H, Gle G0 G → GOk K G H → OldIn h0 H → ∃ xs, SqL K H a xs ∧ RGs K G xs ds) : YieldsB K h0 (Itl K a) ds G0 := by
  refine ⟨fun G H i w gk o hi => ?_, fun G H i x H' d w gk o y e => ?_, fun G H w gk o => ?_⟩
  · obtain ⟨xs, s, r⟩ := h G H w gk o
    have hl := Paired.length r
    exact ⟨xs, xs[i], s, List.getElem?_eq_getElem (by omega)⟩
  · obtain ⟨xs, s, r⟩ := h G H w gk o
    obtain ⟨rfl, y⟩ := y
    obtain ⟨v, e1, rv⟩ := Paired.get r e
    have := y xs s
    rw [e1] at this; cases this
    exact ⟨G, Grow.refl gk, rv⟩
  · obtain ⟨xs, s, r⟩ := h G H w gk o
    exact ⟨xs, s, Nat.le_of_eq (Paired.length r)⟩
theorem SI.oldIn {r : Rho} {G : GH} {st : L2.St} {H : Hp} (s : SI X g m r G st H) : OldIn g.h0 H := s.old
theorem i_seqB (h : SBw X g m e f) : SItB X g m tg e (fSeq asSeq f) := by
  refine PI.imp (pi_seq h) fun σ H R ⟨r, G, si, q⟩ => ⟨r, G, si, fin_mono (fin_bind q) fun d q v G' H' w rv => ?_⟩
  obtain ⟨ds, e, q⟩ := fin_opt q
  cases d with
  | lst ds' =>
    cases e
    rcases rv with rv | ⟨a, rfl, o, ho⟩
    · obtain ⟨a, xs, rfl, s, rs⟩ := rv.lst w.ok
      exact .inl ⟨a, rfl, ⟨xs, s⟩, q _ G' H' w (yl_list rv).toH⟩
    · cases o.ob with
      | lst r s => exact .inl ⟨a, rfl, ⟨_, SqL.of r⟩, q _ G' H' w (yb_seq fun G2 H2 le _ o2 => own_old o ho (si.grow w).oldIn le o2)⟩
  | tup ds' =>
    cases e
    rcases rv with rv | ⟨a, rfl, o, ho⟩
    · obtain ⟨a, xs, rfl, s, rs⟩ := rv.tup w.ok
      exact .inr ⟨a, rfl, ⟨xs, s⟩, q _ G' H' w (yl_tup rv).toH⟩
    · cases o.ob
  | _ => cases e
theorem s_forB (hp : PassesOwn (model X.prog X.w) X.A X.env X.xe) (hc : X.calm = true) {ft : FT} {fi : FI} (hi : SItB X g m tg iter fi) (hg : SG X g m tg ft m) (hb : SSs X g ro m m sts s1 m)
    (hs : ∀ x, foldedSetIterable iter X.env x = pure x := by intro _; rfl) : SS X g ro mb m (.For tg iter sts [] pos) (loopF m fi ft s1) m := by
  refine ⟨rfl, PS.imp (ps_for hp hc hi hg.2 hb.2 hs) fun D σ H ⟨r, G, si, q⟩ => ⟨r, G, si, fin_mono (onE_fin si rfl q) fun ds q J G0 H0 w0 Y => ?_⟩⟩
  refine ⟨fun i n σ H => ∃ r G, SI X g m r G σ H ∧ Gle G0 G ∧ i ≤ ds.length ∧ n = ds.length - i ∧ oTo X g ro m mb G D (forF ft s1 (ds.drop i) r), ⟨ds.length, r, G0, si.grow w0, Gle.refl G0, Nat.zero_le _, rfl, oTo.gle q w0.ge⟩, ?_⟩
  rintro i n σ1 H1 ⟨r1, G1, si1, le1, hi, rfl, q1⟩
  by_cases hlt : i < ds.length
  · have hd : ds.drop i = ds[i] :: ds.drop (i + 1) := List.drop_eq_getElem_cons hlt
    rw [hd] at q1
    unfold forF at q1
    refine .inr ⟨Y.go G1 H1 i le1 si1.gok si1.oldIn hlt, fun σ' H' => ∃ r G, SI X g m r G σ' H' ∧ Gle G0 G ∧ oTo X g ro m mb G D (forF ft s1 (ds.drop (i + 1)) r), fun σ' H' ⟨r', G', si', le', q'⟩ => ⟨ds.length - (i + 1), by omega, r', G', si', le', hlt, rfl, q'⟩, fun x H' y => ?_⟩
    obtain ⟨G', w', rv⟩ := Y.yld G1 H1 i x H' ds[i] le1 si1.gok si1.oldIn y (List.getElem?_eq_getElem hlt)
    have le' : Gle G0 G' := le1.trans w'.ge
    cases eft : ft ds[i] r1 with
    | none => simp only [eft] at q1; exact q1.elim
    | some r2 =>
      simp only [eft] at q1
      refine ⟨r1, G', ds[i], si1.grow w', rv, r2, eft, fun σ2 si2 => ⟨r2, G', si2, ?_⟩⟩
      cases eb : s1 r2 with
      | nx r' => simp only [eb] at q1; exact fun σ3 G3 H3 le3 si3 => ⟨r', G3, si3, le'.trans le3, oTo.gle q1 (Gle.trans w'.ge le3)⟩
      | ct r' => simp only [eb] at q1; exact fun σ3 G3 H3 le3 si3 => ⟨r', G3, si3, le'.trans le3, oTo.gle q1 (Gle.trans w'.ge le3)⟩
      | bk r' => simp only [eb] at q1; exact fun σ3 G3 H3 le3 si3 => q1 σ3 G3 H3 (Gle.trans w'.ge le3) si3
      | rt d => simp only [eb] at q1; exact q1
      | exc x r' => simp only [eb] at q1; exact fun pins e s' σ3 G3 H3 le3 => q1 pins e s' σ3 G3 H3 (Gle.trans w'.ge le3)
      | stuck => simp only [eb] at q1; exact q1
  · have e : i = ds.length := by omega
    subst e
    rw [List.drop_length] at q1
    exact .inl ⟨Y.stop G1 H1 le1 si1.gok si1.oldIn, q1 σ1 G1 H1 (Gle.refl _) si1⟩
end
end DL
end
section
set_option Elab.async false
set_option linter.all false
set_option maxRecDepth 100000
namespace DL
open PySem PySem.Spec PyProof.Rows L2
open HT (sIx)
section
variable {prog : Program} {w : World} {A : Around} {E : Value → Shared → Prop} {s : Shared}
end
section
variable {X : Cx} {g : GE} {m : List Md} {e : Expr} {f fa : FE} {pos p2 : Pos}
end
end DL
end
section
set_option Elab.async false
set_option linter.all false
set_option maxRecDepth 100000
namespace DL
open PySem PySem.Spec PyProof.Rows L2
noncomputable def BIG : Nat := 2 ^ 2000
noncomputable def CMulW (i j : Int) : Prop := i.natAbs < BIG ∧ j.natAbs < BIG
noncomputable def CDivW (_i j : Int) : Prop := 0 < j ∧ j.natAbs < BIG
noncomputable instance decMulW (i j : Int) : Decidable (CMulW i j) := by unfold CMulW; infer_instance
noncomputable instance decDivW (i j : Int) : Decidable (CDivW i j) := by unfold CDivW; infer_instance
theorem bits_le {i : Int} (h : i.natAbs < BIG) : Builtin.Int.intBits i ≤ 2000 := by
  unfold Builtin.Int.intBits
  split
  · exact Nat.zero_le _
  · rename_i z
    have h0 : i.natAbs ≠ 0 := fun e => z (by rw [Int.natAbs_eq_zero.mp e]; rfl)
    have := (Nat.log2_lt h0).mpr h
    omega
theorem CMulW.ok {i j : Int} (h : CMulW i j) : IntMulOk i j := by
  have h1 := bits_le h.1
  have h2 := bits_le h.2
  unfold IntMulOk
  have e : Builtin.Int.intTooBig ((Builtin.Int.intBits i : Int) + (Builtin.Int.intBits j : Int)) = false := by
    unfold Builtin.Int.intTooBig
    have : ((bitsLine : Nat) : Int) = 134217728 := by decide +kernel
    exact decide_eq_false (by omega)
  rw [e]; simp
theorem op_mulW : OpR X (binaryOp .Mult) (rI CMulW fun i j => .int (i * j)) := opI fun _ _ _ _ _ _ _ hc q => mul_int q hc.ok
theorem op_fdivW : OpR X (binaryOp .FloorDiv) (rI CDivW fun i j => .int (i / j)) := opI fun i j _ _ _ _ _ hc q => by
  have h1 : (0 : Int) < j := hc.1
  have h2 : j.natAbs < BIG := hc.2
  have h0 : j.natAbs ≠ 0 := by omega
  have := (Nat.log2_lt h0).mpr h2
  exact floordiv_int (by omega) (by rw [Int.fdiv_eq_ediv_of_nonneg i (by omega)]; exact q) (.inl (PyProof.noPylong_of_log2 (by omega)))
noncomputable abbrev mulW : D → D → Option D := intsC CMulW fun a b => .int (a * b)
noncomputable abbrev fdivW : D → D → Option D := intsC CDivW fun a b => .int (a / b)
section
variable {X : Cx} {g : GE} {m : List Md} {e a b c o : Expr} {es : List Expr} {f fa fb fc fo : FE} {fl : Rho → Res (List D)} {pos p apos cpos : Pos}
theorem s_mulW (ha : SB X g m a fa) (hb : SB X g m b fb) : SE X g m (.BinOp a .Mult b pos) (f2 fa fb mulW) := s_bin op_mulW (opd_intC fun _ _ => .int _) ha hb
theorem s_fdivW (ha : SB X g m a fa) (hb : SB X g m b fb) : SE X g m (.BinOp a .FloorDiv b pos) (f2 fa fb fdivW) := s_bin op_fdivW (opd_intC fun _ _ => .int _) ha hb
noncomputable def absD : List D → Option D
  | [.int i] => some (.int (if i < 0 then -i else i))
  | _ => none
theorem abs_ok {K : PySem.W.Frag} : CallD K (fun xs H Q => ∃ i : Int, xs = [.int i] ∧ Q (.int (if i < 0 then -i else i)) H) absD := by
  intro G H vs ds d Q gk rs e q
  unfold absD at e
  split at e
  · cases e
    cases rs with
    | cons r1 t =>
      cases t
      exact ⟨_, by rw [r1.int gk], q _ G H (Grow.refl gk) (.scl (.int _))⟩
  · cases e
theorem s_abs (hg : Gl X "abs") (hm : X.mg "abs" = none) (ha : SAB X g m (e :: es) fl) (he : starEach (e :: es) X.env = (false, eval e X.env) :: starEach es X.env := by rfl) (hpl : (backTo pos (starEach es X.env)).any (·.1) = false := by rfl) :
    SE X g m (.Call (.Name "abs" p) (e :: es) [] pos) (fC fl absD) := s_cb abs_ok (pe_callB call_abs hg hm PyProof.Rows.boot_abs ha (by decide) (by decide) he hpl)
theorem s_globT {x : Str} {d : D} (hg : Gl X x) (hk : ∃ a, X.mg x = some (.ref a) ∧ KC X.K a d) (hd : (x == ("__debug__" : Str)) = false := by decide) : SE X g m (.Name x pos) fun _ => .ok d := by
  obtain ⟨a, hm, k⟩ := hk
  exact PE.imp (pe_glob (v := .ref a) hg hm rfl hd) fun σ H Q ⟨r, G, si, q⟩ => q (.ref a) G H (Grow.refl si.gok) (.kc k)
theorem kc_pair {K : PySem.W.Frag} {h : Heap} {mg : Str → Option Value} {x : Str} (KX : K.In h) (G : h.Ns mainGlobals mg) {a : Addr} {i j : Int} {t u : Tok} {n : Nat} {sl : Array (Option Value)} (z : PySem.W.nsIn K mainGlobals x = some (some (.ref a)))
    (l : K.lookup a = some ⟨.type "tuple", none, .seq #[.int i t, .int j u] n, sl⟩) : ∃ a, mg x = some (.ref a) ∧ KC K a (.tup [.int i, .int j]) := by
  refine ⟨a, PySem.W.mg_of KX G z, .tup (xs := [.int i, .int j]) (.inr ⟨_, _, _, l, rfl, rfl, ?_, .cons ⟨_, rfl⟩ (.cons ⟨_, rfl⟩ .nil)⟩) (.cons (.int _) (.cons (.int _) .nil)) ⟨_, l, rfl, rfl⟩⟩
  show 2 ≤ sizeLine
  rw [sizeLine_eq]; decide
end
end DL
end
section
set_option Elab.async false
set_option linter.all false
set_option maxRecDepth 100000
namespace DL
open PySem PySem.Spec PyProof.Rows L2
section
variable {X : Cx} {g : GE} {m : List Md} {e o : Expr} {es : List Expr} {fo : FE} {fl : Rho → Res (List D)} {pos p pos' : Pos}
theorem call_sumZ (hc : X.calm = true) : CallR X (.builtin "sum") (fun xs H Q => ∃ (p : Addr) (ks : List Int), xs = [.ref p] ∧ SqL X.K H p (ks.map V.int) ∧ Q (.int ks.sum) H) := by
  intro pins s σ H xs us Q I r h
  obtain ⟨p, ks, rfl, hq, q⟩ := h
  obtain ⟨u, rfl, rx⟩ := vals1 r
  cases rx
  obtain ⟨its, rv, pl, hz⟩ := I.list hq
  obtain ⟨mF, F⟩ := I.fr
  exact PyProof.Rows.LSm.sum_ints F (news_all (g := X.base) (h := s.heap) (L := X.env.locals)) (I.ok.hd hc) pl.isList (intsAre_of rv) fun h' tk t' F' N' => ⟨.int ks.sum, _, Inv.keptF I F F' N' tk, ⟨_, rfl⟩, q⟩
noncomputable def sumD : List D → Option D
  | [.lst ds] => (asInts ds).map fun ks => .int ks.sum
  | _ => none
theorem sum_ok {K : PySem.W.Frag} : CallD K (fun xs H Q => ∃ (p : Addr) (ks : List Int), xs = [.ref p] ∧ SqL K H p (ks.map V.int) ∧ Q (.int ks.sum) H) sumD := by
  intro G H vs ds d Q gk rs e q
  unfold sumD at e
  split at e
  · rename_i zs
    cases ek : asInts zs with
    | none => rw [ek] at e; cases e
    | some ks =>
      rw [ek] at e; cases e
      cases rs with
      | cons r1 t =>
        cases t
        obtain ⟨b, xs, rfl, s, r⟩ := r1.lst gk
        have ex := asInts_v gk r ek
        subst ex
        exact ⟨b, ks, rfl, s, q _ G H (Grow.refl gk) (.scl (.int _))⟩
  · cases e
theorem s_sum (hc : X.calm = true) (hg : Gl X "sum") (hm : X.mg "sum" = none) (ha : SAB X g m (e :: es) fl) (he : starEach (e :: es) X.env = (false, eval e X.env) :: starEach es X.env := by rfl) (hpl : (backTo pos (starEach es X.env)).any (·.1) = false := by rfl) :
    SE X g m (.Call (.Name "sum" p) (e :: es) [] pos) (fC fl sumD) := s_cb sum_ok (pe_callB (call_sumZ hc) hg hm PyProof.Rows.boot_sum ha (by decide) (by decide) he hpl)
end
end DL
end
section
set_option linter.all false
namespace Rg
theorem len_le_of_sub {α : Type} [DecidableEq α] : ∀ {l m : List α}, l.Nodup → (∀ x ∈ l, x ∈ m) → l.length ≤ m.length
  | [], _, _, _ => Nat.zero_le _
  | a :: l, m, hn, hs => by
    have hn' := List.nodup_cons.mp hn
    have h1 := len_le_of_sub (l := l) (m := m.erase a) hn'.2 fun x hx => by
      have hxa : x ≠ a := by rintro rfl; exact hn'.1 hx
      exact (List.mem_erase_of_ne hxa).mpr (hs x (List.mem_cons_of_mem _ hx))
    have ha : a ∈ m := hs a List.mem_cons_self
    rw [List.length_erase_of_mem ha] at h1
    have := List.length_pos_of_mem ha
    simp only [List.length_cons]; omega
structure S where
  line : List Nat
  things : List Nat
section
variable (W : Nat → List Nat) (O : Nat → Option Nat)
noncomputable def best (row things : List Nat) : Nat := (row.find? fun x => decide (x ∈ things)).getD 0
noncomputable def tgt (s : S) (h : Nat) : Nat := best (W h) s.things
noncomputable def pt (s : S) (x : Nat) : Nat := (s.line.find? fun h => decide (O h = some x)).getD (s.line.headD 0)
noncomputable def nxt (s : S) (h : Nat) : Nat := pt O s (tgt W s h)
noncomputable def minus (s : S) (C : List Nat) : S := ⟨s.line.filter fun h => decide (h ∉ C), s.things.filter fun x => decide (x ∉ C.map (tgt W s))⟩
noncomputable def it {α : Type} (f : α → α) : Nat → α → α
  | 0, x => x
  | n + 1, x => it f n (f x)
theorem it_add {α : Type} (f : α → α) : ∀ (a b : Nat) (x : α), it f (a + b) x = it f b (it f a x)
  | 0, b, x => by rw [Nat.zero_add]; rfl
  | a + 1, b, x => by rw [Nat.add_right_comm]; exact it_add f a b (f x)
theorem it_succ {α : Type} (f : α → α) (n : Nat) (x : α) : it f (n + 1) x = f (it f n x) := it_add f n 1 x
structure Ok (s : S) : Prop where
  nl : s.line.Nodup
  nt : s.things.Nodup
  le : s.line.length ≤ s.things.length
  row : ∀ h ∈ s.line, ∀ x ∈ s.things, x ∈ W h
  inj : ∀ h k x, O h = some x → O k = some x → h = k
  own : ∀ h ∈ s.line, ∀ x, O h = some x → x ∈ s.things
structure Cyc (s : S) (C : List Nat) : Prop where
  sub : ∀ h ∈ C, h ∈ s.line
  cl : ∀ h ∈ C, nxt W O s h ∈ C
  per : ∀ h ∈ C, ∃ k, it (nxt W O s) (k + 1) h = h
variable {W O}
theorem best_mem {row things : List Nat} (h : ∃ x ∈ row, x ∈ things) : best row things ∈ things := by
  unfold best
  cases e : row.find? fun x => decide (x ∈ things) with
  | none =>
    obtain ⟨x, h1, h2⟩ := h
    have := List.find?_eq_none.mp e x h1
    simp [h2] at this
  | some x => have := List.find?_some e; simpa using this
variable {s : S}
theorem pt_own (k : Ok W O s) {h x : Nat} (hh : h ∈ s.line) (ho : O h = some x) : pt O s x = h := by
  unfold pt
  cases e : s.line.find? fun h => decide (O h = some x) with
  | none =>
    have := List.find?_eq_none.mp e h hh
    simp [ho] at this
  | some y =>
    have := List.find?_some e
    simp only [decide_eq_true_eq] at this
    exact k.inj y h x this ho
theorem Cyc.it_mem {C : List Nat} (c : Cyc W O s C) {h : Nat} (hh : h ∈ C) : ∀ n, it (nxt W O s) n h ∈ C := by
  intro n
  induction n generalizing h with
  | zero => exact hh
  | succ n ih => exact ih (c.cl h hh)
noncomputable def less (E C : List Nat) : List Nat := E.filter fun h => decide (h ∉ C)
inductive TTC (W : Nat → List Nat) (O : Nat → Option Nat) (a : Nat → Nat) : S → Prop where
  | nil {s : S} : s.line = [] → TTC W O a s
  | step {s : S} (C : List Nat) : Cyc W O s C → (∀ h ∈ C, a h = tgt W s h) → TTC W O a (minus W s C) → TTC W O a s
end
end Rg
end
section
set_option linter.all false
namespace Rg
section
variable {W : Nat → List Nat} {O : Nat → Option Nat} {s : S} {a : Nat → Nat}
end
end Rg
end
section
set_option linter.all false
namespace Rg
section
variable {W W' : Nat → List Nat} {O : Nat → Option Nat} {s : S} {a b : Nat → Nat}
end
end Rg
end
section
set_option linter.all false
namespace Rg
section
variable (W : Nat → List Nat) (d : Nat → Nat)
variable {W d}
end
end Rg
end
section
set_option linter.all false
namespace Rg
section
variable {W : Nat → List Nat} {O : Nat → Option Nat} {s : S} {a b : Nat → Nat}
theorem Cyc.pre {C : List Nat} (c : Cyc W O s C) {h : Nat} (hh : h ∈ C) : ∃ l ∈ C, nxt W O s l = h := by
  obtain ⟨k, e⟩ := c.per h hh
  rw [it_succ] at e
  exact ⟨_, c.it_mem hh k, e⟩
end
end Rg
end
section
set_option linter.all false
namespace Rg
section
variable {W : Nat → List Nat} {O : Nat → Option Nat} {s : S} {a : Nat → Nat}
structure Chain (W : Nat → List Nat) (O : Nat → Option Nat) (s : S) (A : List Nat) : Prop where
  nd : A.Nodup
  sub : ∀ h ∈ A, h ∈ s.line
  hd : ∀ h l, A = h :: l → s.line.headD 0 = h
  nx : ∀ (i : Nat) h l, A[i]? = some h → A[i + 1]? = some l → O l = some (tgt W s h)
variable {A : List Nat}
theorem Chain.at (c : Chain W O s A) {i h : Nat} (e : A[i]? = some h) : h ∈ A := List.mem_of_getElem? e
theorem Chain.nxt (c : Chain W O s A) (k : Ok W O s) {i h l : Nat} (e1 : A[i]? = some h) (e2 : A[i + 1]? = some l) : Rg.nxt W O s h = l :=
  pt_own k (c.sub l (c.at e2)) (c.nx i h l e1 e2)
theorem Chain.apart (c : Chain W O s A) {i j h l : Nat} (e1 : A[i]? = some h) (e2 : A[j]? = some l) (e : h = l) : i = j := by
  subst e
  have h1 := (List.getElem?_eq_some_iff.mp e1)
  have h2 := (List.getElem?_eq_some_iff.mp e2)
  obtain ⟨b1, q1⟩ := h1
  obtain ⟨b2, q2⟩ := h2
  have := List.pairwise_iff_getElem.mp c.nd
  rcases Nat.lt_trichotomy i j with z | z | z
  · exact absurd (q1.trans q2.symm) (this i j b1 b2 z)
  · exact z
  · exact absurd (q2.trans q1.symm) (this j i b2 b1 z)
theorem Chain.take (c : Chain W O s A) {s' : S} (i : Nat) (hl : ∀ (j : Nat) h, j < i → A[j]? = some h → h ∈ s'.line) (hh : ∀ h l, A = h :: l → 0 < i → s'.line.headD 0 = h) (ht : ∀ (j : Nat) h l, j + 1 < i → A[j]? = some h → A[j + 1]? = some l → tgt W s' h = tgt W s h) : Chain W O s' (A.take i) := by
  refine ⟨c.nd.sublist (List.take_sublist _ _), fun h hm => ?_, fun h l e => ?_, fun j h l e1 e2 => ?_⟩
  · obtain ⟨j, hj⟩ := List.getElem?_of_mem hm
    rw [List.getElem?_take] at hj
    split at hj
    · rename_i q; exact hl j h q hj
    · cases hj
  · cases i with
    | zero => cases e
    | succ i =>
      cases A with
      | nil => cases e
      | cons b t => cases e; exact hh _ _ rfl (by omega)
  · rw [List.getElem?_take] at e1 e2
    split at e1
    · split at e2
      · rename_i q1 q2
        rw [ht j h l q2 e1 e2]; exact c.nx j h l e1 e2
      · cases e2
    · cases e1
end
end Rg
end
section
set_option linter.all false
namespace Rg
end Rg
end
section
set_option linter.all false
namespace Rg
section
variable {W : Nat → List Nat} {O : Nat → Option Nat} {a : Nat → Nat} {f : Nat → Nat}
end
end Rg
end
section
set_option linter.all false
namespace Rg
section
variable {W : Nat → List Nat} {d : Nat → Nat}
noncomputable def lk (W : Nat → List Nat) (h x y : Nat) : Prop := (W h).idxOf x < (W h).idxOf y
instance (W : Nat → List Nat) (h x y : Nat) : Decidable (lk W h x y) := by unfold lk; infer_instance
noncomputable def env (W : Nat → List Nat) (d : Nat → Nat) (h : Nat) (others : List Nat) : List Nat := others.filter fun o => decide (lk W h (d o) (d h))
noncomputable def stay (W : Nat → List Nat) (d : Nat → Nat) (hands : List Nat) : List Nat := hands.filter fun h => !(env W d h hands).isEmpty
end
end Rg
end
section
set_option Elab.async false
set_option linter.all false
namespace Fq
theorem gcd_step (a : Int) (b : Nat) : Int.gcd a b = Int.gcd b (a % (b : Int)) := by
  refine Nat.dvd_antisymm (Int.dvd_gcd (Int.gcd_dvd_right _ _) ?_) (Int.dvd_gcd ?_ (Int.gcd_dvd_left _ _))
  · rw [Int.emod_def]
    exact Int.dvd_sub (Int.gcd_dvd_left _ _) (Int.dvd_trans (Int.gcd_dvd_right a b) (Int.dvd_mul_right _ _))
  · have h := Int.mul_ediv_add_emod a b
    rw [← h]
    exact Int.dvd_add (Int.dvd_trans (Int.gcd_dvd_left (b : Int) _) (Int.dvd_mul_right _ _)) (by rw [h]; exact Int.gcd_dvd_right _ _)
theorem gcd_pos (t : Int) {b : Nat} (h : 0 < b) : 0 < Int.gcd t b := Nat.pos_of_ne_zero fun z => by
  have := Int.gcd_eq_zero_iff.mp z
  omega
noncomputable def low (t : Int) (b : Nat) : Int × Nat := (t / (Int.gcd t b : Int), b / Int.gcd t b)
noncomputable def plusQ (a b : Int × Nat) : Int × Nat := low (a.1 * b.2 + b.1 * a.2) (a.2 * b.2)
noncomputable def Same (a b : Int × Nat) : Prop := a.1 * (b.2 : Int) = b.1 * (a.2 : Int)
theorem low_cop (t : Int) {b : Nat} (h : 0 < b) : Int.gcd (low t b).1 ((low t b).2 : Nat) = 1 := by
  have := Int.gcd_ediv_gcd_ediv_gcd (gcd_pos t h)
  unfold low
  rw [Int.natCast_ediv]
  exact this
theorem low_pos (t : Int) {b : Nat} (h : 0 < b) : 0 < (low t b).2 := by
  have h1 : Int.gcd t b ∣ b := Int.natCast_dvd_natCast.mp (Int.gcd_dvd_right t b)
  exact Nat.div_pos (Nat.le_of_dvd h h1) (gcd_pos t h)
theorem low_le (t : Int) (b : Nat) : (low t b).2 ≤ b := Nat.div_le_self _ _
theorem low_top (t : Int) (b : Nat) : (low t b).1.natAbs ≤ t.natAbs := Int.natAbs_ediv_le_natAbs _ _
theorem low_same (t : Int) (b : Nat) : Same (low t b) (t, b) := by
  unfold Same low
  have h1 : (Int.gcd t b : Int) ∣ t := Int.gcd_dvd_left t b
  have h2 : (Int.gcd t b : Int) ∣ (b : Int) := Int.gcd_dvd_right t b
  obtain ⟨x, hx⟩ := h1
  obtain ⟨y, hy⟩ := h2
  generalize hg : (Int.gcd t b : Int) = g at hx hy
  show t / g * (b : Int) = t * ((b / Int.gcd t b : Nat) : Int)
  rw [Int.natCast_ediv, hg]
  by_cases z : g = 0
  · subst z
    rw [Int.zero_mul] at hx hy
    rw [hx, hy]; simp
  · rw [hx, hy, Int.mul_ediv_cancel_left _ z, Int.mul_ediv_cancel_left _ z]
    rw [← Int.mul_assoc, Int.mul_comm x g]
structure Bd (k : Nat) (a : Int × Nat) : Prop where
  pos : 0 < a.2
  bot : a.2 < 2 ^ k
  top : a.1.natAbs < 2 ^ k
theorem Bd.mono {k l : Nat} {a : Int × Nat} (h : Bd k a) (hl : k ≤ l) : Bd l a :=
  ⟨h.pos, Nat.lt_of_lt_of_le h.bot (Nat.pow_le_pow_right (by omega) hl), Nat.lt_of_lt_of_le h.top (Nat.pow_le_pow_right (by omega) hl)⟩
theorem Bd.low {k : Nat} {t : Int} {b : Nat} (h : 0 < b) (h1 : b < 2 ^ k) (h2 : t.natAbs < 2 ^ k) : Bd k (low t b) :=
  ⟨low_pos t h, Nat.lt_of_le_of_lt (low_le t b) h1, Nat.lt_of_le_of_lt (low_top t b) h2⟩
theorem mul_lt_pow {a b k l : Nat} (h1 : a < 2 ^ k) (h2 : b < 2 ^ l) : a * b < 2 ^ (k + l) := by
  rw [Nat.pow_add]
  exact Nat.mul_lt_mul'' h1 h2
theorem plus_bot {k l : Nat} {a b : Int × Nat} (ha : Bd k a) (hb : Bd l b) : 0 < a.2 * b.2 ∧ a.2 * b.2 < 2 ^ (k + l) := ⟨Nat.mul_pos ha.pos hb.pos, mul_lt_pow ha.bot hb.bot⟩
theorem plus_top {k l : Nat} {a b : Int × Nat} (ha : Bd k a) (hb : Bd l b) : (a.1 * b.2 + b.1 * a.2).natAbs < 2 ^ (k + l + 1) := by
  have h1 : (a.1 * (b.2 : Int)).natAbs < 2 ^ (k + l) := by rw [Int.natAbs_mul, Int.natAbs_natCast]; exact mul_lt_pow ha.top hb.bot
  have h2 : (b.1 * (a.2 : Int)).natAbs < 2 ^ (k + l) := by rw [Int.natAbs_mul, Int.natAbs_natCast, Nat.add_comm k l]; exact mul_lt_pow hb.top ha.bot
  have h3 := Int.natAbs_add_le (a.1 * (b.2 : Int)) (b.1 * (a.2 : Int))
  rw [Nat.pow_succ]
  omega
theorem Bd.plus {k l : Nat} {a b : Int × Nat} (ha : Bd k a) (hb : Bd l b) : Bd (k + l + 1) (plusQ a b) := by
  obtain ⟨h1, h2⟩ := plus_bot ha hb
  exact Bd.low h1 (Nat.lt_of_lt_of_le h2 (Nat.pow_le_pow_right (by omega) (by omega))) (plus_top ha hb)
noncomputable def lessQ (a b : Int × Nat) : Bool := decide (a.1 * (b.2 : Int) < b.1 * (a.2 : Int))
end Fq
end
section
set_option Elab.async false
set_option linter.all false
namespace Rg
end Rg
namespace Fq
noncomputable def W (N : Nat) (a : Int × Nat) (S : Nat) : Prop := 0 < a.2 ∧ a.1 * (N : Int) = (S : Int) * (a.2 : Int)
theorem W.low {N c : Nat} (hN : 0 < N) : W N (low c N) c := by
  have := low_same (c : Int) N
  exact ⟨low_pos _ hN, this⟩
theorem W.plus {N S c : Nat} {a b : Int × Nat} (ha : W N a S) (hb : W N b c) : W N (plusQ a b) (S + c) := by
  have hp : 0 < a.2 * b.2 := Nat.mul_pos ha.1 hb.1
  refine ⟨low_pos _ hp, ?_⟩
  have h := low_same (a.1 * (b.2 : Int) + b.1 * (a.2 : Int)) (a.2 * b.2)
  unfold Same at h
  unfold plusQ
  generalize Fq.low (a.1 * (b.2 : Int) + b.1 * (a.2 : Int)) (a.2 * b.2) = p at h ⊢
  have h1 := ha.2
  have h2 := hb.2
  have hq : ((a.2 * b.2 : Nat) : Int) ≠ 0 := by omega
  refine Int.eq_of_mul_eq_mul_right hq ?_
  have e1 : p.1 * (N : Int) * ((a.2 * b.2 : Nat) : Int) = (p.1 * ((a.2 * b.2 : Nat) : Int)) * (N : Int) := by
    rw [Int.mul_assoc, Int.mul_comm (N : Int), ← Int.mul_assoc]
  rw [e1, h]
  show (a.1 * (b.2 : Int) + b.1 * (a.2 : Int)) * (p.2 : Int) * (N : Int) = (((S + c : Nat) : Int)) * (p.2 : Int) * ((a.2 * b.2 : Nat) : Int)
  have e2 : (a.1 * (b.2 : Int) + b.1 * (a.2 : Int)) * (p.2 : Int) * (N : Int) = ((a.1 * (N : Int)) * (b.2 : Int) + (b.1 * (N : Int)) * (a.2 : Int)) * (p.2 : Int) := by
    rw [Int.add_mul, Int.add_mul, Int.add_mul]
    congr 1
    · simp only [Int.mul_assoc, Int.mul_comm, Int.mul_left_comm]
    · simp only [Int.mul_assoc, Int.mul_comm, Int.mul_left_comm]
  rw [e2, h1, h2, Int.natCast_add, Int.natCast_mul]
  simp only [Int.add_mul]
  congr 1 <;> simp only [Int.mul_assoc, Int.mul_comm, Int.mul_left_comm]
theorem W.ge {N S S' : Nat} {a b : Int × Nat} (hN : 0 < N) (ha : W N a S) (hb : W N b S') (h : S' ≤ S) : lessQ a b = false := by
  refine decide_eq_false fun hlt => ?_
  have h1 := Int.mul_lt_mul_of_pos_right hlt (show (0 : Int) < (N : Int) by omega)
  have e1 : a.1 * (b.2 : Int) * (N : Int) = (S : Int) * ((a.2 : Int) * (b.2 : Int)) := by
    rw [Int.mul_assoc, Int.mul_comm (b.2 : Int), ← Int.mul_assoc, ha.2, Int.mul_assoc]
  have e2 : b.1 * (a.2 : Int) * (N : Int) = (S' : Int) * ((a.2 : Int) * (b.2 : Int)) := by
    rw [Int.mul_assoc, Int.mul_comm (a.2 : Int), ← Int.mul_assoc, hb.2, Int.mul_assoc, Int.mul_comm (b.2 : Int)]
  rw [e1, e2] at h1
  have hp : (0 : Int) ≤ (a.2 : Int) * (b.2 : Int) := by
    rw [← Int.natCast_mul]; exact Int.natCast_nonneg _
  have := Int.lt_of_mul_lt_mul_right h1 hp
  omega
end Fq
end
section
set_option Elab.async false
set_option linter.all false
namespace Fq
noncomputable def DD : Nat := 420 ^ 7
theorem DD_pos : 0 < DD := by decide
end Fq
namespace Et
open Rg
noncomputable def leastN : List Nat → Nat
  | [] => 0
  | x :: l => l.foldl (fun m y => if y < m then y else m) x
theorem fold_le : ∀ (l : List Nat) (m : Nat), l.foldl (fun m y => if y < m then y else m) m ≤ m ∧ (∀ y ∈ l, l.foldl (fun m y => if y < m then y else m) m ≤ y) ∧ (l.foldl (fun m y => if y < m then y else m) m = m ∨ l.foldl (fun m y => if y < m then y else m) m ∈ l)
  | [], m => ⟨Nat.le_refl _, fun _ h => (nomatch h), .inl rfl⟩
  | y :: l, m => by
    rw [List.foldl_cons]
    obtain ⟨h1, h2, h3⟩ := fold_le l (if y < m then y else m)
    have hm : (if y < m then y else m) ≤ m ∧ (if y < m then y else m) ≤ y := by split <;> omega
    refine ⟨Nat.le_trans h1 hm.1, fun z hz => ?_, ?_⟩
    · rcases List.mem_cons.mp hz with rfl | hz
      · exact Nat.le_trans h1 hm.2
      · exact h2 z hz
    · rcases h3 with h3 | h3
      · rw [h3]
        by_cases hy : y < m
        · rw [if_pos hy]; exact .inr List.mem_cons_self
        · rw [if_neg hy]; exact .inl rfl
      · exact .inr (List.mem_cons_of_mem _ h3)
theorem least_mem {l : List Nat} (h : l ≠ []) : leastN l ∈ l := by
  cases l with
  | nil => exact absurd rfl h
  | cons x l =>
    obtain ⟨_, _, h3⟩ := fold_le l x
    rcases h3 with h3 | h3
    · show l.foldl (fun m y => if y < m then y else m) x ∈ _
      rw [h3]; exact List.mem_cons_self
    · exact List.mem_cons_of_mem _ h3
variable (W : Nat → List Nat) (n : Nat)
noncomputable def tgs (T : List Nat) : List Nat := (List.range n).map fun h => best (W h) T
noncomputable def spn (T : List Nat) (a : Nat → Nat) : Nat := leastN ((tgs W n T).map fun x => a x / (tgs W n T).count x)
noncomputable def aft (T : List Nat) (a : Nat → Nat) (x : Nat) : Nat := a x - (tgs W n T).count x * spn W n T a
noncomputable def lft (T : List Nat) (a : Nat → Nat) : List Nat := T.filter fun x => decide (aft W n T a x ≠ 0)
structure Ok (T : List Nat) (a : Nat → Nat) : Prop where
  nd : T.Nodup
  lt : ∀ x ∈ T, x < n
  pos : ∀ x ∈ T, 0 < a x
  dv : ∀ x ∈ T, 420 ^ T.length ∣ a x
variable {W n}
variable {T : List Nat} {a : Nat → Nat}
structure Rw (W : Nat → List Nat) (n : Nat) : Prop where
  n1 : 1 ≤ n
  n7 : n ≤ 7
  has : ∀ h x, h < n → x < n → x ∈ W h
theorem tg_mem (R : Rw W n) (S : Ok n T a) (hT : T ≠ []) {h : Nat} (hh : h < n) : best (W h) T ∈ T := by
  have hp := List.length_pos_iff.mpr hT
  exact best_mem ⟨T[0], R.has h _ hh (S.lt _ (List.getElem_mem _)), List.getElem_mem _⟩
theorem tgs_len : (tgs W n T).length = n := by unfold tgs; simp
theorem tgs_mem (R : Rw W n) (S : Ok n T a) (hT : T ≠ []) {x : Nat} (h : x ∈ tgs W n T) : x ∈ T := by
  obtain ⟨k, hk, rfl⟩ := List.mem_map.mp h
  exact tg_mem R S hT (List.mem_range.mp hk)
theorem cnt_le (x : Nat) : (tgs W n T).count x ≤ n := by
  have := List.count_le_length (a := x) (l := tgs W n T)
  rw [tgs_len] at this; exact this
theorem dvd420 {c : Nat} (h1 : 1 ≤ c) (h7 : c ≤ 7) : c ∣ 420 := by
  match c, h1, h7 with
  | 1, _, _ => decide
  | 2, _, _ => decide
  | 3, _, _ => decide
  | 4, _, _ => decide
  | 5, _, _ => decide
  | 6, _, _ => decide
  | 7, _, _ => decide
theorem cnt_dvd (R : Rw W n) (S : Ok n T a) (hT : T ≠ []) {x : Nat} (hx : x ∈ tgs W n T) : (tgs W n T).count x ∣ a x ∧ 0 < (tgs W n T).count x := by
  have h1 : 0 < (tgs W n T).count x := List.count_pos_iff.mpr hx
  have h2 := cnt_le (W := W) (n := n) (T := T) x
  have hp := List.length_pos_iff.mpr hT
  have hd := S.dv x (tgs_mem R S hT hx)
  obtain ⟨k, hk⟩ : ∃ k, T.length = k + 1 := ⟨T.length - 1, by omega⟩
  rw [hk, Nat.pow_succ] at hd
  exact ⟨Nat.dvd_trans (dvd420 h1 (by have := R.n7; omega)) (Nat.dvd_trans (Nat.dvd_mul_left _ _) hd), h1⟩
theorem spn_at (R : Rw W n) : ∃ x ∈ tgs W n T, spn W n T a = a x / (tgs W n T).count x := by
  have hne : (tgs W n T).map (fun x => a x / (tgs W n T).count x) ≠ [] := by
    intro e
    have h1 := congrArg List.length e
    rw [List.length_map, tgs_len] at h1
    have h2 := R.n1
    rw [List.length_nil] at h1; omega
  obtain ⟨x, h1, h2⟩ := List.mem_map.mp (least_mem hne)
  exact ⟨x, h1, h2.symm⟩
theorem spn_dv (R : Rw W n) (S : Ok n T a) (hT : T ≠ []) : 420 ^ (T.length - 1) ∣ spn W n T a := by
  obtain ⟨x, h1, h2⟩ := spn_at (T := T) (a := a) R
  have hp := List.length_pos_iff.mpr hT
  have hd := S.dv x (tgs_mem R S hT h1)
  obtain ⟨hc, hc0⟩ := cnt_dvd R S hT h1
  have hc7 := dvd420 (c := (tgs W n T).count x) hc0 (by have := cnt_le (W := W) (n := n) (T := T) x; have := R.n7; omega)
  obtain ⟨k, hk⟩ : ∃ k, T.length = k + 1 := ⟨T.length - 1, by omega⟩
  rw [hk, Nat.pow_succ] at hd
  obtain ⟨q, hq⟩ := hd
  obtain ⟨m, hm⟩ := hc7
  rw [h2, hk, Nat.add_sub_cancel, hq]
  generalize (tgs W n T).count x = c at *
  refine ⟨m * q, ?_⟩
  rw [hm]
  have : 420 ^ k * (c * m) * q = c * (420 ^ k * (m * q)) := by simp only [Nat.mul_assoc, Nat.mul_comm, Nat.mul_left_comm]
  rw [← hm] at this ⊢
  rw [hm] at this ⊢
  rw [this, Nat.mul_div_cancel_left _ hc0]
theorem lft_lt (R : Rw W n) (S : Ok n T a) (hT : T ≠ []) : (lft W n T a).length < T.length := by
  obtain ⟨x, h1, h2⟩ := spn_at (T := T) (a := a) R
  obtain ⟨hc, hc0⟩ := cnt_dvd R S hT h1
  have hx := tgs_mem R S hT h1
  have h0 : aft W n T a x = 0 := by
    unfold aft
    rw [h2, Nat.mul_div_cancel' hc, Nat.sub_self]
  unfold lft
  refine Nat.lt_of_le_of_ne (List.length_filter_le _ _) fun e => ?_
  have := List.length_filter_eq_length_iff.mp e x hx
  simp [h0] at this
theorem Ok.next (R : Rw W n) (S : Ok n T a) (hT : T ≠ []) : Ok n (lft W n T a) (aft W n T a) where
  nd := S.nd.sublist List.filter_sublist
  lt := fun x hx => S.lt x (List.mem_filter.mp hx).1
  pos := fun x hx => Nat.pos_of_ne_zero (by simpa using (List.mem_filter.mp hx).2)
  dv := fun x hx => by
    have hx' := (List.mem_filter.mp hx).1
    have hlt := lft_lt R S hT
    have h1 : 420 ^ (T.length - 1) ∣ a x := Nat.dvd_trans (Nat.pow_dvd_pow 420 (by omega)) (S.dv x hx')
    have h2 : 420 ^ (T.length - 1) ∣ (tgs W n T).count x * spn W n T a := Nat.dvd_trans (spn_dv R S hT) (Nat.dvd_mul_left _ _)
    exact Nat.dvd_trans (Nat.pow_dvd_pow 420 (by omega)) (Nat.dvd_sub h1 h2)
theorem Ok.init (R : Rw W n) : Ok n (List.range n) fun _ => Fq.DD :=
  ⟨List.nodup_range, fun x hx => List.mem_range.mp hx, fun _ _ => Fq.DD_pos, fun _ _ => by
    rw [List.length_range]
    exact Nat.pow_dvd_pow 420 R.n7⟩
end Et
end
section
set_option Elab.async false
set_option linter.all false
namespace Gr
variable (E : Nat → List Nat) (n : Nat)
noncomputable def elim (S : List Nat) : List Nat := S.filter fun x => (E x).any fun y => decide (y ∈ S)
noncomputable def core : Nat → List Nat → List Nat
  | 0, S => S
  | k + 1, S => if (elim E S).length = S.length then S else core k (elim E S)
variable {E n}
noncomputable def strike (L : List Nat) (x : Nat) : List Nat := if ((E x).map fun y => decide (y ∈ L)).any id = true then L else L.erase x
variable (E) in
noncomputable def turn (l L : List Nat) : List Nat := l.foldl (strike (E := E)) L
variable (E) in
noncomputable def rel1 (t : Nat → Nat) (x y : Nat) : Nat → Nat := fun z => if z = y then max (t y) (t x + 1) else t z
variable (E) in
noncomputable def relx (t : Nat → Nat) (x : Nat) : Nat → Nat := (E x).foldl (fun t y => rel1 t x y) t
variable (E) in
noncomputable def rnd (l : List Nat) (t : Nat → Nat) : Nat → Nat := l.foldl (relx E) t
variable (E) (n) in
noncomputable def rnds : Nat → (Nat → Nat) → Nat → Nat
  | 0, t => t
  | k + 1, t => rnds k (rnd E (List.range n) t)
theorem rel1_ge (t : Nat → Nat) (x y z : Nat) : t z ≤ rel1 t x y z := by
  unfold rel1
  by_cases h : z = y
  · rw [if_pos h, h]; omega
  · rw [if_neg h]; exact Nat.le_refl _
structure Va (E : Nat → List Nat) (n : Nat) (b : Nat → Nat) (k : Nat) (done : List (Nat × Nat)) (t : Nat → Nat) : Prop where
  v : ∀ x, x < n → ∀ y ∈ E x, b y < k → t x + 1 ≤ t y
  w : ∀ e ∈ done, b e.2 = k → t e.1 + 1 ≤ t e.2
  g : ∀ y, t y = 0 ∨ ∃ x, x < n ∧ y ∈ E x ∧ t y ≤ t x + 1
theorem Va.step {b : Nat → Nat} {k : Nat} {done : List (Nat × Nat)} {t : Nat → Nat} (hb : ∀ x, x < n → ∀ y ∈ E x, b x < b y) (hdn : ∀ e ∈ done, e.1 < n ∧ e.2 ∈ E e.1) (h : Va E n b k done t) {x y : Nat} (hx : x < n) (hy : y ∈ E x) : Va E n b k ((x, y) :: done) (rel1 t x y) := by
  have hxy : x ≠ y := by rintro rfl; have := hb x hx x hy; omega
  have low : ∀ z, b z < k → rel1 t x y z = t z := fun z hz => by
    unfold rel1
    by_cases e : z = y
    · subst e
      rw [if_pos rfl]
      have := h.v x hx z hy hz
      omega
    · rw [if_neg e]
  refine ⟨fun u hu v hv hk => ?_, fun e he hk => ?_, fun z => ?_⟩
  · have h1 := hb u hu v hv
    rw [low v hk, low u (by omega)]
    exact h.v u hu v hv hk
  · rcases List.mem_cons.mp he with rfl | he
    · have h1 := hb x hx y hy
      rw [low x (by simp only at hk; omega)]
      show t x + 1 ≤ rel1 t x y y
      unfold rel1
      rw [if_pos rfl]; omega
    · obtain ⟨h2, h3⟩ := hdn e he
      have h1 := hb e.1 h2 e.2 h3
      rw [low e.1 (by omega)]
      exact Nat.le_trans (h.w e he hk) (rel1_ge t x y e.2)
  · by_cases e : z = y
    · subst e
      have e1 : rel1 t x z z = max (t z) (t x + 1) := by unfold rel1; rw [if_pos rfl]
      by_cases hm : t z ≤ t x + 1
      · right
        refine ⟨x, hx, hy, ?_⟩
        have := rel1_ge t x z x
        omega
      · rcases h.g z with g | ⟨u, g1, g2, g3⟩
        · omega
        · right
          refine ⟨u, g1, g2, ?_⟩
          have := rel1_ge t x z u
          omega
    · have e1 : rel1 t x y z = t z := by unfold rel1; rw [if_neg e]
      rw [e1]
      rcases h.g z with g | ⟨u, g1, g2, g3⟩
      · exact .inl g
      · exact .inr ⟨u, g1, g2, Nat.le_trans g3 (Nat.add_le_add_right (rel1_ge t x y u) 1)⟩
theorem Va.relx {b : Nat → Nat} {k : Nat} (hb : ∀ x, x < n → ∀ y ∈ E x, b x < b y) {x : Nat} (hx : x < n) : ∀ (l : List Nat) (done : List (Nat × Nat)) (t : Nat → Nat), (∀ y ∈ l, y ∈ E x) → (∀ e ∈ done, e.1 < n ∧ e.2 ∈ E e.1) → Va E n b k done t →
    ∃ done', (∀ e ∈ done', e.1 < n ∧ e.2 ∈ E e.1) ∧ (∀ e ∈ done, e ∈ done') ∧ (∀ y ∈ l, (x, y) ∈ done') ∧ Va E n b k done' (l.foldl (fun t y => rel1 t x y) t)
  | [], done, t, _, hd, h => ⟨done, hd, fun _ z => z, fun _ z => (by cases z), h⟩
  | y :: l, done, t, hl, hd, h => by
    obtain ⟨done', h1, h2, h3, h4⟩ := Va.relx hb hx l ((x, y) :: done) (rel1 t x y) (fun z hz => hl z (List.mem_cons_of_mem _ hz)) (fun e he => by
      rcases List.mem_cons.mp he with rfl | he
      · exact ⟨hx, hl y List.mem_cons_self⟩
      · exact hd e he) (h.step hb hd hx (hl y List.mem_cons_self))
    refine ⟨done', h1, fun e he => h2 e (List.mem_cons_of_mem _ he), fun z hz => ?_, h4⟩
    rcases List.mem_cons.mp hz with rfl | hz
    · exact h2 _ List.mem_cons_self
    · exact h3 z hz
theorem Va.rnd {b : Nat → Nat} {k : Nat} (hb : ∀ x, x < n → ∀ y ∈ E x, b x < b y) : ∀ (l : List Nat) (done : List (Nat × Nat)) (t : Nat → Nat), (∀ x ∈ l, x < n) → (∀ e ∈ done, e.1 < n ∧ e.2 ∈ E e.1) → Va E n b k done t →
    ∃ done', (∀ e ∈ done', e.1 < n ∧ e.2 ∈ E e.1) ∧ (∀ e ∈ done, e ∈ done') ∧ (∀ x ∈ l, ∀ y ∈ E x, (x, y) ∈ done') ∧ Va E n b k done' (rnd E l t)
  | [], done, t, _, hd, h => ⟨done, hd, fun _ z => z, fun _ z => (by cases z), h⟩
  | x :: l, done, t, hl, hd, h => by
    obtain ⟨d1, a1, a2, a3, a4⟩ := Va.relx hb (hl x List.mem_cons_self) (E x) done t (fun _ z => z) hd h
    obtain ⟨d2, b1, b2, b3, b4⟩ := Va.rnd hb l d1 _ (fun z hz => hl z (List.mem_cons_of_mem _ hz)) a1 a4
    refine ⟨d2, b1, fun e he => b2 e (a2 e he), fun z hz y hy => ?_, b4⟩
    rcases List.mem_cons.mp hz with rfl | hz
    · exact b2 _ (a3 y hy)
    · exact b3 z hz y hy
theorem Va.next {b : Nat → Nat} {k : Nat} {t : Nat → Nat} (hb : ∀ x, x < n → ∀ y ∈ E x, b x < b y) (h : Va E n b k [] t) : Va E n b (k + 1) [] (Gr.rnd E (List.range n) t) := by
  obtain ⟨d, h1, _, h3, h4⟩ := Va.rnd hb (List.range n) [] t (fun x hx => List.mem_range.mp hx) (fun _ z => by cases z) h
  refine ⟨fun x hx y hy hk => ?_, fun _ z => by (cases z), h4.g⟩
  by_cases e : b y = k
  · exact h4.w (x, y) (h3 x (List.mem_range.mpr hx) y hy) e
  · exact h4.v x hx y hy (by omega)
theorem Va.all {b : Nat → Nat} (hb : ∀ x, x < n → ∀ y ∈ E x, b x < b y) : ∀ (j k : Nat) (t : Nat → Nat), Va E n b k [] t → Va E n b (k + j) [] (rnds E n j t)
  | 0, k, t, h => h
  | j + 1, k, t, h => by
    have := Va.all hb j (k + 1) _ (h.next hb)
    rw [show k + (j + 1) = k + 1 + j by omega]
    exact this
end Gr
end
section
set_option Elab.async false
set_option linter.all false
set_option maxRecDepth 100000
set_option maxHeartbeats 4000000
namespace Law
open PySem PySem.Spec PyProof.Rows L2 DL
theorem len_1 {α : Type} (us : List α) (h : us.length = 1) : ∃ a0, us = [a0] := by
  match us, h with
  | [_], _ => exact ⟨_, rfl⟩
theorem len_2 {α : Type} (us : List α) (h : us.length = 2) : ∃ a0 a1, us = [a0, a1] := by
  match us, h with
  | [_, _], _ => exact ⟨_, _, rfl⟩
theorem len_3 {α : Type} (us : List α) (h : us.length = 3) : ∃ a0 a1 a2, us = [a0, a1, a2] := by
  match us, h with
  | [_, _, _], _ => exact ⟨_, _, _, rfl⟩
theorem len_4 {α : Type} (us : List α) (h : us.length = 4) : ∃ a0 a1 a2 a3, us = [a0, a1, a2, a3] := by
  match us, h with
  | [_, _, _, _], _ => exact ⟨_, _, _, _, rfl⟩
noncomputable def top (i : Nat) : Stmt := PySem.Challenge.pw_ringtrade_k37_parts_mixed.main.body.getD i (.Pass ⟨0, 0, 0, 0⟩)
structure Txt (K : PySem.W.Frag) (mg : Str → Option Value) : Prop where
  b_len : mg "len" = none
  b_abs : mg "abs" = none
  b_range : mg "range" = none
  b_tuple : mg "tuple" = none
  b_sum : mg "sum" = none
  b_isinstance : mg "isinstance" = none
  b_bool : mg "bool" = none
  b_int : mg "int" = none
  b_all : mg "all" = none
  b_enumerate : mg "enumerate" = none
  b_list : mg "list" = none
  k_NOUGHT : ∃ a, mg "NOUGHT" = some (.ref a) ∧ KC K a (.tup [.int 0, .int 1])
noncomputable abbrev st__law_cell : Stmt := top 15
noncomputable abbrev N__law_cell : List Str := ["_law_script", "_law_k", "_law_cell_here", "_law_stirred"]
noncomputable abbrev P__law_cell : List Str := ["_law_script", "_law_k"]
theorem sc__law_cell : FnScope N__law_cell P__law_cell (defScope st__law_cell) := ⟨rfl, rfl, rfl, by decide +kernel, rfl, by decide +kernel, by decide +kernel⟩
noncomputable def B__law_cell : FS :=
  (seqF (setF [Md.bw, Md.bw, Md.sh, Md.sh] 2 (fun _ => Res.ok (D.int 0))) (seqF (ifF [Md.bw, Md.bw, Md.sh, Md.sh] (fTest (f2 (fun r => getV r 1) (fC (lCons (fun r => getV r 0) lNil) lenD) ltI)) (seqF (setF [Md.bw, Md.bw, Md.sh, Md.sh] 2 (f2 (f2 (fun r => getV r 0) (fun r => getV r 1) ixA) (f2 (fun _ => Res.ok (D.int 10)) (fun _ => Res.ok (D.int 60)) powI) modI)) skipF) skipF) (seqF (ifF [Md.bw, Md.bw, Md.sh, Md.sh] (fAnd (fTest (f2 (fC (lCons (fun r => getV r 0) lNil) lenD) (fun _ => Res.ok (D.int 0)) gtI)) (fTest (f2 (f2 (f2 (fun r => getV r 0) (fun _ => Res.ok (D.int 0)) ixA) (fun _ => Res.ok (D.int 2)) modI) (fun _ => Res.ok (D.int 0)) eqD))) (seqF (retF [Md.bw, Md.bw, Md.sh, Md.sh] (fun r => getV r 2)) skipF) skipF) (seqF (setF [Md.bw, Md.bw, Md.sh, Md.sh] 3 (f2 (f2 (f2 (f2 (f2 (f2 (f2 (fun r => getV r 2) (f2 (f2 (fun _ => Res.ok (D.int 7)) (fun r => getV r 1) mulI) (fun r => getV r 1) mulI) addA) (f2 (fun _ => Res.ok (D.int 13)) (fun r => getV r 1) mulI) addA) (fun _ => Res.ok (D.int 5)) addA) (fun _ => Res.ok (D.int 48271)) mulI) (fun _ => Res.ok (D.int 2147483647)) modI) (fun _ => Res.ok (D.int 69621)) mulI) (fun _ => Res.ok (D.int 1000000007)) modI)) (seqF (retF [Md.bw, Md.bw, Md.sh, Md.sh] (f2 (f2 (f2 (f2 (f2 (fun r => getV r 3) (fun _ => Res.ok (D.int 1)) addA) (fun _ => Res.ok (D.int 40692)) mulI) (fun _ => Res.ok (D.int 2147483629)) modI) (fun _ => Res.ok (D.int 39373)) mulI) (fun _ => Res.ok (D.int 999999937)) modI)) skipF)))))
noncomputable def F__law_cell : List D → Res D := fun ds => outR false (B__law_cell (start0 N__law_cell.length ds))
theorem ok__law_cell {P : Program} {w : World} {K : PySem.W.Frag} {mg : Str → Option Value} {base : Heap} (T : Txt K mg) (A : DefAt K mg "_law_cell" st__law_cell) : Callee P w K mg base "_law_cell" P__law_cell [] 1 false [Md.bw, Md.bw] F__law_cell := by
  refine mk_def (k := 0) (fs := B__law_cell) (m' := [Md.bw, Md.bw, Md.sh, Md.sh]) A sc__law_cell rfl (fun _ _ _ _ _ _ us hl => by obtain ⟨u0, u1, rfl⟩ := len_2 us hl; kernel_rfl) fun f cdv A outer s H g E hr => ?_
  have hu1 := hu_of hr
  have hu64 := hr.units
  exact (ss_cons (s_set 2 sc__law_cell.nd (by rfl) (by first | exact Or.inl rfl | exact Or.inr rfl) s_int)
      (ss_cons (s_if (q_lt (vb_ 1) (SE.toB (s_len (by rfl) T.b_len (b_cons (vb_ 0) b_nil)))) (ss_cons (s_set 2 sc__law_cell.nd (by rfl) (by first | exact Or.inl rfl | exact Or.inr rfl) (s_mod (SE.toB (s_ixA hu1 (vb_ 0) (vb_ 1))) (SE.toB (s_pow (SE.toB s_int) (SE.toB s_int)))))
      ss_nil)
      ss_nil)
      (ss_cons (s_if (SW.toQ (q_and (q_gt (SE.toB (s_len (by rfl) T.b_len (b_cons (vb_ 0) b_nil))) (SE.toB s_int)) (q_and1 (q_eq hu64 (SE.toB (s_mod (SE.toB (s_ixA hu1 (vb_ 0) (SE.toB s_int))) (SE.toB s_int))) (SE.toB s_int))))) (ss_cons (s_ret (v_ 2))
      ss_nil)
      ss_nil)
      (ss_cons (s_set 3 sc__law_cell.nd (by rfl) (by first | exact Or.inl rfl | exact Or.inr rfl) (s_mod (SE.toB (s_mul (SE.toB (s_mod (SE.toB (s_mul (SE.toB (s_addA (SE.toB (s_addA (SE.toB (s_addA (vb_ 2) (SE.toB (s_mul (SE.toB (s_mul (SE.toB s_int) (vb_ 1))) (vb_ 1))))) (SE.toB (s_mul (SE.toB s_int) (vb_ 1))))) (SE.toB s_int))) (SE.toB s_int))) (SE.toB s_int))) (SE.toB s_int))) (SE.toB s_int)))
      (ss_cons (s_ret (s_mod (SE.toB (s_mul (SE.toB (s_mod (SE.toB (s_mul (SE.toB (s_addA (vb_ 3) (SE.toB s_int))) (SE.toB s_int))) (SE.toB s_int))) (SE.toB s_int))) (SE.toB s_int)))
      ss_nil)))))
noncomputable abbrev st__law_common : Stmt := top 17
noncomputable abbrev N__law_common : List Str := ["_law_one", "_law_other", "_law_rest"]
noncomputable abbrev P__law_common : List Str := ["_law_one", "_law_other"]
theorem sc__law_common : FnScope N__law_common P__law_common (defScope st__law_common) := ⟨rfl, rfl, rfl, by decide +kernel, rfl, by decide +kernel, by decide +kernel⟩
noncomputable abbrev Q__law_common_0 : FQ :=
  (fTest (f2 (fun r => getV r 1) (fun _ => Res.ok (D.int 0)) neD))
noncomputable abbrev L__law_common_0 : FS :=
  (seqF (setF [Md.sh, Md.sh, Md.sh] 2 (f2 (fun r => getV r 0) (fun r => getV r 1) modI)) (seqF (setF [Md.sh, Md.sh, Md.sh] 0 (fun r => getV r 1)) (seqF (setF [Md.sh, Md.sh, Md.sh] 1 (fun r => getV r 2)) skipF)))
noncomputable def B__law_common : FS :=
  (seqF (whileF [Md.sh, Md.sh, Md.sh] Q__law_common_0 L__law_common_0 1000) (seqF (retF [Md.sh, Md.sh, Md.sh] (fC (lCons (fun r => getV r 0) lNil) absD)) skipF))
noncomputable def F__law_common : List D → Res D := fun ds => outR false (B__law_common (start0 N__law_common.length ds))
theorem ok__law_common {P : Program} {w : World} {K : PySem.W.Frag} {mg : Str → Option Value} {base : Heap} (T : Txt K mg) (A : DefAt K mg "_law_common" st__law_common) : Callee P w K mg base "_law_common" P__law_common [] 1 false [Md.sh, Md.sh] F__law_common := by
  refine mk_def (k := 0) (fs := B__law_common) (m' := [Md.sh, Md.sh, Md.sh]) A sc__law_common rfl (fun _ _ _ _ _ _ us hl => by obtain ⟨u0, u1, rfl⟩ := len_2 us hl; kernel_rfl) fun f cdv A outer s H g E hr => ?_
  have hu1 := hu_of hr
  have hu64 := hr.units
  exact (ss_cons (s_while 1000 PassesOwn.never (q_ne hu64 (vb_ 1) (SE.toB s_int)) (ss_cons (s_set 2 sc__law_common.nd (by rfl) (by first | exact Or.inl rfl | exact Or.inr rfl) (s_mod (vb_ 0) (vb_ 1)))
      (ss_cons (s_set 0 sc__law_common.nd (by rfl) (by first | exact Or.inl rfl | exact Or.inr rfl) (v_ 1))
      (ss_cons (s_set 1 sc__law_common.nd (by rfl) (by first | exact Or.inl rfl | exact Or.inr rfl) (v_ 2))
      ss_nil))))
      (ss_cons (s_ret (s_abs (by rfl) T.b_abs (b_cons (vb_ 0) b_nil)))
      ss_nil))
noncomputable abbrev st__law_low : Stmt := top 18
noncomputable abbrev N__law_low : List Str := ["_law_top", "_law_bottom", "_law_by"]
noncomputable abbrev P__law_low : List Str := ["_law_top", "_law_bottom"]
theorem sc__law_low : FnScope N__law_low P__law_low (defScope st__law_low) := ⟨rfl, rfl, rfl, by decide +kernel, rfl, by decide +kernel, by decide +kernel⟩
noncomputable def B__law_low : FS :=
  (seqF (setF [Md.sh, Md.sh, Md.sh] 2 (callF (lCons (fun r => getV r 0) (lCons (fun r => getV r 1) lNil)) [] F__law_common)) (seqF (retF [Md.sh, Md.sh, Md.sh] (mkT (lCons (f2 (fun r => getV r 0) (fun r => getV r 2) fdivW) (lCons (f2 (fun r => getV r 1) (fun r => getV r 2) fdivW) lNil)))) skipF))
noncomputable def F__law_low : List D → Res D := fun ds => outR false (B__law_low (start0 N__law_low.length ds))
theorem ok__law_low {P : Program} {w : World} {K : PySem.W.Frag} {mg : Str → Option Value} {base : Heap} (T : Txt K mg) (A : DefAt K mg "_law_low" st__law_low) (c__law_common : Callee P w K mg base "_law_common" P__law_common [] 1 false [Md.sh, Md.sh] F__law_common) : Callee P w K mg base "_law_low" P__law_low [] 2 false [Md.sh, Md.sh] F__law_low := by
  refine mk_def (k := 1) (fs := B__law_low) (m' := [Md.sh, Md.sh, Md.sh]) A sc__law_low rfl (fun _ _ _ _ _ _ us hl => by obtain ⟨u0, u1, rfl⟩ := len_2 us hl; kernel_rfl) fun f cdv A outer s H g E hr => ?_
  have hu1 := hu_of hr
  have hu64 := hr.units
  exact (ss_cons (s_set 2 sc__law_low.nd (by rfl) (by first | exact Or.inl rfl | exact Or.inr rfl) (c_call (dds := []) c__law_common (hr.mono (by decide)) (m_sh (v_ 0) (m_sh (v_ 1) m_nil))))
      (ss_cons (s_ret (s_tup (a_cons (s_fdivW (vb_ 0) (vb_ 2)) (a_cons (s_fdivW (vb_ 1) (vb_ 2)) a_nil))))
      ss_nil))
noncomputable abbrev st__law_row : Stmt := top 16
noncomputable abbrev N__law_row : List Str := ["_law_cell_here", "_law_m", "_law_row_here", "_law_thing"]
noncomputable abbrev P__law_row : List Str := ["_law_cell_here", "_law_m"]
theorem sc__law_row : FnScope N__law_row P__law_row (defScope st__law_row) := ⟨rfl, rfl, rfl, by decide +kernel, rfl, by decide +kernel, by decide +kernel⟩
noncomputable abbrev L__law_row_0 : FS :=
  (seqF (mutF "list" [Md.sh, Md.bw, Md.ow, Md.sh] 2 (lCons (f2 (fun r => getV r 0) (f2 (fun r => getV r 3) (fun _ => Res.ok (D.int 1)) addA) modI) (lCons (fun r => getV r 3) lNil)) insD) (seqF (setF [Md.sh, Md.bw, Md.ow, Md.sh] 0 (f2 (fun r => getV r 0) (f2 (fun r => getV r 3) (fun _ => Res.ok (D.int 1)) addA) fdivI)) skipF))
noncomputable def B__law_row : FS :=
  (seqF (setF [Md.sh, Md.bw, Md.sh, Md.sh] 2 (mkL lNil)) (seqF (loopF [Md.sh, Md.bw, Md.ow, Md.sh] (fRng rng1 (lCons (fun r => getV r 1) lNil)) (ftN 3) L__law_row_0) (seqF (retF [Md.sh, Md.bw, Md.ow, Md.sh] (fC (lCons (fun r => getV r 2) lNil) tupD)) skipF)))
noncomputable def F__law_row : List D → Res D := fun ds => outR false (B__law_row (start0 N__law_row.length ds))
theorem ok__law_row {P : Program} {w : World} {K : PySem.W.Frag} {mg : Str → Option Value} {base : Heap} (T : Txt K mg) (A : DefAt K mg "_law_row" st__law_row) : Callee P w K mg base "_law_row" P__law_row [] 1 false [Md.sh, Md.bw] F__law_row := by
  refine mk_def (k := 0) (fs := B__law_row) (m' := [Md.sh, Md.bw, Md.ow, Md.sh]) A sc__law_row rfl (fun _ _ _ _ _ _ us hl => by obtain ⟨u0, u1, rfl⟩ := len_2 us hl; kernel_rfl) fun f cdv A outer s H g E hr => ?_
  have hu1 := hu_of hr
  have hu64 := hr.units
  exact (ss_cons (s_setO 2 sc__law_row.nd (by rfl) (by first | exact Or.inl rfl | exact Or.inr rfl) (o_lst a_nil))
      (ss_cons (s_for PassesOwn.never rfl (i_range1 (by rfl) T.b_range (b_cons (vb_ 1) b_nil)) (g_name 3 sc__law_row.nd (by rfl) (by first | exact Or.inl rfl | exact Or.inr rfl)) (ss_cons (s_mut 2 rfl PySem.F.plainAttrs_list PySem.F.slot_list_insert PySem.F.type_list_insert mt_insert ins_ok (by rfl) (by first | exact Or.inl rfl | exact Or.inr (Or.inl rfl) | exact Or.inr (Or.inr rfl)) (a_cons (s_mod (vb_ 0) (SE.toB (s_addA (vb_ 3) (SE.toB s_int)))) (a_cons (v_ 3) a_nil)))
      (ss_cons (s_set 0 sc__law_row.nd (by rfl) (by first | exact Or.inl rfl | exact Or.inr rfl) (s_fdiv (vb_ 0) (SE.toB (s_addA (vb_ 3) (SE.toB s_int)))))
      ss_nil)))
      (ss_cons (s_ret (s_tuple (by rfl) T.b_tuple (b_cons (vb_ 2) b_nil)))
      ss_nil)))
noncomputable abbrev st__law_parts : Stmt := top 22
noncomputable abbrev N__law_parts : List Str := ["_law_script", "_law_at", "_law_n", "_law_many", "_law_weights", "_law_whole", "_law_found", "_law_k"]
noncomputable abbrev P__law_parts : List Str := ["_law_script", "_law_at", "_law_n", "_law_many"]
theorem sc__law_parts : FnScope N__law_parts P__law_parts (defScope st__law_parts) := ⟨rfl, rfl, rfl, by decide +kernel, rfl, by decide +kernel, by decide +kernel⟩
noncomputable abbrev L__law_parts_0 : FS :=
  (seqF (mutF "list" [Md.bw, Md.bw, Md.bw, Md.bw, Md.ow, Md.sh, Md.ow, Md.sh] 6 (lCons (mkT (lCons (callF (lCons (f2 (fun r => getV r 4) (fun r => getV r 7) ixA) (lCons (fun r => getV r 5) lNil)) [] F__law_low) (lCons (callF (lCons (callF (lCons (fun r => getV r 0) (lCons (f2 (f2 (fun r => getV r 1) (f2 (fun _ => Res.ok (D.int 2)) (fun r => getV r 7) mulI) addA) (fun _ => Res.ok (D.int 1)) addA) lNil)) [] F__law_cell) (lCons (fun r => getV r 2) lNil)) [] F__law_row) lNil))) lNil) appD) skipF)
noncomputable def B__law_parts : FS :=
  (seqF (setF [Md.bw, Md.bw, Md.bw, Md.bw, Md.sh, Md.sh, Md.sh, Md.sh] 4 (fComp 1 [0, 1] (fRng rng1 (lCons (fun r => getV r 3) lNil)) (ftN 0) (fun _ => Res.ok true) (f2 (fun _ => Res.ok (D.int 1)) (f2 (callF (lCons (fun r => getV r 1) (lCons (f2 (fun r => getV r 2) (f2 (fun _ => Res.ok (D.int 2)) (fun r => getV r 0) mulI) addA) lNil)) [] F__law_cell) (fun _ => Res.ok (D.int 60)) modI) addA))) (seqF (setF [Md.bw, Md.bw, Md.bw, Md.bw, Md.ow, Md.sh, Md.sh, Md.sh] 5 (fC (lCons (fun r => getV r 4) lNil) sumD)) (seqF (setF [Md.bw, Md.bw, Md.bw, Md.bw, Md.ow, Md.sh, Md.sh, Md.sh] 6 (mkL lNil)) (seqF (loopF [Md.bw, Md.bw, Md.bw, Md.bw, Md.ow, Md.sh, Md.ow, Md.sh] (fRng rng1 (lCons (fun r => getV r 3) lNil)) (ftN 7) L__law_parts_0) (seqF (retF [Md.bw, Md.bw, Md.bw, Md.bw, Md.ow, Md.sh, Md.sh, Md.sh] (fun r => getV r 6)) skipF)))))
noncomputable def F__law_parts : List D → Res D := fun ds => outR false (B__law_parts (start0 N__law_parts.length ds))
theorem ok__law_parts {P : Program} {w : World} {K : PySem.W.Frag} {mg : Str → Option Value} {base : Heap} (T : Txt K mg) (A : DefAt K mg "_law_parts" st__law_parts) (c__law_cell : Callee P w K mg base "_law_cell" P__law_cell [] 1 false [Md.bw, Md.bw] F__law_cell) (c__law_row : Callee P w K mg base "_law_row" P__law_row [] 1 false [Md.sh, Md.bw] F__law_row) (c__law_low : Callee P w K mg base "_law_low" P__law_low [] 2 false [Md.sh, Md.sh] F__law_low) : Callee P w K mg base "_law_parts" P__law_parts [] 3 false [Md.bw, Md.bw, Md.bw, Md.bw] F__law_parts := by
  refine mk_def (k := 2) (fs := B__law_parts) (m' := [Md.bw, Md.bw, Md.bw, Md.bw, Md.ow, Md.sh, Md.sh, Md.sh]) A sc__law_parts rfl (fun _ _ _ _ _ _ us hl => by obtain ⟨u0, u1, u2, u3, rfl⟩ := len_4 us hl; kernel_rfl) fun f cdv A outer s H g E hr => ?_
  have hu1 := hu_of hr
  have hu64 := hr.units
  exact (ss_cons (s_setComp 4 (X := (cxOf CX0 P w K mg base N__law_parts "_law_parts" (defScope st__law_parts) f cdv A outer s H E).nox) (m := [Md.bw, Md.bw, Md.bw, Md.bw, Md.sh, Md.sh, Md.sh, Md.sh]) (N' := ["_law_k", "_law_script", "_law_at"]) (nl := 1) (cap := [0, 1]) sc__law_parts.nd rfl (by rfl) (by rfl) (compSc_of (osc := (defScope st__law_parts)) (ON := N__law_parts) rfl rfl (by decide +kernel)) (SIt.toC (i_range1 (by rfl) T.b_range (b_cons (vb_ 3) b_nil))) (fun _ _ _ _ _ _ => (g_name 0 (show List.Nodup (["_law_k", "_law_script", "_law_at"] : List Str) by decide +kernel) (by rfl) (by first | exact Or.inl rfl | exact Or.inr rfl))) (ftN_ok (by decide)) (fun _ _ _ _ _ _ => qs_nil) (fun _ _ _ _ _ _ => (s_addA (SE.toB s_int) (SE.toB (s_mod (SE.toB (c_call (dds := []) c__law_cell (hr.mono (by decide)) (m_bw (vb_ 1) (m_bw (SE.toB (s_addA (vb_ 2) (SE.toB (s_mul (SE.toB s_int) (vb_ 0))))) m_nil)))) (SE.toB s_int))))))
      (ss_cons (s_set 5 sc__law_parts.nd (by rfl) (by first | exact Or.inl rfl | exact Or.inr rfl) (s_sum rfl (by rfl) T.b_sum (b_cons (vb_ 4) b_nil)))
      (ss_cons (s_setO 6 sc__law_parts.nd (by rfl) (by first | exact Or.inl rfl | exact Or.inr rfl) (o_lst a_nil))
      (ss_cons (s_for PassesOwn.never rfl (i_range1 (by rfl) T.b_range (b_cons (vb_ 3) b_nil)) (g_name 7 sc__law_parts.nd (by rfl) (by first | exact Or.inl rfl | exact Or.inr rfl)) (ss_cons (s_mut 6 rfl PySem.F.plainAttrs_list PySem.F.slot_list_append PySem.F.type_list_append mt_append app_ok (by rfl) (by first | exact Or.inl rfl | exact Or.inr (Or.inl rfl) | exact Or.inr (Or.inr rfl)) (a_cons (s_tup (a_cons (c_call (dds := []) c__law_low (hr.mono (by decide)) (m_sh (s_ixA hu1 (vb_ 4) (vb_ 7)) (m_sh (v_ 5) m_nil))) (a_cons (c_call (dds := []) c__law_row (hr.mono (by decide)) (m_sh (c_call (dds := []) c__law_cell (hr.mono (by decide)) (m_bw (vb_ 0) (m_bw (SE.toB (s_addA (SE.toB (s_addA (vb_ 1) (SE.toB (s_mul (SE.toB s_int) (vb_ 7))))) (SE.toB s_int))) m_nil))) (m_bw (vb_ 2) m_nil))) a_nil))) a_nil))
      ss_nil))
      (ss_cons (s_frz 6 rfl (s_ret (v_ 6)))
      ss_nil)))))
noncomputable abbrev st_greatest_divisor : Stmt := top 7
noncomputable abbrev N_greatest_divisor : List Str := ["one", "other", "rest"]
noncomputable abbrev P_greatest_divisor : List Str := ["one", "other"]
theorem sc_greatest_divisor : FnScope N_greatest_divisor P_greatest_divisor (defScope st_greatest_divisor) := ⟨rfl, rfl, rfl, by decide +kernel, rfl, by decide +kernel, by decide +kernel⟩
noncomputable abbrev Q_greatest_divisor_0 : FQ :=
  (fTest (f2 (fun r => getV r 1) (fun _ => Res.ok (D.int 0)) neD))
noncomputable abbrev L_greatest_divisor_0 : FS :=
  (seqF (setF [Md.sh, Md.sh, Md.sh] 2 (f2 (fun r => getV r 0) (fun r => getV r 1) modI)) (seqF (setF [Md.sh, Md.sh, Md.sh] 0 (fun r => getV r 1)) (seqF (setF [Md.sh, Md.sh, Md.sh] 1 (fun r => getV r 2)) skipF)))
noncomputable def B_greatest_divisor : FS :=
  (seqF (whileF [Md.sh, Md.sh, Md.sh] Q_greatest_divisor_0 L_greatest_divisor_0 1000) (seqF (retF [Md.sh, Md.sh, Md.sh] (fC (lCons (fun r => getV r 0) lNil) absD)) skipF))
noncomputable def F_greatest_divisor : List D → Res D := fun ds => outR false (B_greatest_divisor (start0 N_greatest_divisor.length ds))
theorem ok_greatest_divisor {P : Program} {w : World} {K : PySem.W.Frag} {mg : Str → Option Value} {base : Heap} (T : Txt K mg) (A : DefAt K mg "greatest_divisor" st_greatest_divisor) : Callee P w K mg base "greatest_divisor" P_greatest_divisor [] 1 false [Md.sh, Md.sh] F_greatest_divisor := by
  refine mk_def (k := 0) (fs := B_greatest_divisor) (m' := [Md.sh, Md.sh, Md.sh]) A sc_greatest_divisor rfl (fun _ _ _ _ _ _ us hl => by obtain ⟨u0, u1, rfl⟩ := len_2 us hl; kernel_rfl) fun f cdv A outer s H g E hr => ?_
  have hu1 := hu_of hr
  have hu64 := hr.units
  exact (ss_cons (s_while 1000 PassesOwn.never (q_ne hu64 (vb_ 1) (SE.toB s_int)) (ss_cons (s_set 2 sc_greatest_divisor.nd (by rfl) (by first | exact Or.inl rfl | exact Or.inr rfl) (s_mod (vb_ 0) (vb_ 1)))
      (ss_cons (s_set 0 sc_greatest_divisor.nd (by rfl) (by first | exact Or.inl rfl | exact Or.inr rfl) (v_ 1))
      (ss_cons (s_set 1 sc_greatest_divisor.nd (by rfl) (by first | exact Or.inl rfl | exact Or.inr rfl) (v_ 2))
      ss_nil))))
      (ss_cons (s_ret (s_abs (by rfl) T.b_abs (b_cons (vb_ 0) b_nil)))
      ss_nil))
noncomputable abbrev st_is_whole : Stmt := top 4
noncomputable abbrev N_is_whole : List Str := ["value"]
noncomputable abbrev P_is_whole : List Str := ["value"]
theorem sc_is_whole : FnScope N_is_whole P_is_whole (defScope st_is_whole) := ⟨rfl, rfl, rfl, by decide +kernel, rfl, by decide +kernel, by decide +kernel⟩
noncomputable def B_is_whole : FS :=
  (seqF (retF [Md.bw] (vAnd (f1 (fun r => getV r 0) (isiD "int")) (vNot (f1 (fun r => getV r 0) (isiD "bool"))))) skipF)
noncomputable def F_is_whole : List D → Res D := fun ds => outR false (B_is_whole (start0 N_is_whole.length ds))
theorem ok_is_whole {P : Program} {w : World} {K : PySem.W.Frag} {mg : Str → Option Value} {base : Heap} (T : Txt K mg) (A : DefAt K mg "is_whole" st_is_whole) : Callee P w K mg base "is_whole" P_is_whole [] 1 false [Md.bw] F_is_whole := by
  refine mk_def (k := 0) (fs := B_is_whole) (m' := [Md.bw]) A sc_is_whole rfl (fun _ _ _ _ _ _ us hl => by obtain ⟨u0, rfl⟩ := len_1 us hl; kernel_rfl) fun f cdv A outer s H g E hr => ?_
  have hu1 := hu_of hr
  have hu64 := hr.units
  exact (ss_cons (s_ret (s_and (s_isi "int" "int" rfl (kit_int _) (by rfl) T.b_isinstance (by rfl) T.b_int (vb_ 0)) (s_one (s_not (s_isi "bool" "bool" rfl (kit_bool _) (by rfl) T.b_isinstance (by rfl) T.b_bool (vb_ 0))))))
      ss_nil)
noncomputable abbrev st_fraction : Stmt := top 8
noncomputable abbrev N_fraction : List Str := ["top", "bottom", "divisor"]
noncomputable abbrev P_fraction : List Str := ["top", "bottom"]
theorem sc_fraction : FnScope N_fraction P_fraction (defScope st_fraction) := ⟨rfl, rfl, rfl, by decide +kernel, rfl, by decide +kernel, by decide +kernel⟩
noncomputable def B_fraction : FS :=
  (seqF (ifF [Md.sh, Md.sh, Md.sh] (fOr (fNot (fTru (callF (lCons (fun r => getV r 0) lNil) [] F_is_whole))) (fOr (fNot (fTru (callF (lCons (fun r => getV r 1) lNil) [] F_is_whole))) (fTest (f2 (fun r => getV r 1) (fun _ => Res.ok (D.int 0)) eqD)))) (seqF (fun _ => Out.stuck) skipF) skipF) (seqF (setF [Md.sh, Md.sh, Md.sh] 2 (callF (lCons (fun r => getV r 0) (lCons (fun r => getV r 1) lNil)) [] F_greatest_divisor)) (seqF (ifF [Md.sh, Md.sh, Md.sh] (fTest (f2 (fun r => getV r 1) (fun _ => Res.ok (D.int 0)) ltI)) (seqF (setF [Md.sh, Md.sh, Md.sh] 2 (f1 (fun r => getV r 2) negI)) skipF) skipF) (seqF (retF [Md.sh, Md.sh, Md.sh] (mkT (lCons (f2 (fun r => getV r 0) (fun r => getV r 2) fdivW) (lCons (f2 (fun r => getV r 1) (fun r => getV r 2) fdivW) lNil)))) skipF))))
noncomputable def F_fraction : List D → Res D := fun ds => outR false (B_fraction (start0 N_fraction.length ds))
theorem ok_fraction {P : Program} {w : World} {K : PySem.W.Frag} {mg : Str → Option Value} {base : Heap} (T : Txt K mg) (A : DefAt K mg "fraction" st_fraction) (c_is_whole : Callee P w K mg base "is_whole" P_is_whole [] 1 false [Md.bw] F_is_whole) (c_greatest_divisor : Callee P w K mg base "greatest_divisor" P_greatest_divisor [] 1 false [Md.sh, Md.sh] F_greatest_divisor) : Callee P w K mg base "fraction" P_fraction [] 2 false [Md.sh, Md.sh] F_fraction := by
  refine mk_def (k := 1) (fs := B_fraction) (m' := [Md.sh, Md.sh, Md.sh]) A sc_fraction rfl (fun _ _ _ _ _ _ us hl => by obtain ⟨u0, u1, rfl⟩ := len_2 us hl; kernel_rfl) fun f cdv A outer s H g E hr => ?_
  have hu1 := hu_of hr
  have hu64 := hr.units
  exact (ss_cons (s_if (SW.toQ (q_or (q_not (q_tru (SE.toB (c_call (dds := []) c_is_whole (hr.mono (by decide)) (m_bw (vb_ 0) m_nil))))) (q_or (q_not (q_tru (SE.toB (c_call (dds := []) c_is_whole (hr.mono (by decide)) (m_bw (vb_ 1) m_nil))))) (q_or1 (q_eq hu64 (vb_ 1) (SE.toB s_int)))))) (ss_cons s_never
      ss_nil)
      ss_nil)
      (ss_cons (s_set 2 sc_fraction.nd (by rfl) (by first | exact Or.inl rfl | exact Or.inr rfl) (c_call (dds := []) c_greatest_divisor (hr.mono (by decide)) (m_sh (v_ 0) (m_sh (v_ 1) m_nil))))
      (ss_cons (s_if (q_lt (vb_ 1) (SE.toB s_int)) (ss_cons (s_set 2 sc_fraction.nd (by rfl) (by first | exact Or.inl rfl | exact Or.inr rfl) (s_neg (vb_ 2)))
      ss_nil)
      ss_nil)
      (ss_cons (s_ret (s_tup (a_cons (s_fdivW (vb_ 0) (vb_ 2)) (a_cons (s_fdivW (vb_ 1) (vb_ 2)) a_nil))))
      ss_nil))))
noncomputable abbrev st_plus : Stmt := top 9
noncomputable abbrev N_plus : List Str := ["a", "b"]
noncomputable abbrev P_plus : List Str := ["a", "b"]
theorem sc_plus : FnScope N_plus P_plus (defScope st_plus) := ⟨rfl, rfl, rfl, by decide +kernel, rfl, by decide +kernel, by decide +kernel⟩
noncomputable def B_plus : FS :=
  (seqF (retF [Md.bw, Md.bw] (callF (lCons (f2 (f2 (f2 (fun r => getV r 0) (fun _ => Res.ok (D.int 0)) ixA) (f2 (fun r => getV r 1) (fun _ => Res.ok (D.int 1)) ixA) mulW) (f2 (f2 (fun r => getV r 1) (fun _ => Res.ok (D.int 0)) ixA) (f2 (fun r => getV r 0) (fun _ => Res.ok (D.int 1)) ixA) mulW) addA) (lCons (f2 (f2 (fun r => getV r 0) (fun _ => Res.ok (D.int 1)) ixA) (f2 (fun r => getV r 1) (fun _ => Res.ok (D.int 1)) ixA) mulW) lNil)) [] F_fraction)) skipF)
noncomputable def F_plus : List D → Res D := fun ds => outR false (B_plus (start0 N_plus.length ds))
theorem ok_plus {P : Program} {w : World} {K : PySem.W.Frag} {mg : Str → Option Value} {base : Heap} (T : Txt K mg) (A : DefAt K mg "plus" st_plus) (c_fraction : Callee P w K mg base "fraction" P_fraction [] 2 false [Md.sh, Md.sh] F_fraction) : Callee P w K mg base "plus" P_plus [] 3 false [Md.bw, Md.bw] F_plus := by
  refine mk_def (k := 2) (fs := B_plus) (m' := [Md.bw, Md.bw]) A sc_plus rfl (fun _ _ _ _ _ _ us hl => by obtain ⟨u0, u1, rfl⟩ := len_2 us hl; kernel_rfl) fun f cdv A outer s H g E hr => ?_
  have hu1 := hu_of hr
  have hu64 := hr.units
  exact (ss_cons (s_ret (c_call (dds := []) c_fraction (hr.mono (by decide)) (m_sh (s_addA (SE.toB (s_mulW (SE.toB (s_ixA hu1 (vb_ 0) (SE.toB s_int))) (SE.toB (s_ixA hu1 (vb_ 1) (SE.toB s_int))))) (SE.toB (s_mulW (SE.toB (s_ixA hu1 (vb_ 1) (SE.toB s_int))) (SE.toB (s_ixA hu1 (vb_ 0) (SE.toB s_int)))))) (m_sh (s_mulW (SE.toB (s_ixA hu1 (vb_ 0) (SE.toB s_int))) (SE.toB (s_ixA hu1 (vb_ 1) (SE.toB s_int)))) m_nil))))
      ss_nil)
noncomputable abbrev st_total : Stmt := top 10
noncomputable abbrev N_total : List Str := ["shares", "told", "share"]
noncomputable abbrev P_total : List Str := ["shares"]
theorem sc_total : FnScope N_total P_total (defScope st_total) := ⟨rfl, rfl, rfl, by decide +kernel, rfl, by decide +kernel, by decide +kernel⟩
noncomputable abbrev L_total_0 : FS :=
  (seqF (setF [Md.bw, Md.sh, Md.sh] 1 (callF (lCons (fun r => getV r 1) (lCons (fun r => getV r 2) lNil)) [] F_plus)) skipF)
noncomputable def B_total : FS :=
  (seqF (setF [Md.bw, Md.sh, Md.sh] 1 (fun _ => Res.ok (D.tup [D.int 0, D.int 1]))) (seqF (loopF [Md.bw, Md.sh, Md.sh] (fSeq asSeq (fun r => getV r 0)) (ftN 2) L_total_0) (seqF (retF [Md.bw, Md.sh, Md.sh] (fun r => getV r 1)) skipF)))
noncomputable def F_total : List D → Res D := fun ds => outR false (B_total (start0 N_total.length ds))
theorem ok_total {P : Program} {w : World} {K : PySem.W.Frag} {mg : Str → Option Value} {base : Heap} (T : Txt K mg) (A : DefAt K mg "total" st_total) (c_plus : Callee P w K mg base "plus" P_plus [] 3 false [Md.bw, Md.bw] F_plus) : Callee P w K mg base "total" P_total [] 4 false [Md.bw] F_total := by
  refine mk_def (k := 3) (fs := B_total) (m' := [Md.bw, Md.sh, Md.sh]) A sc_total rfl (fun _ _ _ _ _ _ us hl => by obtain ⟨u0, rfl⟩ := len_1 us hl; kernel_rfl) fun f cdv A outer s H g E hr => ?_
  have hu1 := hu_of hr
  have hu64 := hr.units
  exact (ss_cons (s_set 1 sc_total.nd (by rfl) (by first | exact Or.inl rfl | exact Or.inr rfl) (s_globT (by rfl) T.k_NOUGHT))
      (ss_cons (s_forC PassesOwn.never rfl (ic_seq (vb_ 0)) (fun _ => (g_name 2 sc_total.nd (by rfl) (by first | exact Or.inl rfl | exact Or.inr rfl))) (fun _ => (ss_cons (s_set 1 sc_total.nd (by rfl) (by first | exact Or.inl rfl | exact Or.inr rfl) (c_call (dds := []) c_plus (hr.mono (by decide)) (m_bw (vb_ 1) (m_bw (vb_ 2) m_nil))))
      ss_nil)))
      (ss_cons (s_ret (v_ 1))
      ss_nil)))
noncomputable abbrev st_share_in : Stmt := top 12
noncomputable abbrev N_share_in : List Str := ["parts", "hand", "thing"]
noncomputable abbrev P_share_in : List Str := ["parts", "hand", "thing"]
theorem sc_share_in : FnScope N_share_in P_share_in (defScope st_share_in) := ⟨rfl, rfl, rfl, by decide +kernel, rfl, by decide +kernel, by decide +kernel⟩
noncomputable def B_share_in : FS :=
  (seqF (retF [Md.bw, Md.bw, Md.bw] (callF (lCons (fComp 2 [2, 1] (fSeq asSeq (fun r => getV r 0)) (ftT (ftCons (ftN 0) (ftCons (ftN 1) ftNil))) (fTest (f2 (f2 (fun r => getV r 1) (fun r => getV r 3) ixA) (fun r => getV r 2) eqD)) (fun r => getV r 0)) lNil) [] F_total)) skipF)
noncomputable def F_share_in : List D → Res D := fun ds => outR false (B_share_in (start0 N_share_in.length ds))
theorem ok_share_in {P : Program} {w : World} {K : PySem.W.Frag} {mg : Str → Option Value} {base : Heap} (T : Txt K mg) (A : DefAt K mg "share_in" st_share_in) (c_total : Callee P w K mg base "total" P_total [] 4 false [Md.bw] F_total) : Callee P w K mg base "share_in" P_share_in [] 5 false [Md.bw, Md.bw, Md.bw] F_share_in := by
  refine mk_def (k := 4) (fs := B_share_in) (m' := [Md.bw, Md.bw, Md.bw]) A sc_share_in rfl (fun _ _ _ _ _ _ us hl => by obtain ⟨u0, u1, u2, rfl⟩ := len_3 us hl; kernel_rfl) fun f cdv A outer s H g E hr => ?_
  have hu1 := hu_of hr
  have hu64 := hr.units
  exact (ss_cons (s_ret (c_call (dds := []) c_total (hr.mono (by decide)) (m_bw (SO.toB (o_comp (X := (cxOf CX0 P w K mg base N_share_in "share_in" (defScope st_share_in) f cdv A outer s H E).nox) (N' := ["part", "dealing", "thing", "hand"]) (nl := 2) (cap := [2, 1]) sc_share_in.nd rfl (compSc_of (osc := (defScope st_share_in)) (ON := N_share_in) rfl rfl (by decide +kernel)) (ic_seq (vb_ 0)) (fun _ _ _ _ _ _ => (g_tup rfl (g_cons (g_name 0 (show List.Nodup (["part", "dealing", "thing", "hand"] : List Str) by decide +kernel) (by rfl) (by first | exact Or.inl rfl | exact Or.inr rfl)) (g_cons (g_name 1 (show List.Nodup (["part", "dealing", "thing", "hand"] : List Str) by decide +kernel) (by rfl) (by first | exact Or.inl rfl | exact Or.inr rfl)) g_nil)))) (ftT_ok (ftCons_ok (ftN_ok (by decide)) (ftCons_ok (ftN_ok (by decide)) ftNil_ok))) (fun _ _ _ _ _ _ => (qs_one (q_eq hu64 (SE.toB (s_ixA hu1 (vb_ 1) (vb_ 3))) (vb_ 2)))) (fun _ _ _ _ _ _ => (v_ 0)))) m_nil)))
      ss_nil)
noncomputable abbrev st_mixed : Stmt := top 13
noncomputable abbrev N_mixed : List Str := ["parts", "many", "table", "hand"]
noncomputable abbrev P_mixed : List Str := ["parts"]
theorem sc_mixed : FnScope N_mixed P_mixed (defScope st_mixed) := ⟨rfl, rfl, rfl, by decide +kernel, rfl, by decide +kernel, by decide +kernel⟩
noncomputable abbrev L_mixed_0 : FS :=
  (seqF (mutF "list" [Md.bw, Md.sh, Md.ow, Md.sh] 2 (lCons (fC (lCons (fComp 1 [0, 3] (fRng rng1 (lCons (fun r => getV r 1) lNil)) (ftN 0) (fun _ => Res.ok true) (callF (lCons (fun r => getV r 1) (lCons (fun r => getV r 2) (lCons (fun r => getV r 0) lNil))) [] F_share_in)) lNil) tupD) lNil) appD) skipF)
noncomputable def B_mixed : FS :=
  (seqF (setF [Md.bw, Md.sh, Md.sh, Md.sh] 1 (fC (lCons (f2 (f2 (fun r => getV r 0) (fun _ => Res.ok (D.int 0)) ixA) (fun _ => Res.ok (D.int 1)) ixA) lNil) lenD)) (seqF (setF [Md.bw, Md.sh, Md.sh, Md.sh] 2 (mkL lNil)) (seqF (loopF [Md.bw, Md.sh, Md.ow, Md.sh] (fRng rng1 (lCons (fun r => getV r 1) lNil)) (ftN 3) L_mixed_0) (seqF (retF [Md.bw, Md.sh, Md.ow, Md.sh] (fC (lCons (fun r => getV r 2) lNil) tupD)) skipF))))
noncomputable def F_mixed : List D → Res D := fun ds => outR false (B_mixed (start0 N_mixed.length ds))
theorem ok_mixed {P : Program} {w : World} {K : PySem.W.Frag} {mg : Str → Option Value} {base : Heap} (T : Txt K mg) (A : DefAt K mg "mixed" st_mixed) (c_share_in : Callee P w K mg base "share_in" P_share_in [] 5 false [Md.bw, Md.bw, Md.bw] F_share_in) : Callee P w K mg base "mixed" P_mixed [] 6 false [Md.bw] F_mixed := by
  refine mk_def (k := 5) (fs := B_mixed) (m' := [Md.bw, Md.sh, Md.ow, Md.sh]) A sc_mixed rfl (fun _ _ _ _ _ _ us hl => by obtain ⟨u0, rfl⟩ := len_1 us hl; kernel_rfl) fun f cdv A outer s H g E hr => ?_
  have hu1 := hu_of hr
  have hu64 := hr.units
  exact (ss_cons (s_set 1 sc_mixed.nd (by rfl) (by first | exact Or.inl rfl | exact Or.inr rfl) (s_len (by rfl) T.b_len (b_cons (SE.toB (s_ixA hu1 (SE.toB (s_ixA hu1 (vb_ 0) (SE.toB s_int))) (SE.toB s_int))) b_nil)))
      (ss_cons (s_setO 2 sc_mixed.nd (by rfl) (by first | exact Or.inl rfl | exact Or.inr rfl) (o_lst a_nil))
      (ss_cons (s_for PassesOwn.never rfl (i_range1 (by rfl) T.b_range (b_cons (vb_ 1) b_nil)) (g_name 3 sc_mixed.nd (by rfl) (by first | exact Or.inl rfl | exact Or.inr rfl)) (ss_cons (s_mut 2 rfl PySem.F.plainAttrs_list PySem.F.slot_list_append PySem.F.type_list_append mt_append app_ok (by rfl) (by first | exact Or.inl rfl | exact Or.inr (Or.inl rfl) | exact Or.inr (Or.inr rfl)) (a_cons (s_tuple (by rfl) T.b_tuple (b_cons (SO.toB (o_comp (X := (cxOf CX0 P w K mg base N_mixed "mixed" (defScope st_mixed) f cdv A outer s H E).nox) (N' := ["thing", "parts", "hand"]) (nl := 1) (cap := [0, 3]) sc_mixed.nd rfl (compSc_of (osc := (defScope st_mixed)) (ON := N_mixed) rfl rfl (by decide +kernel)) (SIt.toC (i_range1 (by rfl) T.b_range (b_cons (vb_ 1) b_nil))) (fun _ _ _ _ _ _ => (g_name 0 (show List.Nodup (["thing", "parts", "hand"] : List Str) by decide +kernel) (by rfl) (by first | exact Or.inl rfl | exact Or.inr rfl))) (ftN_ok (by decide)) (fun _ _ _ _ _ _ => qs_nil) (fun _ _ _ _ _ _ => (c_call (dds := []) c_share_in (hr.mono (by decide)) (m_bw (vb_ 1) (m_bw (vb_ 2) (m_bw (vb_ 0) m_nil))))))) b_nil)) a_nil))
      ss_nil))
      (ss_cons (s_ret (s_tuple (by rfl) T.b_tuple (b_cons (vb_ 2) b_nil)))
      ss_nil))))
noncomputable abbrev st__law_is_fraction : Stmt := top 20
noncomputable abbrev N__law_is_fraction : List Str := ["_law_found", "_law_one"]
noncomputable abbrev P__law_is_fraction : List Str := ["_law_found"]
theorem sc__law_is_fraction : FnScope N__law_is_fraction P__law_is_fraction (defScope st__law_is_fraction) := ⟨rfl, rfl, rfl, by decide +kernel, rfl, by decide +kernel, by decide +kernel⟩
noncomputable abbrev L__law_is_fraction_0 : FS :=
  (seqF (ifF [Md.bw, Md.sh] (fOr (fNot (fTru (f1 (fun r => getV r 1) (isiD "int")))) (fTru (f1 (fun r => getV r 1) (isiD "bool")))) (seqF (retF [Md.bw, Md.sh] (fun _ => Res.ok (D.bl false))) skipF) skipF) skipF)
noncomputable def B__law_is_fraction : FS :=
  (seqF (ifF [Md.bw, Md.sh] (fOr (fNot (fTru (f1 (fun r => getV r 0) (isiD "tuple")))) (fTest (f2 (fC (lCons (fun r => getV r 0) lNil) lenD) (fun _ => Res.ok (D.int 2)) neD))) (seqF (retF [Md.bw, Md.sh] (fun _ => Res.ok (D.bl false))) skipF) skipF) (seqF (loopF [Md.bw, Md.sh] (fSeq asSeq (fun r => getV r 0)) (ftN 1) L__law_is_fraction_0) (seqF (retF [Md.bw, Md.sh] (vAnd (f2 (f2 (fun r => getV r 0) (fun _ => Res.ok (D.int 1)) ixA) (fun _ => Res.ok (D.int 0)) gtI) (f2 (callF (lCons (f2 (fun r => getV r 0) (fun _ => Res.ok (D.int 0)) ixA) (lCons (f2 (fun r => getV r 0) (fun _ => Res.ok (D.int 1)) ixA) lNil)) [] F__law_common) (fun _ => Res.ok (D.int 1)) eqD))) skipF)))
noncomputable def F__law_is_fraction : List D → Res D := fun ds => outR false (B__law_is_fraction (start0 N__law_is_fraction.length ds))
theorem ok__law_is_fraction {P : Program} {w : World} {K : PySem.W.Frag} {mg : Str → Option Value} {base : Heap} (T : Txt K mg) (A : DefAt K mg "_law_is_fraction" st__law_is_fraction) (c__law_common : Callee P w K mg base "_law_common" P__law_common [] 1 false [Md.sh, Md.sh] F__law_common) : Callee P w K mg base "_law_is_fraction" P__law_is_fraction [] 2 false [Md.bw] F__law_is_fraction := by
  refine mk_def (k := 1) (fs := B__law_is_fraction) (m' := [Md.bw, Md.sh]) A sc__law_is_fraction rfl (fun _ _ _ _ _ _ us hl => by obtain ⟨u0, rfl⟩ := len_1 us hl; kernel_rfl) fun f cdv A outer s H g E hr => ?_
  have hu1 := hu_of hr
  have hu64 := hr.units
  exact (ss_cons (s_if (SW.toQ (q_or (q_not (q_tru (SE.toB (s_isi "tuple" "tuple" rfl (kit_tuple _) (by rfl) T.b_isinstance (by rfl) T.b_tuple (vb_ 0))))) (q_or1 (q_ne hu64 (SE.toB (s_len (by rfl) T.b_len (b_cons (vb_ 0) b_nil))) (SE.toB s_int))))) (ss_cons (s_ret s_bl)
      ss_nil)
      ss_nil)
      (ss_cons (s_forC PassesOwn.never rfl (ic_seq (vb_ 0)) (fun _ => (g_name 1 sc__law_is_fraction.nd (by rfl) (by first | exact Or.inl rfl | exact Or.inr rfl))) (fun _ => (ss_cons (s_if (SW.toQ (q_or (q_not (q_tru (SE.toB (s_isi "int" "int" rfl (kit_int _) (by rfl) T.b_isinstance (by rfl) T.b_int (vb_ 1))))) (q_or1 (q_tru (SE.toB (s_isi "bool" "bool" rfl (kit_bool _) (by rfl) T.b_isinstance (by rfl) T.b_bool (vb_ 1))))))) (ss_cons (s_ret s_bl)
      ss_nil)
      ss_nil)
      ss_nil)))
      (ss_cons (s_ret (s_and (s_gt (SE.toB (s_ixA hu1 (vb_ 0) (SE.toB s_int))) (SE.toB s_int)) (s_one (s_eq hu64 (SE.toB (c_call (dds := []) c__law_common (hr.mono (by decide)) (m_sh (s_ixA hu1 (vb_ 0) (SE.toB s_int)) (m_sh (s_ixA hu1 (vb_ 0) (SE.toB s_int)) m_nil)))) (SE.toB s_int)))))
      ss_nil)))
noncomputable abbrev st__law_is_table : Stmt := top 21
noncomputable abbrev N__law_is_table : List Str := ["_law_found", "_law_n", "_law_m", "_law_row_here"]
noncomputable abbrev P__law_is_table : List Str := ["_law_found", "_law_n", "_law_m"]
theorem sc__law_is_table : FnScope N__law_is_table P__law_is_table (defScope st__law_is_table) := ⟨rfl, rfl, rfl, by decide +kernel, rfl, by decide +kernel, by decide +kernel⟩
noncomputable abbrev L__law_is_table_0 : FS :=
  (seqF (ifF [Md.bw, Md.bw, Md.bw, Md.sh] (fOr (fNot (fTru (f1 (fun r => getV r 3) (isiD "tuple")))) (fOr (fTest (f2 (fC (lCons (fun r => getV r 3) lNil) lenD) (fun r => getV r 2) neD)) (fNot (fTru (fC (lCons (fComp 1 [] (fSeq asSeq (fun r => getV r 3)) (ftN 0) (fun _ => Res.ok true) (callF (lCons (fun r => getV r 0) lNil) [] F__law_is_fraction)) lNil) allD))))) (seqF (retF [Md.bw, Md.bw, Md.bw, Md.sh] (fun _ => Res.ok (D.bl false))) skipF) skipF) skipF)
noncomputable def B__law_is_table : FS :=
  (seqF (ifF [Md.bw, Md.bw, Md.bw, Md.sh] (fOr (fNot (fTru (f1 (fun r => getV r 0) (isiD "tuple")))) (fTest (f2 (fC (lCons (fun r => getV r 0) lNil) lenD) (fun r => getV r 1) neD))) (seqF (retF [Md.bw, Md.bw, Md.bw, Md.sh] (fun _ => Res.ok (D.bl false))) skipF) skipF) (seqF (loopF [Md.bw, Md.bw, Md.bw, Md.sh] (fSeq asSeq (fun r => getV r 0)) (ftN 3) L__law_is_table_0) (seqF (retF [Md.bw, Md.bw, Md.bw, Md.sh] (fun _ => Res.ok (D.bl true))) skipF)))
noncomputable def F__law_is_table : List D → Res D := fun ds => outR false (B__law_is_table (start0 N__law_is_table.length ds))
theorem ok__law_is_table {P : Program} {w : World} {K : PySem.W.Frag} {mg : Str → Option Value} {base : Heap} (T : Txt K mg) (A : DefAt K mg "_law_is_table" st__law_is_table) (c__law_is_fraction : Callee P w K mg base "_law_is_fraction" P__law_is_fraction [] 2 false [Md.bw] F__law_is_fraction) : Callee P w K mg base "_law_is_table" P__law_is_table [] 3 false [Md.bw, Md.bw, Md.bw] F__law_is_table := by
  refine mk_def (k := 2) (fs := B__law_is_table) (m' := [Md.bw, Md.bw, Md.bw, Md.sh]) A sc__law_is_table rfl (fun _ _ _ _ _ _ us hl => by obtain ⟨u0, u1, u2, rfl⟩ := len_3 us hl; kernel_rfl) fun f cdv A outer s H g E hr => ?_
  have hu1 := hu_of hr
  have hu64 := hr.units
  exact (ss_cons (s_if (SW.toQ (q_or (q_not (q_tru (SE.toB (s_isi "tuple" "tuple" rfl (kit_tuple _) (by rfl) T.b_isinstance (by rfl) T.b_tuple (vb_ 0))))) (q_or1 (q_ne hu64 (SE.toB (s_len (by rfl) T.b_len (b_cons (vb_ 0) b_nil))) (vb_ 1))))) (ss_cons (s_ret s_bl)
      ss_nil)
      ss_nil)
      (ss_cons (s_forC PassesOwn.never rfl (ic_seq (vb_ 0)) (fun _ => (g_name 3 sc__law_is_table.nd (by rfl) (by first | exact Or.inl rfl | exact Or.inr rfl))) (fun _ => (ss_cons (s_if (SW.toQ (q_or (q_not (q_tru (SE.toB (s_isi "tuple" "tuple" rfl (kit_tuple _) (by rfl) T.b_isinstance (by rfl) T.b_tuple (vb_ 3))))) (q_or (q_ne hu64 (SE.toB (s_len (by rfl) T.b_len (b_cons (vb_ 3) b_nil))) (vb_ 2)) (q_or1 (q_not (q_tru (SE.toB (s_all rfl (by rfl) T.b_all (b_cons (SO.toB (o_comp (X := (cxOf CX0 P w K mg base N__law_is_table "_law_is_table" (defScope st__law_is_table) f cdv A outer s H E).nox) (N' := ["_law_one"]) (nl := 1) (cap := []) sc__law_is_table.nd rfl (compSc_of (osc := (defScope st__law_is_table)) (ON := N__law_is_table) rfl rfl (by decide +kernel)) (ic_seq (vb_ 3)) (fun _ _ _ _ _ _ => (g_name 0 (show List.Nodup (["_law_one"] : List Str) by decide +kernel) (by rfl) (by first | exact Or.inl rfl | exact Or.inr rfl))) (ftN_ok (by decide)) (fun _ _ _ _ _ _ => qs_nil) (fun _ _ _ _ _ _ => (c_call (dds := []) c__law_is_fraction (hr.mono (by decide)) (m_bw (vb_ 0) m_nil))))) b_nil))))))))) (ss_cons (s_ret s_bl)
      ss_nil)
      ss_nil)
      ss_nil)))
      (ss_cons (s_ret s_bl)
      ss_nil)))
noncomputable abbrev st__law_plus : Stmt := top 19
noncomputable abbrev N__law_plus : List Str := ["_law_a", "_law_b"]
noncomputable abbrev P__law_plus : List Str := ["_law_a", "_law_b"]
theorem sc__law_plus : FnScope N__law_plus P__law_plus (defScope st__law_plus) := ⟨rfl, rfl, rfl, by decide +kernel, rfl, by decide +kernel, by decide +kernel⟩
noncomputable def B__law_plus : FS :=
  (seqF (retF [Md.bw, Md.bw] (callF (lCons (f2 (f2 (f2 (fun r => getV r 0) (fun _ => Res.ok (D.int 0)) ixA) (f2 (fun r => getV r 1) (fun _ => Res.ok (D.int 1)) ixA) mulW) (f2 (f2 (fun r => getV r 1) (fun _ => Res.ok (D.int 0)) ixA) (f2 (fun r => getV r 0) (fun _ => Res.ok (D.int 1)) ixA) mulW) addA) (lCons (f2 (f2 (fun r => getV r 0) (fun _ => Res.ok (D.int 1)) ixA) (f2 (fun r => getV r 1) (fun _ => Res.ok (D.int 1)) ixA) mulW) lNil)) [] F__law_low)) skipF)
noncomputable def F__law_plus : List D → Res D := fun ds => outR false (B__law_plus (start0 N__law_plus.length ds))
theorem ok__law_plus {P : Program} {w : World} {K : PySem.W.Frag} {mg : Str → Option Value} {base : Heap} (T : Txt K mg) (A : DefAt K mg "_law_plus" st__law_plus) (c__law_low : Callee P w K mg base "_law_low" P__law_low [] 2 false [Md.sh, Md.sh] F__law_low) : Callee P w K mg base "_law_plus" P__law_plus [] 3 false [Md.bw, Md.bw] F__law_plus := by
  refine mk_def (k := 2) (fs := B__law_plus) (m' := [Md.bw, Md.bw]) A sc__law_plus rfl (fun _ _ _ _ _ _ us hl => by obtain ⟨u0, u1, rfl⟩ := len_2 us hl; kernel_rfl) fun f cdv A outer s H g E hr => ?_
  have hu1 := hu_of hr
  have hu64 := hr.units
  exact (ss_cons (s_ret (c_call (dds := []) c__law_low (hr.mono (by decide)) (m_sh (s_addA (SE.toB (s_mulW (SE.toB (s_ixA hu1 (vb_ 0) (SE.toB s_int))) (SE.toB (s_ixA hu1 (vb_ 1) (SE.toB s_int))))) (SE.toB (s_mulW (SE.toB (s_ixA hu1 (vb_ 1) (SE.toB s_int))) (SE.toB (s_ixA hu1 (vb_ 0) (SE.toB s_int)))))) (m_sh (s_mulW (SE.toB (s_ixA hu1 (vb_ 0) (SE.toB s_int))) (SE.toB (s_ixA hu1 (vb_ 1) (SE.toB s_int)))) m_nil))))
      ss_nil)
noncomputable abbrev st__law_mixed : Stmt := top 23
noncomputable abbrev N__law_mixed : List Str := ["_law_parts_here", "_law_n", "_law_rows", "_law_hand", "_law_row_here", "_law_part", "_law_got"]
noncomputable abbrev P__law_mixed : List Str := ["_law_parts_here", "_law_n"]
theorem sc__law_mixed : FnScope N__law_mixed P__law_mixed (defScope st__law_mixed) := ⟨rfl, rfl, rfl, by decide +kernel, rfl, by decide +kernel, by decide +kernel⟩
noncomputable abbrev L__law_mixed_0 : FS :=
  (seqF (putF [Md.bw, Md.bw, Md.ow, Md.sh, Md.ow, Md.sh, Md.sh] 4 (f2 (fun r => getV r 6) (fun r => getV r 3) ixA) (callF (lCons (f2 (fun r => getV r 4) (f2 (fun r => getV r 6) (fun r => getV r 3) ixA) ixA) (lCons (fun r => getV r 5) lNil)) [] F__law_plus)) skipF)
noncomputable abbrev L__law_mixed_1 : FS :=
  (seqF (setF [Md.bw, Md.bw, Md.ow, Md.sh, Md.sh, Md.sh, Md.sh] 4 (fComp 1 [] (fRng rng1 (lCons (fun r => getV r 1) lNil)) (ftN 0) (fun _ => Res.ok true) (mkT (lCons (fun _ => Res.ok (D.int 0)) (lCons (fun _ => Res.ok (D.int 1)) lNil))))) (seqF (loopF [Md.bw, Md.bw, Md.ow, Md.sh, Md.ow, Md.sh, Md.sh] (fSeq asSeq (fun r => getV r 0)) (ftT (ftCons (ftN 5) (ftCons (ftN 6) ftNil))) L__law_mixed_0) (seqF (mutF "list" [Md.bw, Md.bw, Md.ow, Md.sh, Md.ow, Md.sh, Md.sh] 2 (lCons (fC (lCons (fun r => getV r 4) lNil) tupD) lNil) appD) skipF)))
noncomputable def B__law_mixed : FS :=
  (seqF (setF [Md.bw, Md.bw, Md.sh, Md.sh, Md.sh, Md.sh, Md.sh] 2 (mkL lNil)) (seqF (loopF [Md.bw, Md.bw, Md.ow, Md.sh, Md.sh, Md.sh, Md.sh] (fRng rng1 (lCons (fun r => getV r 1) lNil)) (ftN 3) L__law_mixed_1) (seqF (retF [Md.bw, Md.bw, Md.ow, Md.sh, Md.sh, Md.sh, Md.sh] (fC (lCons (fun r => getV r 2) lNil) tupD)) skipF)))
noncomputable def F__law_mixed : List D → Res D := fun ds => outR false (B__law_mixed (start0 N__law_mixed.length ds))
theorem ok__law_mixed {P : Program} {w : World} {K : PySem.W.Frag} {mg : Str → Option Value} {base : Heap} (T : Txt K mg) (A : DefAt K mg "_law_mixed" st__law_mixed) (c__law_plus : Callee P w K mg base "_law_plus" P__law_plus [] 3 false [Md.bw, Md.bw] F__law_plus) : Callee P w K mg base "_law_mixed" P__law_mixed [] 4 false [Md.bw, Md.bw] F__law_mixed := by
  refine mk_def (k := 3) (fs := B__law_mixed) (m' := [Md.bw, Md.bw, Md.ow, Md.sh, Md.sh, Md.sh, Md.sh]) A sc__law_mixed rfl (fun _ _ _ _ _ _ us hl => by obtain ⟨u0, u1, rfl⟩ := len_2 us hl; kernel_rfl) fun f cdv A outer s H g E hr => ?_
  have hu1 := hu_of hr
  have hu64 := hr.units
  exact (ss_cons (s_setO 2 sc__law_mixed.nd (by rfl) (by first | exact Or.inl rfl | exact Or.inr rfl) (o_lst a_nil))
      (ss_cons (s_for PassesOwn.never rfl (i_range1 (by rfl) T.b_range (b_cons (vb_ 1) b_nil)) (g_name 3 sc__law_mixed.nd (by rfl) (by first | exact Or.inl rfl | exact Or.inr rfl)) (ss_frzEnd (m' := [Md.bw, Md.bw, Md.ow, Md.sh, Md.ow, Md.sh, Md.sh]) 4 (ss_cons (s_setComp 4 (X := (cxOf CX0 P w K mg base N__law_mixed "_law_mixed" (defScope st__law_mixed) f cdv A outer s H E).nox) (m := [Md.bw, Md.bw, Md.ow, Md.sh, Md.sh, Md.sh, Md.sh]) (N' := ["_law_thing"]) (nl := 1) (cap := []) sc__law_mixed.nd rfl (by rfl) (by rfl) (compSc_of (osc := (defScope st__law_mixed)) (ON := N__law_mixed) rfl rfl (by decide +kernel)) (SIt.toC (i_range1 (by rfl) T.b_range (b_cons (vb_ 1) b_nil))) (fun _ _ _ _ _ _ => (g_name 0 (show List.Nodup (["_law_thing"] : List Str) by decide +kernel) (by rfl) (by first | exact Or.inl rfl | exact Or.inr rfl))) (ftN_ok (by decide)) (fun _ _ _ _ _ _ => qs_nil) (fun _ _ _ _ _ _ => (s_tup (a_cons s_int (a_cons s_int a_nil)))))
      (ss_cons (s_forB PassesOwn.never rfl (i_seqB (vw_ 0)) (g_tup rfl (g_cons (g_name 5 sc__law_mixed.nd (by rfl) (by first | exact Or.inl rfl | exact Or.inr rfl)) (g_cons (g_name 6 sc__law_mixed.nd (by rfl) (by first | exact Or.inl rfl | exact Or.inr rfl)) g_nil))) (ss_cons (s_put 4 hu1 rfl (by rfl) (by first | exact Or.inl rfl | exact Or.inr (Or.inl rfl) | exact Or.inr (Or.inr rfl)) (SE.toB (s_ixA hu1 (vb_ 6) (vb_ 3))) (c_call (dds := []) c__law_plus (hr.mono (by decide)) (m_bw (SE.toB (s_ixA hu1 (vb_ 4) (SE.toB (s_ixA hu1 (vb_ 6) (vb_ 3))))) (m_bw (vb_ 5) m_nil))))
      ss_nil))
      (ss_cons (s_mut 2 rfl PySem.F.plainAttrs_list PySem.F.slot_list_append PySem.F.type_list_append mt_append app_ok (by rfl) (by first | exact Or.inl rfl | exact Or.inr (Or.inl rfl) | exact Or.inr (Or.inr rfl)) (a_cons (s_tuple (by rfl) T.b_tuple (b_cons (vb_ 4) b_nil)) a_nil))
      ss_nil))) rfl))
      (ss_cons (s_ret (s_tuple (by rfl) T.b_tuple (b_cons (vb_ 2) b_nil)))
      ss_nil)))
noncomputable abbrev st_law : Stmt := top 24
noncomputable abbrev N_law : List Str := ["_law_script", "_law_n", "_law_parts_here", "_law_kept", "_law_found"]
noncomputable abbrev P_law : List Str := ["_law_script"]
theorem sc_law : FnScope N_law P_law (defScope st_law) := ⟨rfl, rfl, rfl, by decide +kernel, rfl, by decide +kernel, by decide +kernel⟩
noncomputable def B_law : FS :=
  (seqF (setF [Md.sh, Md.sh, Md.sh, Md.sh, Md.sh] 1 (f2 (fun _ => Res.ok (D.int 1)) (f2 (callF (lCons (fun r => getV r 0) (lCons (fun _ => Res.ok (D.int 1)) lNil)) [] F__law_cell) (fun _ => Res.ok (D.int 7)) modI) addA)) (seqF (setF [Md.sh, Md.sh, Md.sh, Md.sh, Md.sh] 2 (callF (lCons (fun r => getV r 0) (lCons (fun _ => Res.ok (D.int 2)) (lCons (fun r => getV r 1) (lCons (f2 (fun _ => Res.ok (D.int 1)) (f2 (f2 (callF (lCons (fun r => getV r 0) (lCons (fun _ => Res.ok (D.int 1)) lNil)) [] F__law_cell) (fun _ => Res.ok (D.int 7)) fdivI) (fun _ => Res.ok (D.int 12)) modI) addA) lNil)))) [] F__law_parts)) (seqF (ifF [Md.sh, Md.sh, Md.sh, Md.sh, Md.sh] (fTest (f2 (f2 (f2 (callF (lCons (fun r => getV r 0) (lCons (fun _ => Res.ok (D.int 1)) lNil)) [] F__law_cell) (fun _ => Res.ok (D.int 84)) fdivI) (fun _ => Res.ok (D.int 2)) modI) (fun _ => Res.ok (D.int 1)) eqD)) (seqF (setF [Md.sh, Md.sh, Md.sh, Md.sh, Md.sh] 2 (fComp 3 [2] (fEnu (fun r => getV r 2)) (ftT (ftCons (ftN 0) (ftCons (ftT (ftCons (ftN 1) (ftCons (ftN 2) ftNil))) ftNil))) (fun _ => Res.ok true) (mkT (lCons (fun r => getV r 1) (lCons (f2 (f2 (fun r => getV r 3) (f2 (fun r => getV r 0) (fun _ => Res.ok (D.int 2)) fdivI) ixA) (fun _ => Res.ok (D.int 1)) ixA) lNil))))) skipF) skipF) (seqF (setF [Md.sh, Md.sh, Md.sh, Md.sh, Md.sh] 3 (fC (lCons (fun r => getV r 2) lNil) listD)) (seqF (setF [Md.sh, Md.sh, Md.sh, Md.sh, Md.sh] 4 (callF (lCons (fun r => getV r 2) lNil) [] F_mixed)) (seqF (retF [Md.sh, Md.sh, Md.sh, Md.sh, Md.sh] (vAnd (callF (lCons (fun r => getV r 4) (lCons (fun r => getV r 1) (lCons (fun r => getV r 1) lNil))) [] F__law_is_table) (vAnd (f2 (fun r => getV r 4) (callF (lCons (fun r => getV r 2) (lCons (fun r => getV r 1) lNil)) [] F__law_mixed) eqD) (f2 (fun r => getV r 2) (fun r => getV r 3) eqD)))) skipF))))))
noncomputable def F_law : List D → Res D := fun ds => outR false (B_law (start0 N_law.length ds))
theorem ok_law {P : Program} {w : World} {K : PySem.W.Frag} {mg : Str → Option Value} {base : Heap} (T : Txt K mg) {fa : Addr} {fd : FuncData} (A : Fun K "law" "law" st_law fa fd) (c__law_cell : Callee P w K mg base "_law_cell" P__law_cell [] 1 false [Md.bw, Md.bw] F__law_cell) (c__law_parts : Callee P w K mg base "_law_parts" P__law_parts [] 3 false [Md.bw, Md.bw, Md.bw, Md.bw] F__law_parts) (c_mixed : Callee P w K mg base "mixed" P_mixed [] 6 false [Md.bw] F_mixed) (c__law_mixed : Callee P w K mg base "_law_mixed" P__law_mixed [] 4 false [Md.bw, Md.bw] F__law_mixed) (c__law_is_table : Callee P w K mg base "_law_is_table" P__law_is_table [] 3 false [Md.bw, Md.bw, Md.bw] F__law_is_table) : FnOk P w K mg base CX0 7 fa fd P_law (spM K false [Md.sh] F_law) := by
  refine fn_def (k := 6) (fs := B_law) (m' := [Md.sh, Md.sh, Md.sh, Md.sh, Md.sh]) A sc_law rfl fun cdv A outer s H g E hr => ?_
  have hu1 := hu_of hr
  have hu64 := hr.units
  exact (ss_cons (s_set 1 sc_law.nd (by rfl) (by first | exact Or.inl rfl | exact Or.inr rfl) (s_addA (SE.toB s_int) (SE.toB (s_mod (SE.toB (c_call (dds := []) c__law_cell (hr.mono (by decide)) (m_bw (vb_ 0) (m_bw (SE.toB s_int) m_nil)))) (SE.toB s_int)))))
      (ss_cons (s_set 2 sc_law.nd (by rfl) (by first | exact Or.inl rfl | exact Or.inr rfl) (c_call (dds := []) c__law_parts (hr.mono (by decide)) (m_bw (vb_ 0) (m_bw (SE.toB s_int) (m_bw (vb_ 1) (m_bw (SE.toB (s_addA (SE.toB s_int) (SE.toB (s_mod (SE.toB (s_fdiv (SE.toB (c_call (dds := []) c__law_cell (hr.mono (by decide)) (m_bw (vb_ 0) (m_bw (SE.toB s_int) m_nil)))) (SE.toB s_int))) (SE.toB s_int))))) m_nil))))))
      (ss_cons (s_if (q_eq hu64 (SE.toB (s_mod (SE.toB (s_fdiv (SE.toB (c_call (dds := []) c__law_cell (hr.mono (by decide)) (m_bw (vb_ 0) (m_bw (SE.toB s_int) m_nil)))) (SE.toB s_int))) (SE.toB s_int))) (SE.toB s_int)) (ss_cons (s_set 2 sc_law.nd (by rfl) (by first | exact Or.inl rfl | exact Or.inr rfl) (SO.toE (o_comp (X := (cxOf CX0 P w K mg base N_law "law" (defScope st_law) fa cdv A outer s H E).nox) (N' := ["_law_k", "_law_part", "_law_got", "_law_parts_here"]) (nl := 3) (cap := [2]) sc_law.nd rfl (compSc_of (osc := (defScope st_law)) (ON := N_law) rfl rfl (by decide +kernel)) (SIt.toC (i_enum (by rfl) T.b_enumerate (v_ 2))) (fun _ _ _ _ _ _ => (g_tup rfl (g_cons (g_name 0 (show List.Nodup (["_law_k", "_law_part", "_law_got", "_law_parts_here"] : List Str) by decide +kernel) (by rfl) (by first | exact Or.inl rfl | exact Or.inr rfl)) (g_cons (g_tup rfl (g_cons (g_name 1 (show List.Nodup (["_law_k", "_law_part", "_law_got", "_law_parts_here"] : List Str) by decide +kernel) (by rfl) (by first | exact Or.inl rfl | exact Or.inr rfl)) (g_cons (g_name 2 (show List.Nodup (["_law_k", "_law_part", "_law_got", "_law_parts_here"] : List Str) by decide +kernel) (by rfl) (by first | exact Or.inl rfl | exact Or.inr rfl)) g_nil))) g_nil)))) (ftT_ok (ftCons_ok (ftN_ok (by decide)) (ftCons_ok (ftT_ok (ftCons_ok (ftN_ok (by decide)) (ftCons_ok (ftN_ok (by decide)) ftNil_ok))) ftNil_ok))) (fun _ _ _ _ _ _ => qs_nil) (fun _ _ _ _ _ _ => (s_tup (a_cons (v_ 1) (a_cons (s_ixA hu1 (SE.toB (s_ixA hu1 (vb_ 3) (SE.toB (s_fdiv (vb_ 0) (SE.toB s_int))))) (SE.toB s_int)) a_nil)))))))
      ss_nil)
      ss_nil)
      (ss_cons (s_set 3 sc_law.nd (by rfl) (by first | exact Or.inl rfl | exact Or.inr rfl) (SO.toE (o_list (by rfl) T.b_list (b_cons (vb_ 2) b_nil))))
      (ss_cons (s_set 4 sc_law.nd (by rfl) (by first | exact Or.inl rfl | exact Or.inr rfl) (c_call (dds := []) c_mixed (hr.mono (by decide)) (m_bw (vb_ 2) m_nil)))
      (ss_cons (s_ret (s_and (c_call (dds := []) c__law_is_table (hr.mono (by decide)) (m_bw (vb_ 4) (m_bw (vb_ 1) (m_bw (vb_ 1) m_nil)))) (s_and (s_eq hu64 (vb_ 4) (SE.toB (c_call (dds := []) c__law_mixed (hr.mono (by decide)) (m_bw (vb_ 2) (m_bw (vb_ 1) m_nil))))) (s_one (s_eq hu64 (vb_ 2) (vb_ 3))))))
      ss_nil))))))
end Law
end
section
set_option Elab.async false
set_option linter.all false
set_option maxRecDepth 100000
set_option maxHeartbeats 1000000
namespace Law
open PySem L2 DL
noncomputable abbrev nD (k : Nat) : D := .int (k : Int)
noncomputable abbrev LN (l : List Nat) : D := .lst (l.map nD)
noncomputable abbrev TN (l : List Nat) : D := .tup (l.map nD)
theorem szOk {ds : List D} (h : ds.length ≤ 1000) : sz ds = some ds := sz_ok (Nat.le_trans h (by rw [sizeLine_eq]; decide))
@[simp] theorem addA_int (a b : Int) : addA (.int a) (.int b) = some (.int (a + b)) := rfl
theorem mulI_ok {a b : Int} (h : CMul a b) : mulI (.int a) (.int b) = some (.int (a * b)) := by rw [mulI, intsC_int, if_pos h]
theorem modI_ok {a b : Int} (h : 0 < b) : modI (.int a) (.int b) = some (.int (a % b)) := by rw [modI, intsC_int, if_pos h]
theorem fdivI_ok {a b : Int} (h : CDiv a b) : fdivI (.int a) (.int b) = some (.int (a / b)) := by rw [fdivI, intsC_int, if_pos h]
theorem seq_nx {s1 s2 : FS} {r r' : Rho} (h : s1 r = .nx r') : seqF s1 s2 r = s2 r' := by unfold seqF; rw [h]
theorem seq_rt {s1 s2 : FS} {r : Rho} {d : D} (h : s1 r = .rt d) : seqF s1 s2 r = .rt d := by unfold seqF; rw [h]
theorem set_ok {m : List Md} {i : Nat} {f : FE} {r : Rho} {d : D} (h : f r = .ok d) : setF m i f r = .nx (r.set i (some d)) := by unfold setF; rw [h]; rfl
theorem ret_ok {m : List Md} {f : FE} {r : Rho} {d : D} (h : f r = .ok d) : retF m f r = .rt d := by unfold retF; rw [h]; rfl
theorem if_ok {m : List Md} {p : FQ} {s1 s2 : FS} {r : Rho} {b : Bool} (h : p r = .ok b) : ifF m p s1 s2 r = if b = true then s1 r else s2 r := by unfold ifF; rw [h]; rfl
theorem if_t {m : List Md} {p : FQ} {s1 s2 : FS} {r : Rho} (h : p r = .ok true) : ifF m p s1 s2 r = s1 r := by rw [if_ok h, if_pos rfl]
theorem if_f {m : List Md} {p : FQ} {s1 s2 : FS} {r : Rho} (h : p r = .ok false) : ifF m p s1 s2 r = s2 r := by rw [if_ok h, if_neg Bool.false_ne_true]
theorem mkT_ok {fl : Rho → Res (List D)} {r : Rho} {ds : List D} (h : fl r = .ok ds) (hl : ds.length ≤ 1000) : mkT fl r = .ok (.tup ds) := by unfold mkT; rw [h, bind_ok, szOk hl]; rfl
theorem mkL_ok {fl : Rho → Res (List D)} {r : Rho} {ds : List D} (h : fl r = .ok ds) (hl : ds.length ≤ 1000) : mkL fl r = .ok (.lst ds) := by unfold mkL; rw [h, bind_ok, szOk hl]; rfl
theorem appD_ok {ds : List D} {d : D} (h : ds.length ≤ 1000) : appD (.lst ds) [d] = some (.lst (ds ++ [d])) := by
  show (if ds.length < sizeLine then some (D.lst (ds ++ [d])) else none) = _
  rw [if_pos (by rw [sizeLine_eq]; omega)]
theorem call_ok {fl : Rho → Res (List D)} {dds zs : List D} {F : List D → Res D} {r : Rho} {d : D} (h1 : fl r = .ok zs) (h2 : F (zs ++ dds) = .ok d) : callF fl dds F r = .ok d := by unfold callF; rw [h1, bind_ok, h2]; rfl
theorem f1_ok {f : FE} {k : D → Option D} {r : Rho} {a d : D} (h1 : f r = .ok a) (h2 : k a = some d) : f1 f k r = .ok d := by unfold f1; rw [h1, bind_ok, h2]; rfl
theorem f2_ok {f f' : FE} {k : D → D → Option D} {r : Rho} {a b d : D} (h1 : f r = .ok a) (h2 : f' r = .ok b) (h3 : k a b = some d) : f2 f f' k r = .ok d := by unfold f2; rw [h1, bind_ok, h2, bind_ok, h3]; rfl
theorem fC_ok {fl : Rho → Res (List D)} {k : List D → Option D} {r : Rho} {ds : List D} {d : D} (h1 : fl r = .ok ds) (h2 : k ds = some d) : fC fl k r = .ok d := by unfold fC; rw [h1, bind_ok, h2]; rfl
theorem lc_ok {f : FE} {fl : Rho → Res (List D)} {r : Rho} {d : D} {ds : List D} (h1 : f r = .ok d) (h2 : fl r = .ok ds) : lCons f fl r = .ok (d :: ds) := by unfold lCons; rw [h1, bind_ok, h2]; rfl
theorem ln_ok {r : Rho} : lNil r = .ok [] := rfl
theorem test_ok {f : FE} {r : Rho} {b : Bool} (h : f r = .ok (.bl b)) : fTest f r = .ok b := by unfold fTest; rw [h]; rfl
theorem tru_ok' {f : FE} {r : Rho} {d : D} {b : Bool} (h : f r = .ok d) (h2 : truD d = some b) : fTru f r = .ok b := by unfold fTru; rw [h, bind_ok, h2]; rfl
theorem not_ok {p : FQ} {r : Rho} {b : Bool} (h : p r = .ok b) : fNot p r = .ok (!b) := by unfold fNot; rw [h]; rfl
theorem and_t {p q : FQ} {r : Rho} (h : p r = .ok true) : fAnd p q r = q r := by unfold fAnd; rw [h]; rfl
theorem and_f {p q : FQ} {r : Rho} (h : p r = .ok false) : fAnd p q r = .ok false := by unfold fAnd; rw [h]; rfl
theorem or_f {p q : FQ} {r : Rho} (h : p r = .ok false) : fOr p q r = q r := by unfold fOr; rw [h]; rfl
theorem vand_t {f f' : FE} {r : Rho} (h : f r = .ok (.bl true)) : vAnd f f' r = f' r := by unfold vAnd; rw [h]; rfl
theorem loop_ok {m : List Md} {fi : FI} {ft : FT} {b : FS} {r : Rho} {ds : List D} (h : fi r = .ok ds) : loopF m fi ft b r = forF ft b ds r := by unfold loopF; rw [h]; rfl
theorem seq_ok {f : FE} {r : Rho} {d : D} {ds : List D} (h : f r = .ok d) (h2 : asSeq d = some ds) : fSeq asSeq f r = .ok ds := by unfold fSeq; rw [h, bind_ok, h2]; rfl
theorem for_nil {ft : FT} {b : FS} {r : Rho} : forF ft b [] r = .nx r := by unfold forF; rfl
theorem for_nx {ft : FT} {b : FS} {r r1 r' : Rho} {d : D} {ds : List D} (h1 : ft d r = some r1) (h2 : b r1 = .nx r') : forF ft b (d :: ds) r = forF ft b ds r' := by
  conv => lhs; unfold forF
  simp only [h1, h2]
theorem while_f {m : List Md} {p : FQ} {b : FS} {n : Nat} {r : Rho} (h : p r = .ok false) : whileF m p b (n + 1) r = .nx r := by unfold whileF; rw [h]; rfl
theorem while_t {m : List Md} {p : FQ} {b : FS} {n : Nat} {r r' : Rho} (h : p r = .ok true) (h2 : b r = .nx r') : whileF m p b (n + 1) r = whileF m p b n r' := by
  conv => lhs; unfold whileF
  rw [h, onE_ok, if_pos rfl, h2]
theorem mut_ok {T : String} {m : List Md} {i : Nat} {fl : Rho → Res (List D)} {mk : D → List D → Option D} {r : Rho} {d d' : D} {ds : List D} (h1 : r[i]? = some (some d)) (h2 : tyB T d = true) (h3 : fl r = .ok ds) (h4 : mk d ds = some d') : mutF T m i fl mk r = .nx (r.set i (some d')) := by
  unfold mutF; rw [h1]; simp only [h2, if_true, h3, onE_ok, h4]
theorem put_ok {m : List Md} {i : Nat} {fk fv : FE} {r : Rho} {d k v d' : D} (h1 : r[i]? = some (some d)) (h2 : fv r = .ok v) (h3 : fk r = .ok k) (h4 : stoD d k v = some d') : DL.putF m i fk fv r = .nx (r.set i (some d')) := by
  unfold DL.putF; rw [h2, onE_ok]; simp only [h1, h3, onE_ok, h4]
theorem compF_nil {ft : FT} {q : FQ} {fe : FE} {r0 : Rho} : compF ft q fe r0 [] = .ok [] := by unfold compF; rfl
theorem compF_map {ft : FT} {q : FQ} {fe : FE} {r0 : Rho} {α : Type} (e : α → D) (keep : α → Bool) (g : α → D) : ∀ (l : List α), (∀ a ∈ l, ∃ r1, ft (e a) r0 = some r1 ∧ q r1 = .ok (keep a) ∧ (keep a = true → fe r1 = .ok (g a))) → compF ft q fe r0 (l.map e) = .ok ((l.filter keep).map g)
  | [], _ => compF_nil
  | a :: l, h => by
    obtain ⟨r1, h1, h2, h3⟩ := h a List.mem_cons_self
    have ih := compF_map (ft := ft) (q := q) (fe := fe) (r0 := r0) e keep g l fun b hb => h b (List.mem_cons_of_mem _ hb)
    rw [List.map_cons]
    conv => lhs; unfold compF
    rw [h1, opt_some, bind_ok, h2, bind_ok]
    cases k : keep a with
    | true => rw [if_pos rfl, h3 k, bind_ok, ih, bind_ok, List.filter_cons, if_pos k]; rfl
    | false => rw [if_neg Bool.false_ne_true, ih, List.filter_cons, if_neg (by rw [k]; exact Bool.false_ne_true)]
theorem comp_ok {nl : Nat} {cap : List Nat} {fi : FI} {ft : FT} {q : FQ} {fe : FE} {r : Rho} {α : Type} {l : List α} (e : α → D) (keep : α → Bool) (g : α → D) (h1 : fi r = .ok (l.map e)) (hl : l.length ≤ 1000)
    (h : ∀ a ∈ l, ∃ r1, ft (e a) (capR nl cap r) = some r1 ∧ q r1 = .ok (keep a) ∧ (keep a = true → fe r1 = .ok (g a))) : fComp nl cap fi ft q fe r = .ok (.lst ((l.filter keep).map g)) := by
  unfold fComp
  rw [h1, bind_ok, szOk (by simpa using hl), opt_some, bind_ok, compF_map e keep g l h, noXL_ok, bind_ok]
theorem ltI_n (a b : Nat) : ltI (nD a) (nD b) = some (.bl (decide (a < b))) := by
  show some (D.bl (decide ((a : Int) < (b : Int)))) = _
  simp only [Int.ofNat_lt]
theorem gtI_n (a b : Nat) : gtI (nD a) (nD b) = some (.bl (decide (b < a))) := by
  show some (D.bl (decide ((b : Int) < (a : Int)))) = _
  simp only [Int.ofNat_lt]
theorem eqD_n (a b : Nat) : eqD (nD a) (nD b) = some (.bl (decide (a = b))) := by
  unfold eqD
  rw [eqB_int]
  show some (D.bl ((a : Int) == (b : Int))) = _
  have : ((a : Int) == (b : Int)) = decide (a = b) := by rw [Bool.eq_iff_iff, beq_iff_eq, decide_eq_true_iff]; exact Int.ofNat_inj
  rw [this]
theorem neD_n (a b : Nat) : neD (nD a) (nD b) = some (.bl (!decide (a = b))) := by
  unfold neD
  rw [eqB_int]
  show some (D.bl (!((a : Int) == (b : Int)))) = _
  have : ((a : Int) == (b : Int)) = decide (a = b) := by rw [Bool.eq_iff_iff, beq_iff_eq, decide_eq_true_iff]; exact Int.ofNat_inj
  rw [this]
theorem run_of {B : FS} {n : Nat} {ds : List D} {d : D} (h : B (start0 n ds) = .rt d) : outR false (B (start0 n ds)) = .ok d := by rw [h]; rfl
@[simp] theorem e_seq (s1 s2 : FS) (r : Rho) : seqF s1 s2 r = (match s1 r with | .nx r' => s2 r' | o => o) := rfl
@[simp] theorem e_skip (r : Rho) : skipF r = .nx r := rfl
@[simp] theorem e_set (m : List Md) (i : Nat) (f : FE) (r : Rho) : setF m i f r = onE m r (f r) fun d => .nx (r.set i (some d)) := rfl
@[simp] theorem e_ret (m : List Md) (f : FE) (r : Rho) : retF m f r = onE m r (f r) fun d => .rt d := rfl
@[simp] theorem e_if (m : List Md) (p : FQ) (s1 s2 : FS) (r : Rho) : ifF m p s1 s2 r = onE m r (p r) fun c => if c = true then s1 r else s2 r := rfl
@[simp] theorem e_getV (r : Rho) (i : Nat) : getV r i = (match r[i]? with | some (some d) => .ok d | _ => .stuck) := rfl
@[simp] theorem e_f1 (f : FE) (k : D → Option D) (r : Rho) : f1 f k r = (f r).bind fun d => opt (k d) := rfl
@[simp] theorem e_f2 (f f' : FE) (k : D → D → Option D) (r : Rho) : f2 f f' k r = (f r).bind fun a => (f' r).bind fun b => opt (k a b) := rfl
@[simp] theorem e_fC (fl : Rho → Res (List D)) (k : List D → Option D) (r : Rho) : fC fl k r = (fl r).bind fun ds => opt (k ds) := rfl
@[simp] theorem e_lN (r : Rho) : lNil r = .ok [] := rfl
@[simp] theorem e_lC (f : FE) (fl : Rho → Res (List D)) (r : Rho) : lCons f fl r = (f r).bind fun d => (fl r).bind fun ds => .ok (d :: ds) := rfl
@[simp] theorem e_test (f : FE) (r : Rho) : fTest f r = (f r).bind fun d => opt (asB d) := rfl
@[simp] theorem e_tru (f : FE) (r : Rho) : fTru f r = (f r).bind fun d => opt (truD d) := rfl
@[simp] theorem e_not (p : FQ) (r : Rho) : fNot p r = (p r).bind fun c => .ok (!c) := rfl
@[simp] theorem e_and (p q : FQ) (r : Rho) : fAnd p q r = (p r).bind fun c => if c = true then q r else .ok false := rfl
@[simp] theorem e_or (p q : FQ) (r : Rho) : fOr p q r = (p r).bind fun c => if c = true then .ok true else q r := rfl
@[simp] theorem e_vand (f f' : FE) (r : Rho) : vAnd f f' r = (f r).bind fun d => (opt (asB d)).bind fun c => if c = true then f' r else .ok (.bl false) := rfl
@[simp] theorem e_vor (f f' : FE) (r : Rho) : vOr f f' r = (f r).bind fun d => (opt (asB d)).bind fun c => if c = true then .ok (.bl true) else f' r := rfl
@[simp] theorem e_vnot (f : FE) (r : Rho) : vNot f r = (f r).bind fun d => (opt (asB d)).bind fun c => .ok (.bl (!c)) := rfl
@[simp] theorem e_fIf (p : FQ) (f f' : FE) (r : Rho) : fIf p f f' r = (p r).bind fun c => if c = true then f r else f' r := rfl
@[simp] theorem e_call (fl : Rho → Res (List D)) (dds : List D) (F : List D → Res D) (r : Rho) : callF fl dds F r = (fl r).bind fun ds => noX (F (ds ++ dds)) := rfl
@[simp] theorem e_asB (b : Bool) : asB (.bl b) = some b := rfl
@[simp] theorem e_truB (b : Bool) : truD (.bl b) = some b := rfl
@[simp] theorem e_truL (ds : List D) : truD (.lst ds) = some (!ds.isEmpty) := rfl
@[simp] theorem e_loop (m : List Md) (fi : FI) (ft : FT) (b : FS) (r : Rho) : loopF m fi ft b r = onE m r (fi r) fun ds => forF ft b ds r := rfl
@[simp] theorem e_fSeq (k : D → Option (List D)) (f : FE) (r : Rho) : fSeq k f r = (f r).bind fun d => opt (k d) := rfl
@[simp] theorem e_asL (ds : List D) : asSeq (.lst ds) = some ds := rfl
@[simp] theorem e_asT (ds : List D) : asSeq (.tup ds) = some ds := rfl
@[simp] theorem e_mkT (fl : Rho → Res (List D)) (r : Rho) : mkT fl r = (fl r).bind fun ds => (opt (sz ds)).bind fun ds => .ok (.tup ds) := rfl
@[simp] theorem e_mkL (fl : Rho → Res (List D)) (r : Rho) : mkL fl r = (fl r).bind fun ds => (opt (sz ds)).bind fun ds => .ok (.lst ds) := rfl
@[simp] theorem e_sz0 : sz [] = some [] := szOk (by simp)
@[simp] theorem e_sz1 (a : D) : sz [a] = some [a] := szOk (by simp)
@[simp] theorem e_sz2 (a b : D) : sz [a, b] = some [a, b] := szOk (by simp)
@[simp] theorem e_sz3 (a b c : D) : sz [a, b, c] = some [a, b, c] := szOk (by simp)
@[simp] theorem e_lenL (ds : List D) : lenD [.lst ds] = some (.int ds.length) := rfl
@[simp] theorem e_lenT (ds : List D) : lenD [.tup ds] = some (.int ds.length) := rfl
@[simp] theorem e_lenK (ds : List (Key × D)) : lenD [.dic ds] = some (.int ds.length) := rfl
@[simp] theorem e_tupL (ds : List D) : tupD [.lst ds] = some (.tup ds) := rfl
@[simp] theorem e_listL (ds : List D) : listD [.lst ds] = some (.lst ds) := rfl
@[simp] theorem e_listT (ds : List D) : listD [.tup ds] = some (.lst ds) := rfl
@[simp] theorem e_isNN : isD .non .non = some (.bl true) := rfl
@[simp] theorem e_isLN (ds : List D) : isD (.lst ds) .non = some (.bl false) := rfl
@[simp] theorem e_isn1 : isnD .non .non = some (.bl false) := rfl
@[simp] theorem e_isn2 (i : Int) : isnD (.int i) .non = some (.bl true) := rfl
@[simp] theorem e_isn3 (ds : List D) : isnD (.tup ds) .non = some (.bl true) := rfl
@[simp] theorem e_valsD (kvs : List (Key × D)) : valsD (.dic kvs) = some (.lst (kvs.map (·.2))) := rfl
theorem ixA_T {ds : List D} {i : Nat} {d : D} (h : ds[i]? = some d) : ixA (.tup ds) (nD i) = some d := by
  have hl : i < ds.length := (List.getElem?_eq_some_iff.mp h).1
  show atI ds (i : Int) = some d
  unfold atI ixN
  rw [if_pos (Int.natCast_nonneg i), if_pos (by omega)]
  simpa using h
theorem ixA_L {ds : List D} {i : Nat} {d : D} (h : ds[i]? = some d) : ixA (.lst ds) (nD i) = some d := by
  have hl : i < ds.length := (List.getElem?_eq_some_iff.mp h).1
  show atI ds (i : Int) = some d
  unfold atI ixN
  rw [if_pos (Int.natCast_nonneg i), if_pos (by omega)]
  simpa using h
@[simp] theorem ixA_L0 (d : D) (ds : List D) : ixA (.lst (d :: ds)) (.int 0) = some d := ixA_L (i := 0) rfl
@[simp] theorem ixA_T0 (d : D) (ds : List D) : ixA (.tup (d :: ds)) (.int 0) = some d := ixA_T (i := 0) rfl
end Law
end
section
set_option Elab.async false
set_option linter.all false
set_option maxRecDepth 100000
set_option maxHeartbeats 1000000
namespace Law
open PySem L2 DL
theorem lenT_map {α : Type} (f : α → D) (l : List α) : lenD [.tup (l.map f)] = some (nD l.length) := by
  show some (D.int ((l.map f).length : Int)) = _
  rw [List.length_map]
theorem lenL_map {α : Type} (f : α → D) (l : List α) : lenD [.lst (l.map f)] = some (nD l.length) := by
  show some (D.int ((l.map f).length : Int)) = _
  rw [List.length_map]
theorem eqD_same (n : Nat) : eqD (nD n) (nD n) = some (.bl true) := by
  have e := eqD_n n n
  rw [decide_eq_true rfl] at e; exact e
theorem rngD_n (n : Nat) : rngD 0 n = (List.range n).map nD := by
  unfold rngD
  refine List.map_congr_left fun i _ => ?_
  show D.int (0 + (i : Int)) = D.int (i : Int)
  rw [Int.zero_add]
theorem rng1_eq (j : Int) : rng1 [.int j] = if -(2 ^ 62) ≤ j ∧ j < 2 ^ 62 then some (rngD 0 j.toNat) else none := rfl
theorem rng1_n {n : Nat} (h : n ≤ 1000) : rng1 [nD n] = some ((List.range n).map nD) := by
  rw [rng1_eq, if_pos ⟨by omega, by omega⟩, Int.toNat_natCast, rngD_n]
theorem fRng_ok {fl : Rho → Res (List D)} {k : List D → Option (List D)} {r : Rho} {ds es : List D} (h1 : fl r = .ok ds) (h2 : k ds = some es) : fRng k fl r = .ok es := by unfold fRng; rw [h1, bind_ok, h2]; rfl
noncomputable def own (owns : List (Option Nat)) (h : Nat) : Option Nat := (owns[h]?).join
end Law
end
section
set_option Elab.async false
set_option linter.all false
set_option maxRecDepth 100000
set_option maxHeartbeats 1000000
namespace Law
open PySem L2 DL
noncomputable def putN (kvs : List (Nat × Nat)) (k v : Nat) : List (Nat × Nat) := if k ∈ kvs.map (·.1) then kvs.map fun p => if p.1 = k then (p.1, v) else p else kvs ++ [(k, v)]
theorem putN_keys (kvs : List (Nat × Nat)) (k v j : Nat) : j ∈ (putN kvs k v).map (·.1) ↔ j ∈ kvs.map (·.1) ∨ j = k := by
  unfold putN
  by_cases h : k ∈ kvs.map (·.1)
  · rw [if_pos h, List.map_map]
    have : ((fun p : Nat × Nat => p.1) ∘ fun p => if p.1 = k then (p.1, v) else p) = fun p => p.1 := by
      funext p
      simp only [Function.comp_apply]
      split <;> rfl
    rw [this]
    constructor
    · exact .inl
    · rintro (z | rfl)
      · exact z
      · exact h
  · rw [if_neg h]; simp
theorem putN_all {kvs : List (Nat × Nat)} {k v : Nat} {f : Nat → Nat} (h : ∀ p ∈ kvs, p.2 = f p.1) (hv : v = f k) : ∀ p ∈ putN kvs k v, p.2 = f p.1 := by
  intro p hp
  unfold putN at hp
  split at hp
  · obtain ⟨q, h1, rfl⟩ := List.mem_map.mp hp
    split
    · rename_i e; simp only; rw [e]; exact hv
    · exact h q h1
  · rcases List.mem_append.mp hp with z | z
    · exact h p z
    · rw [List.mem_singleton.mp z]; exact hv
structure GI (t : Nat → Nat) (kvs : List (Nat × Nat)) (L : List Nat) : Prop where
  nd : (kvs.map (·.1)).Nodup
  val : ∀ p ∈ kvs, p.2 = t p.1
  key : ∀ h, h ∈ kvs.map (·.1) ↔ h ∈ L
theorem putN_nd {kvs : List (Nat × Nat)} {k v : Nat} (h : (kvs.map (·.1)).Nodup) : ((putN kvs k v).map (·.1)).Nodup := by
  unfold putN
  split
  · rw [List.map_map]
    have : ((fun p : Nat × Nat => p.1) ∘ fun p => if p.1 = k then (p.1, v) else p) = fun p => p.1 := by
      funext p
      simp only [Function.comp_apply]
      split <;> rfl
    rw [this]; exact h
  · rename_i hk
    rw [List.map_append]
    refine List.nodup_append.mpr ⟨h, by simp, fun a ha b hb => ?_⟩
    simp at hb
    rintro rfl
    exact hk (hb ▸ ha)
theorem GI.put {t : Nat → Nat} {kvs : List (Nat × Nat)} {L : List Nat} (g : GI t kvs L) (k : Nat) : GI t (putN kvs k (t k)) (L ++ [k]) :=
  ⟨putN_nd g.nd, putN_all g.val rfl, fun h => by rw [putN_keys, g.key]; simp⟩
theorem GI.len {t : Nat → Nat} {kvs : List (Nat × Nat)} {L line : List Nat} (g : GI t kvs L) (hs : ∀ h ∈ L, h ∈ line) : kvs.length ≤ line.length := by
  have := Rg.len_le_of_sub (m := line) g.nd fun h hh => hs h ((g.key h).mp hh)
  simpa using this
theorem GI.congr {t t' : Nat → Nat} {kvs : List (Nat × Nat)} {L : List Nat} (g : GI t kvs L) (h : ∀ x ∈ L, t' x = t x) : GI t' kvs L :=
  ⟨g.nd, fun p hp => by rw [g.val p hp, h p.1 ((g.key _).mp (List.mem_map.mpr ⟨p, hp, rfl⟩))], g.key⟩
theorem GI.mem {t : Nat → Nat} {kvs : List (Nat × Nat)} {L M : List Nat} (g : GI t kvs L) (h : ∀ x, x ∈ L ↔ x ∈ M) : GI t kvs M := ⟨g.nd, g.val, fun x => (g.key x).trans (h x)⟩
theorem GI.nil (t : Nat → Nat) : GI t [] [] := ⟨by simp, fun _ hp => (nomatch hp), fun h => by simp⟩
theorem filt_true {α : Type} (l : List α) : l.filter (fun _ => true) = l := List.filter_eq_self.mpr fun _ _ => rfl
end Law
end
section
set_option Elab.async false
set_option linter.all false
set_option maxRecDepth 100000
set_option maxHeartbeats 1000000
namespace Law
open PySem L2 DL
theorem modI_n {a b : Nat} (h : 0 < b) : modI (nD a) (nD b) = some (nD (a % b)) := by
  rw [modI_ok (by omega : (0 : Int) < (b : Int))]
  show some (D.int _) = some (D.int _)
  rw [Int.natCast_emod]
theorem fdivI_n {a b : Nat} (h : 0 < b) (h2 : b < 1000) : fdivI (nD a) (nD b) = some (nD (a / b)) := by
  rw [fdivI_ok (⟨by omega, by omega⟩ : CDiv (a : Int) (b : Int))]
  show some (D.int _) = some (D.int _)
  rw [Int.natCast_ediv]
theorem addA_n (a b : Nat) : addA (nD a) (nD b) = some (nD (a + b)) := by
  rw [addA_int]
  show some (D.int _) = some (D.int _)
  rw [Int.natCast_add]
section
variable {f f' : FE} {r : Rho}
theorem exMod {b : Int} (h : ∃ i : Int, f r = .ok (.int i)) (h' : f' r = .ok (.int b)) (hb : 0 < b) : ∃ c : Nat, f2 f f' modI r = .ok (nD c) := by
  obtain ⟨i, hi⟩ := h
  refine ⟨(i % b).toNat, f2_ok hi h' ?_⟩
  rw [modI_ok hb]
  show some (D.int _) = some (D.int _)
  rw [Int.toNat_of_nonneg (Int.emod_nonneg _ (by omega))]
theorem exN (h : ∃ c : Nat, f r = .ok (nD c)) : ∃ i : Int, f r = .ok (.int i) := let ⟨c, e⟩ := h; ⟨c, e⟩
theorem exMulR {b : Int} (h : ∃ i : Int, f r = .ok (.int i)) (h' : f' r = .ok (.int b)) (hb : -(2 ^ 64) < b ∧ b < 2 ^ 64) : ∃ i : Int, f2 f f' mulI r = .ok (.int i) := by
  obtain ⟨i, hi⟩ := h
  exact ⟨i * b, f2_ok hi h' (mulI_ok (.inr hb))⟩
theorem exAdd (h : ∃ i : Int, f r = .ok (.int i)) (h' : ∃ i : Int, f' r = .ok (.int i)) : ∃ i : Int, f2 f f' addA r = .ok (.int i) := by
  obtain ⟨i, hi⟩ := h
  obtain ⟨j, hj⟩ := h'
  exact ⟨i + j, f2_ok hi hj rfl⟩
end
theorem exSet {m : List Md} {i : Nat} {f : FE} {s2 : FS} {r : Rho} (h : ∃ c : Nat, f r = .ok (nD c)) (k : ∀ c : Nat, ∃ d : Nat, s2 (r.set i (some (nD c))) = .rt (nD d)) : ∃ d : Nat, seqF (setF m i f) s2 r = .rt (nD d) := by
  obtain ⟨c, hc⟩ := h
  obtain ⟨d, hd⟩ := k c
  exact ⟨d, (seq_nx (set_ok hc)).trans hd⟩
noncomputable abbrev IN (ns : List Int) : D := .lst (ns.map .int)
theorem run_cell (ns : List Int) (k : Nat) (hk : k ≤ 1000) : ∃ c : Nat, F__law_cell [IN ns, nD k] = .ok (nD c) := by
  suffices h : ∃ c : Nat, B__law_cell (start0 4 [IN ns, nD k]) = .rt (nD c) by
    obtain ⟨c, hc⟩ := h
    exact ⟨c, run_of (B := B__law_cell) (n := 4) hc⟩
  unfold B__law_cell
  have st : seqF (setF [Md.bw, Md.bw, Md.sh, Md.sh] 2 (fun _ => Res.ok (D.int 0))) = seqF (setF [Md.bw, Md.bw, Md.sh, Md.sh] 2 (fun _ => Res.ok (nD 0))) := rfl
  rw [st]
  refine exSet ⟨0, rfl⟩ fun c1 => ?_
  show ∃ d : Nat, seqF _ _ [some (IN ns), some (nD k), some (nD c1), none] = _
  have key : ∃ c2 : Nat, (ifF [Md.bw, Md.bw, Md.sh, Md.sh] (fTest (f2 (fun r => getV r 1) (fC (lCons (fun r => getV r 0) lNil) lenD) ltI)) (seqF (setF [Md.bw, Md.bw, Md.sh, Md.sh] 2 (f2 (f2 (fun r => getV r 0) (fun r => getV r 1) ixA) (f2 (fun _ => Res.ok (D.int 10)) (fun _ => Res.ok (D.int 60)) powI) modI)) skipF) skipF) [some (IN ns), some (nD k), some (nD c1), none] = .nx [some (IN ns), some (nD k), some (nD c2), none] := by
    have t := test_ok (f2_ok (f := fun r => getV r 1) (r := [some (IN ns), some (nD k), some (nD c1), none]) (a := nD k) rfl (fC_ok (lc_ok (f := fun r => getV r 0) (d := IN ns) rfl ln_ok) (lenL_map _ _)) (ltI_n k ns.length))
    by_cases hlt : k < ns.length
    · rw [decide_eq_true hlt] at t
      have hx : (ns.map D.int)[k]? = some (.int ns[k]) := by rw [List.getElem?_map, List.getElem?_eq_getElem hlt]; rfl
      have hp : powI (.int 10) (.int 60) = some (.int (10 ^ 60)) := by
        show intsC CPow _ _ _ = _
        rw [intsC_int, if_pos (by unfold CPow; decide)]
        rfl
      obtain ⟨c2, h2⟩ := exMod (f := f2 (fun r => getV r 0) (fun r => getV r 1) ixA) (f' := f2 (fun _ => Res.ok (D.int 10)) (fun _ => Res.ok (D.int 60)) powI) (r := [some (IN ns), some (nD k), some (nD c1), none]) ⟨ns[k], f2_ok (a := IN ns) (b := nD k) rfl rfl (ixA_L hx)⟩ (f2_ok rfl rfl hp) (by decide)
      exact ⟨c2, (if_t t).trans ((seq_nx (set_ok h2)).trans rfl)⟩
    · rw [decide_eq_false hlt] at t
      exact ⟨c1, (if_f t).trans rfl⟩
  obtain ⟨c2, h2⟩ := key
  rw [seq_nx h2]
  have kq : ∃ b, (fAnd (fTest (f2 (fC (lCons (fun r => getV r 0) lNil) lenD) (fun _ => Res.ok (D.int 0)) gtI)) (fTest (f2 (f2 (f2 (fun r => getV r 0) (fun _ => Res.ok (D.int 0)) ixA) (fun _ => Res.ok (D.int 2)) modI) (fun _ => Res.ok (D.int 0)) eqD))) [some (IN ns), some (nD k), some (nD c2), none] = .ok b := by
    have t := test_ok (f2_ok (f := fC (lCons (fun r => getV r 0) lNil) lenD) (f' := fun _ => Res.ok (D.int 0)) (r := [some (IN ns), some (nD k), some (nD c2), none]) (b := nD 0) (fC_ok (lc_ok (d := IN ns) rfl ln_ok) (lenL_map _ _)) rfl (gtI_n ns.length 0))
    cases ns with
    | nil => exact ⟨false, and_f t⟩
    | cons a ns =>
      rw [decide_eq_true (by simp)] at t
      obtain ⟨c3, h3⟩ := exMod (f := f2 (fun r => getV r 0) (fun _ => Res.ok (D.int 0)) ixA) (f' := fun _ => Res.ok (D.int 2)) (r := [some (IN (a :: ns)), some (nD k), some (nD c2), none]) ⟨a, f2_ok (a := IN (a :: ns)) (b := .int 0) rfl rfl (ixA_L0 _ _)⟩ rfl (by decide)
      exact ⟨_, (and_t t).trans (test_ok (f2_ok h3 (b := nD 0) rfl (eqD_n c3 0)))⟩
  obtain ⟨b, hb⟩ := kq
  cases b with
  | true => exact ⟨c2, seq_rt ((if_t hb).trans (seq_rt (ret_ok (d := nD c2) rfl)))⟩
  | false =>
    rw [seq_nx ((if_f (s2 := skipF) hb).trans (e_skip _))]
    refine exSet (exMod (exMulR (exN (exMod (exMulR (exAdd (exAdd (exAdd ⟨(c2 : Int), rfl⟩ (exMulR (b := (k : Int)) (exMulR (b := (k : Int)) ⟨7, rfl⟩ rfl (by omega)) rfl (by omega))) (exMulR (b := (k : Int)) ⟨13, rfl⟩ rfl (by omega))) ⟨5, rfl⟩) rfl (by decide)) rfl (by decide))) rfl (by decide)) rfl (by decide)) fun c3 => ?_
    obtain ⟨c4, h4⟩ := exMod (f := (f2 (f2 (f2 (f2 (fun r => getV r 3) (fun _ => Res.ok (D.int 1)) addA) (fun _ => Res.ok (D.int 40692)) mulI) (fun _ => Res.ok (D.int 2147483629)) modI) (fun _ => Res.ok (D.int 39373)) mulI)) (f' := fun _ => Res.ok (D.int 999999937)) (r := [some (IN ns), some (nD k), some (nD c2), some (nD c3)]) (exMulR (exN (exMod (exMulR (exAdd ⟨(c3 : Int), rfl⟩ ⟨1, rfl⟩) rfl (by decide)) rfl (by decide))) rfl (by decide)) rfl (by decide)
    exact ⟨c4, seq_rt (ret_ok h4)⟩
theorem insL_map {row : List Nat} {i : Int} {x : Nat} : insL (row.map nD) i (nD x) = (insL row i x).map nD := by
  unfold insL
  rw [List.length_map, List.map_append, List.map_cons, List.map_take, List.map_drop]
theorem insL_perm {row : List Nat} {i : Int} {x : Nat} : (insL row i x).Perm (x :: row) := by
  unfold insL
  refine List.perm_middle.trans ?_
  rw [List.take_append_drop]
theorem row_loop (m : Nat) : ∀ (j i c : Nat) (row : List Nat) (x : Option D), row.Perm (List.range i) → i + j ≤ 60 →
    ∃ (c' : Nat) (row' : List Nat) (x' : Option D), row'.Perm (List.range (i + j)) ∧ forF (ftN 3) L__law_row_0 ((List.range' i j).map nD) [some (nD c), some (nD m), some (LN row), x] = .nx [some (nD c'), some (nD m), some (LN row'), x']
  | 0, i, c, row, x, hp, _ => ⟨c, row, x, hp, for_nil⟩
  | j + 1, i, c, row, x, hp, hl => by
    have hlen : row.length = i := by rw [hp.length_eq]; simp
    obtain ⟨c', row', x', h1, h2⟩ := row_loop m j (i + 1) (c / (i + 1)) (insL row ((c % (i + 1) : Nat) : Int) i) (some (nD i)) (by
      refine insL_perm.trans ?_
      rw [List.range_succ]
      exact (List.Perm.cons i hp).trans (List.perm_append_singleton i _).symm) (by omega)
    refine ⟨c', row', x', by rw [show i + (j + 1) = i + 1 + j by omega]; exact h1, ?_⟩
    rw [← h2]
    have hmod : c % (i + 1) < i + 1 := Nat.mod_lt _ (by omega)
    refine for_nx (r1 := [some (nD c), some (nD m), some (LN row), some (nD i)]) rfl ?_
    refine (seq_nx (mut_ok (d := LN row) (ds := [nD (c % (i + 1)), nD i]) (d' := LN (insL row ((c % (i + 1) : Nat) : Int) i)) rfl rfl (lc_ok (f2_ok (a := nD c) (b := nD (i + 1)) rfl (f2_ok (a := nD i) (b := nD 1) rfl rfl (addA_n i 1)) (modI_n (by omega))) (lc_ok (d := nD i) rfl ln_ok)) ?_)).trans ?_
    · show (if _ then some (D.lst (insL _ _ _)) else none) = _
      rw [if_pos ⟨by rw [List.length_map, sizeLine_eq]; omega, by omega, by omega⟩, insL_map]
    · exact seq_nx (set_ok (d := nD (c / (i + 1))) (f2_ok (a := nD c) (b := nD (i + 1)) rfl (f2_ok (a := nD i) (b := nD 1) rfl rfl (addA_n i 1)) (fdivI_n (by omega) (by omega))))
theorem run_row (c m : Nat) (hm : m ≤ 60) : ∃ row : List Nat, row.Perm (List.range m) ∧ F__law_row [nD c, nD m] = .ok (TN row) := by
  obtain ⟨c', row', x', h1, h2⟩ := row_loop m m 0 c [] none (by simp) (by omega)
  rw [Nat.zero_add] at h1
  rw [← List.range_eq_range'] at h2
  refine ⟨row', h1, run_of (B := B__law_row) (n := 4) ?_⟩
  unfold B__law_row
  refine (seq_nx (set_ok (d := LN []) (mkL_ok ln_ok (by simp)))).trans ?_
  refine (seq_nx ((loop_ok (ds := (List.range m).map nD) (fRng_ok (lc_ok (d := nD m) rfl ln_ok) (rng1_n (by omega)))).trans h2)).trans ?_
  exact seq_rt (ret_ok (fC_ok (lc_ok (d := LN row') rfl ln_ok) rfl))
end Law
end
section
set_option Elab.async false
set_option linter.all false
set_option maxRecDepth 100000
set_option maxHeartbeats 1000000
namespace Law
open PySem PyProof.Rows L2 DL
section
variable {a : Nat → Nat} {n : Nat}
end
end Law
end
section
set_option Elab.async false
set_option linter.all false
set_option maxRecDepth 100000
set_option maxHeartbeats 1000000
namespace Law
open PySem PyProof.Rows L2 DL
theorem setL_n {ds : List D} {i : Nat} {v : D} (h : i < ds.length) : stoD (.lst ds) (nD i) v = some (.lst (ds.set i v)) := by
  show (ixN ds.length (i : Int)).map _ = _
  unfold ixN
  rw [if_pos (Int.natCast_nonneg i), if_pos (by omega)]
  simp
theorem compT_ok {nl : Nat} {cap : List Nat} {fi : FI} {ft : FT} {fe : FE} {r : Rho} {α : Type} {l : List α} (e : α → D) (g : α → D) (h1 : fi r = .ok (l.map e)) (hl : l.length ≤ 1000)
    (h : ∀ a ∈ l, ∃ r1, ft (e a) (capR nl cap r) = some r1 ∧ fe r1 = .ok (g a)) : fComp nl cap fi ft (fun _ => Res.ok true) fe r = .ok (.lst (l.map g)) := by
  have := comp_ok (q := fun _ => Res.ok true) e (fun _ => true) g h1 hl fun a ha => by
    obtain ⟨r1, q1, q2⟩ := h a ha
    exact ⟨r1, q1, rfl, fun _ => q2⟩
  rw [this, filt_true]
end Law
end
section
set_option Elab.async false
set_option linter.all false
set_option maxRecDepth 100000
set_option maxHeartbeats 1000000
set_option exponentiation.threshold 3000
namespace Law
open PySem PyProof.Rows L2 DL Fq
noncomputable abbrev FR (x : Int × Nat) : D := .tup [.int x.1, nD x.2]
noncomputable abbrev LF (l : List (Int × Nat)) : D := .lst (l.map FR)
noncomputable abbrev TF (l : List (Int × Nat)) : D := .tup (l.map FR)
theorem big_pow : BIG = 2 ^ 2000 := rfl
theorem lt_big {a k : Nat} (h : a < 2 ^ k) (hk : k ≤ 2000) : a < BIG := by
  rw [big_pow]; exact Nat.lt_of_lt_of_le h (Nat.pow_le_pow_right (by omega) hk)
theorem mulW_ok {a b : Int} {k l : Nat} (h1 : a.natAbs < 2 ^ k) (h2 : b.natAbs < 2 ^ l) (hk : k ≤ 2000) (hl : l ≤ 2000) : mulW (.int a) (.int b) = some (.int (a * b)) := by
  rw [mulW, intsC_int, if_pos ⟨lt_big h1 hk, lt_big h2 hl⟩]
theorem fdivW_ok {a : Int} {b k : Nat} (h0 : 0 < b) (h1 : b < 2 ^ k) (hk : k ≤ 2000) : fdivW (.int a) (nD b) = some (.int (a / (b : Int))) := by
  rw [fdivW, intsC_int, if_pos ⟨by omega, by rw [Int.natAbs_natCast]; exact lt_big h1 hk⟩]
theorem neD_0 (b : Nat) : neD (nD b) (.int 0) = some (.bl (!decide (b = 0))) := neD_n b 0
theorem gcd_loop {m : List Md} : ∀ (k n : Nat) (a : Int) (b : Nat) (x : Option D), b < 2 ^ k → 2 * k + 1 ≤ n →
    ∃ (a' : Int) (y : Option D), whileF m Q__law_common_0 L__law_common_0 n [some (.int a), some (nD b), x] = .nx [some (.int a'), some (nD 0), y] ∧ a'.natAbs = Int.gcd a b := by
  have z0 : ∀ (n : Nat) (a : Int) (x : Option D), 1 ≤ n → ∃ (a' : Int) (y : Option D), whileF m Q__law_common_0 L__law_common_0 n [some (.int a), some (nD 0), x] = .nx [some (.int a'), some (nD 0), y] ∧ a'.natAbs = Int.gcd a 0 := by
    intro n a x hn
    obtain ⟨n, rfl⟩ : ∃ k, n = k + 1 := ⟨n - 1, by omega⟩
    exact ⟨a, x, while_f (test_ok (f2_ok (a := nD 0) (b := .int 0) rfl rfl (neD_0 0))), by simp⟩
  have st : ∀ (n : Nat) (a : Int) (b : Nat) (x : Option D), 0 < b → whileF m Q__law_common_0 L__law_common_0 (n + 1) [some (.int a), some (nD b), x] = whileF m Q__law_common_0 L__law_common_0 n [some (nD b), some (nD (a % (b : Int)).toNat), some (nD (a % (b : Int)).toNat)] := by
    intro n a b x hb
    have hne := neD_0 b
    rw [decide_eq_false (by omega)] at hne
    refine while_t (test_ok (f2_ok (a := nD b) (b := .int 0) rfl rfl hne)) ?_
    refine (seq_nx (set_ok (d := nD (a % (b : Int)).toNat) (f2_ok (a := .int a) (b := nD b) rfl rfl ?_))).trans ?_
    · rw [modI_ok (by omega)]
      show some (D.int _) = some (D.int _)
      rw [Int.toNat_of_nonneg (Int.emod_nonneg _ (by omega))]
    refine (seq_nx (set_ok (d := nD b) rfl)).trans ?_
    exact seq_nx (set_ok (d := nD (a % (b : Int)).toNat) rfl)
  have hr : ∀ (a : Int) (b : Nat), 0 < b → (((a % (b : Int)).toNat : Nat) : Int) = a % (b : Int) ∧ (a % (b : Int)).toNat < b := by
    intro a b hb
    have h1 := Int.emod_nonneg a (show (b : Int) ≠ 0 by omega)
    have h2 := Int.emod_lt_of_pos a (show (0 : Int) < b by omega)
    exact ⟨Int.toNat_of_nonneg h1, by omega⟩
  intro k
  induction k with
  | zero =>
    intro n a b x hb hn
    have : b = 0 := by
      have : (2 : Nat) ^ 0 = 1 := rfl
      omega
    subst this
    exact z0 n a x (by omega)
  | succ k ih =>
    intro n a b x hb hn
    by_cases h0 : b = 0
    · subst h0; exact z0 n a x (by omega)
    · have hbp : 0 < b := by omega
      obtain ⟨n, rfl⟩ : ∃ j, n = j + 2 := ⟨n - 2, by omega⟩
      obtain ⟨r1, r2⟩ := hr a b hbp
      have e1 := st (n + 1) a b x hbp
      generalize (a % (b : Int)).toNat = r at r1 r2 e1
      rw [e1, gcd_step a b, ← r1]
      by_cases hz : r = 0
      · subst hz
        exact z0 (n + 1) b _ (by omega)
      · obtain ⟨s1, s2⟩ := hr (b : Int) r (by omega)
        have e2 := st n (b : Int) r (some (nD r)) (by omega)
        have hs : ((b : Int) % (r : Int)).toNat = b % r := by omega
        rw [hs] at s1 s2 e2
        rw [e2, gcd_step (b : Int) r, ← s1]
        refine ih n (r : Int) (b % r) _ ?_ (by omega)
        have h3 : b % r < r := Nat.mod_lt _ (by omega)
        have h4 : b % r ≤ b - r := by
          have := Nat.mod_eq_sub_mod (show r ≤ b by omega)
          rw [this]; exact Nat.mod_le _ _
        rw [Nat.pow_succ] at hb
        omega
theorem run_common {a : Int} {b k : Nat} (hb : b < 2 ^ k) (hk : k ≤ 499) : F__law_common [.int a, nD b] = .ok (nD (Int.gcd a b)) := by
  obtain ⟨a', y, h1, h2⟩ := gcd_loop (m := [Md.sh, Md.sh, Md.sh]) k 1000 a b none hb (by omega)
  refine run_of (B := B__law_common) (n := 3) ?_
  unfold B__law_common
  refine (seq_nx h1).trans (seq_rt (ret_ok (fC_ok (lc_ok (d := .int a') rfl ln_ok) ?_)))
  show some (D.int (if a' < 0 then -a' else a')) = some (D.int _)
  rw [← h2]
  split <;> congr 2 <;> omega
theorem run_low {t : Int} {b k : Nat} (h0 : 0 < b) (hb : b < 2 ^ k) (hk : k ≤ 499) : F__law_low [.int t, nD b] = .ok (FR (low t b)) := by
  refine run_of (B := B__law_low) (n := 3) ?_
  unfold B__law_low
  have hg := gcd_pos t h0
  have hgb : Int.gcd t b < 2 ^ k := by
    have h1 : Int.gcd t b ∣ b := Int.natCast_dvd_natCast.mp (Int.gcd_dvd_right t b)
    have := Nat.le_of_dvd h0 h1
    omega
  refine (seq_nx (set_ok (call_ok (lc_ok (d := .int t) rfl (lc_ok (d := nD b) rfl ln_ok)) (run_common hb hk)))).trans ?_
  refine seq_rt (ret_ok (mkT_ok (lc_ok (f2_ok (a := .int t) (b := nD (Int.gcd t b)) rfl rfl (fdivW_ok hg hgb (by omega))) (lc_ok (f2_ok (a := nD b) (b := nD (Int.gcd t b)) rfl rfl (fdivW_ok hg hgb (by omega))) ln_ok)) (by simp)))
theorem ix_FR0 (x : Int × Nat) : ixA (FR x) (.int 0) = some (.int x.1) := rfl
theorem ix_FR1 (x : Int × Nat) : ixA (FR x) (.int 1) = some (nD x.2) := ixA_T (i := 1) rfl
section
variable {k l : Nat} {a b : Int × Nat}
theorem run_lplus (ha : Bd k a) (hb : Bd l b) (hl : k + l ≤ 498) : F__law_plus [FR a, FR b] = .ok (FR (plusQ a b)) := by
  refine run_of (B := B__law_plus) (n := 2) ?_
  unfold B__law_plus
  have i0 := ix_FR0 a
  have i1 := ix_FR1 a
  have j0 := ix_FR0 b
  have j1 := ix_FR1 b
  refine seq_rt (ret_ok (call_ok (lc_ok (f2_ok (f2_ok (f2_ok (a := FR a) rfl rfl i0) (f2_ok (a := FR b) rfl rfl j1) (mulW_ok ha.top (by rw [Int.natAbs_natCast]; exact hb.bot) (by omega) (by omega))) (f2_ok (f2_ok (a := FR b) rfl rfl j0) (f2_ok (a := FR a) rfl rfl i1) (mulW_ok hb.top (by rw [Int.natAbs_natCast]; exact ha.bot) (by omega) (by omega))) rfl)
    (lc_ok (d := nD (a.2 * b.2)) (f2_ok (f2_ok (a := FR a) rfl rfl i1) (f2_ok (a := FR b) rfl rfl j1) ?_) ln_ok)) ?_))
  · rw [mulW_ok (k := k) (l := l) (by rw [Int.natAbs_natCast]; exact ha.bot) (by rw [Int.natAbs_natCast]; exact hb.bot) (by omega) (by omega)]
    show some (D.int _) = some (D.int _)
    rw [Int.natCast_mul]
  · exact run_low (plus_bot ha hb).1 (plus_bot ha hb).2 (by omega)
theorem run_isfr (ha : Bd k a) (hc : Int.gcd a.1 (a.2 : Nat) = 1) (hk : k ≤ 499) : F__law_is_fraction [FR a] = .ok (.bl true) := by
  refine run_of (B := B__law_is_fraction) (n := 2) ?_
  unfold B__law_is_fraction
  refine (seq_nx ((if_f ?_).trans (e_skip _))).trans ?_
  · rw [or_f (not_ok (b := true) (tru_ok' (f1_ok (a := FR a) (d := .bl true) rfl rfl) rfl))]
    exact test_ok (f2_ok (a := nD 2) (b := nD 2) (fC_ok (lc_ok (d := FR a) rfl ln_ok) rfl) rfl (neD_n 2 2))
  have stp : ∀ (i : Int), L__law_is_fraction_0 [some (FR a), some (.int i)] = .nx [some (FR a), some (.int i)] := by
    intro i
    refine seq_nx ((if_f ?_).trans (e_skip _))
    rw [or_f (not_ok (b := true) (tru_ok' (f1_ok (a := .int i) (d := .bl true) rfl rfl) rfl))]
    exact tru_ok' (f1_ok (a := .int i) (d := .bl false) rfl rfl) rfl
  refine (seq_nx ((loop_ok (seq_ok (d := FR a) rfl rfl)).trans ((for_nx (r1 := [some (FR a), some (.int a.1)]) rfl (stp a.1)).trans ((for_nx (r1 := [some (FR a), some (nD a.2)]) rfl (stp a.2)).trans for_nil)))).trans ?_
  have hp := ha.pos
  have hg := gtI_n a.2 0
  rw [decide_eq_true hp] at hg
  refine seq_rt (ret_ok ?_)
  rw [vand_t (f2_ok (f2_ok (a := FR a) rfl rfl (ix_FR1 a)) (b := nD 0) rfl hg)]
  refine f2_ok (a := nD 1) (b := nD 1) (call_ok (lc_ok (f2_ok (a := FR a) rfl rfl (ix_FR0 a)) (lc_ok (f2_ok (a := FR a) rfl rfl (ix_FR1 a)) ln_ok)) ?_) rfl (eqD_same 1)
  have := run_common (a := a.1) ha.bot hk
  rw [hc] at this
  exact this
end
theorem bd01 : Bd 1 ((0 : Int), 1) := ⟨by decide, by decide, by decide⟩
theorem bls_m {α : Type} (p : α → Bool) : ∀ l : List α, asBls (l.map fun x => D.bl (p x)) = some (l.map p)
  | [] => rfl
  | x :: l => by
    show (asBls (l.map fun x => D.bl (p x))).map _ = _
    rw [bls_m p l]; rfl
theorem all_m {α : Type} (p : α → Bool) (l : List α) : allD [.lst (l.map fun x => D.bl (p x))] = some (.bl (l.all p)) := by
  show (asBls (l.map fun x => D.bl (p x))).map _ = _
  rw [bls_m]
  show some (D.bl ((l.map p).all id)) = _
  rw [List.all_map]; rfl
theorem run_whole (i : Int) : F_is_whole [.int i] = .ok (.bl true) := rfl
theorem run_gd {a : Int} {b k : Nat} (hb : b < 2 ^ k) (hk : k ≤ 499) : F_greatest_divisor [.int a, nD b] = .ok (nD (Int.gcd a b)) := run_common hb hk
theorem run_fraction {t : Int} {b k : Nat} (h0 : 0 < b) (hb : b < 2 ^ k) (hk : k ≤ 499) : F_fraction [.int t, nD b] = .ok (FR (low t b)) := by
  refine run_of (B := B_fraction) (n := 3) ?_
  unfold B_fraction
  have hg := gcd_pos t h0
  have hgb : Int.gcd t b < 2 ^ k := by
    have h1 : Int.gcd t b ∣ b := Int.natCast_dvd_natCast.mp (Int.gcd_dvd_right t b)
    have := Nat.le_of_dvd h0 h1
    omega
  refine (seq_nx ((if_f ?_).trans (e_skip _))).trans ?_
  · rw [or_f (not_ok (b := true) (tru_ok' (call_ok (lc_ok (d := .int t) rfl ln_ok) (run_whole t)) rfl)), or_f (not_ok (b := true) (tru_ok' (call_ok (lc_ok (d := nD b) rfl ln_ok) (run_whole b)) rfl))]
    have := eqD_n b 0
    rw [decide_eq_false (by omega)] at this
    exact test_ok (f2_ok (a := nD b) (b := nD 0) rfl rfl this)
  refine (seq_nx (set_ok (call_ok (lc_ok (d := .int t) rfl (lc_ok (d := nD b) rfl ln_ok)) (run_gd hb hk)))).trans ?_
  refine (seq_nx ((if_f ?_).trans (e_skip _))).trans ?_
  · have := ltI_n b 0
    rw [decide_eq_false (by omega)] at this
    exact test_ok (f2_ok (a := nD b) (b := nD 0) rfl rfl this)
  refine seq_rt (ret_ok (mkT_ok (lc_ok (f2_ok (a := .int t) (b := nD (Int.gcd t b)) rfl rfl (fdivW_ok hg hgb (by omega))) (lc_ok (f2_ok (a := nD b) (b := nD (Int.gcd t b)) rfl rfl (fdivW_ok hg hgb (by omega))) ln_ok)) (by simp)))
end Law
end
section
set_option Elab.async false
set_option linter.all false
set_option maxRecDepth 100000
set_option maxHeartbeats 1000000
set_option exponentiation.threshold 3000
namespace Law
open PySem PyProof.Rows L2 DL Fq
section
variable {k l : Nat} {a b : Int × Nat}
theorem run_plus (ha : Bd k a) (hb : Bd l b) (hl : k + l ≤ 498) : F_plus [FR a, FR b] = .ok (FR (plusQ a b)) := by
  refine run_of (B := B_plus) (n := 2) ?_
  unfold B_plus
  have i0 := ix_FR0 a
  have i1 := ix_FR1 a
  have j0 := ix_FR0 b
  have j1 := ix_FR1 b
  refine seq_rt (ret_ok (call_ok (lc_ok (f2_ok (f2_ok (f2_ok (a := FR a) rfl rfl i0) (f2_ok (a := FR b) rfl rfl j1) (mulW_ok ha.top (by rw [Int.natAbs_natCast]; exact hb.bot) (by omega) (by omega))) (f2_ok (f2_ok (a := FR b) rfl rfl j0) (f2_ok (a := FR a) rfl rfl i1) (mulW_ok hb.top (by rw [Int.natAbs_natCast]; exact ha.bot) (by omega) (by omega))) rfl)
    (lc_ok (d := nD (a.2 * b.2)) (f2_ok (f2_ok (a := FR a) rfl rfl i1) (f2_ok (a := FR b) rfl rfl j1) ?_) ln_ok)) ?_))
  · rw [mulW_ok (k := k) (l := l) (by rw [Int.natAbs_natCast]; exact ha.bot) (by rw [Int.natAbs_natCast]; exact hb.bot) (by omega) (by omega)]
    show some (D.int _) = some (D.int _)
    rw [Int.natCast_mul]
  · exact run_fraction (plus_bot ha hb).1 (plus_bot ha hb).2 (by omega)
end
theorem ix_R {n x : Nat} {f : Nat → D} (h : x < n) : ixA (.lst ((List.range n).map f)) (nD x) = some (f x) := by
  refine ixA_L ?_
  rw [List.getElem?_map, List.getElem?_range h]; rfl
theorem sto_R {n x : Nat} {v : D} {f : Nat → D} (h : x < n) : stoD (.lst ((List.range n).map f)) (nD x) v = some (.lst ((List.range n).map fun y => if y = x then v else f y)) := by
  rw [setL_n (by simpa using h)]
  show some (D.lst _) = some (D.lst _)
  congr 2
  refine List.ext_getElem? fun i => ?_
  by_cases hi : i < n
  · by_cases e : x = i
    · subst e
      rw [List.getElem?_set_self (by simpa using h), List.getElem?_map, List.getElem?_range h]
      simp
    · rw [List.getElem?_set_ne e, List.getElem?_map, List.getElem?_map, List.getElem?_range hi]
      simp [Ne.symm e]
  · rw [List.getElem?_eq_none (by simp; omega), List.getElem?_eq_none (by simp; omega)]
noncomputable abbrev pD (p : (Int × Nat) × List Nat) : D := .tup [FR p.1, TN p.2]
noncomputable abbrev TB (tb : Nat → Nat → Int × Nat) (n : Nat) : D := .tup ((List.range n).map fun h => TF ((List.range n).map (tb h)))
theorem asInts_m : ∀ l : List Nat, asInts (l.map nD) = some (l.map fun k : Nat => (k : Int))
  | [] => rfl
  | k :: l => by
    show (asInts (l.map nD)).map _ = _
    rw [asInts_m l]; rfl
theorem sum_cast : ∀ l : List Nat, (l.map fun k : Nat => (k : Int)).sum = ((l.sum : Nat) : Int)
  | [] => rfl
  | k :: l => by rw [List.map_cons, List.sum_cons, sum_cast l, List.sum_cons, Int.natCast_add]
theorem sum_n (l : List Nat) : sumD [LN l] = some (nD l.sum) := by
  show (asInts (l.map nD)).map _ = _
  rw [asInts_m]
  show some (D.int _) = _
  rw [sum_cast]
theorem sum_bd : ∀ l : List Nat, (∀ x ∈ l, 1 ≤ x ∧ x ≤ 60) → l.sum ≤ 60 * l.length ∧ l.length ≤ l.sum
  | [], _ => by simp
  | x :: l, h => by
    have h1 := h x List.mem_cons_self
    have := sum_bd l fun y hy => h y (List.mem_cons_of_mem _ hy)
    rw [List.sum_cons, List.length_cons]; omega
noncomputable def Pp (n : Nat) (p : (Int × Nat) × List Nat) : Prop := Bd 10 p.1 ∧ p.2.Perm (List.range n)
theorem pa_loop (ns : List Int) (at' n many : Nat) {ws : List Nat} (hw : ws.length = many) (hb : ∀ x ∈ ws, 1 ≤ x ∧ x ≤ 60) (hs0 : 0 < ws.sum) (hs : ws.sum ≤ 720) (hat : at' ≤ 60) (hn : n ≤ 60) : ∀ (j i : Nat) (ps : List ((Int × Nat) × List Nat)) (x : Option D), i + j = many → many ≤ 12 → ps.length = i → (∀ p ∈ ps, Pp n p) →
    ∃ (ps' : List ((Int × Nat) × List Nat)) (y : Option D), ps'.length = many ∧ (∀ p ∈ ps', Pp n p) ∧ forF (ftN 7) L__law_parts_0 ((List.range' i j).map nD) [some (IN ns), some (nD at'), some (nD n), some (nD many), some (LN ws), some (nD ws.sum), some (.lst (ps.map pD)), x] = .nx [some (IN ns), some (nD at'), some (nD n), some (nD many), some (LN ws), some (nD ws.sum), some (.lst (ps'.map pD)), y]
  | 0, i, ps, x, h, _, hl, hp => ⟨ps, x, by omega, hp, for_nil⟩
  | j + 1, i, ps, x, h, h12, hl, hp => by
    have hi : i < ws.length := by omega
    have hwi := hb ws[i] (List.getElem_mem _)
    obtain ⟨c, hc⟩ := run_cell ns (at' + 2 * i + 1) (by omega)
    obtain ⟨row, r1, r2⟩ := run_row c n hn
    have hbd : Bd 10 (low (ws[i] : Int) ws.sum) := Bd.low hs0 (by show ws.sum < 1024; omega) (by rw [Int.natAbs_natCast]; show ws[i] < 1024; omega)
    obtain ⟨ps', y, e1, e2, e3⟩ := pa_loop ns at' n many hw hb hs0 hs hat hn j (i + 1) (ps ++ [(low (ws[i] : Int) ws.sum, row)]) (some (nD i)) (by omega) h12 (by simp [hl]) (fun p hpp => by
      rcases List.mem_append.mp hpp with z | z
      · exact hp p z
      · rw [List.mem_singleton.mp z]
        exact ⟨hbd, r1⟩)
    refine ⟨ps', y, e1, e2, ?_⟩
    rw [← e3, List.range'_succ, List.map_cons]
    refine for_nx (r1 := [some (IN ns), some (nD at'), some (nD n), some (nD many), some (LN ws), some (nD ws.sum), some (.lst (ps.map pD)), some (nD i)]) rfl ?_
    have em : (ps ++ [(low (ws[i] : Int) ws.sum, row)]).map pD = ps.map pD ++ [pD (low (ws[i] : Int) ws.sum, row)] := by rw [List.map_append]; rfl
    rw [em]
    have m2 : mulI (.int 2) (nD i) = some (nD (2 * i)) := by
      rw [mulI_ok (.inl ⟨by decide, by decide⟩)]
      show some (D.int _) = some (D.int _)
      rw [Int.natCast_mul]; rfl
    have hix : ixA (LN ws) (nD i) = some (.int (ws[i] : Int)) := ixA_L (by rw [List.getElem?_map, List.getElem?_eq_getElem hi]; rfl)
    exact seq_nx (mut_ok (d := .lst (ps.map pD)) (ds := [pD (low (ws[i] : Int) ws.sum, row)]) rfl rfl (lc_ok (mkT_ok (lc_ok (call_ok (lc_ok (f2_ok (a := LN ws) (b := nD i) rfl rfl hix) (lc_ok (d := nD ws.sum) rfl ln_ok)) (run_low (k := 10) hs0 (by show ws.sum < 1024; omega) (by omega))) (lc_ok (call_ok (lc_ok (call_ok (lc_ok (d := IN ns) rfl (lc_ok (f2_ok (b := nD 1) (f2_ok (a := nD at') rfl (f2_ok (b := nD i) rfl rfl m2) (addA_n _ _)) rfl (addA_n _ 1)) ln_ok)) hc) (lc_ok (d := nD n) rfl ln_ok)) r2) ln_ok)) (by simp)) ln_ok) (appD_ok (by simp; omega)))
theorem run_parts (ns : List Int) (at' n many : Nat) (hat : at' ≤ 60) (hn : n ≤ 60) (h1 : 1 ≤ many) (h12 : many ≤ 12) : ∃ ps : List ((Int × Nat) × List Nat), ps.length = many ∧ (∀ p ∈ ps, Pp n p) ∧ F__law_parts [IN ns, nD at', nD n, nD many] = .ok (.lst (ps.map pD)) := by
  have hc : ∀ k : Nat, ∃ c : Nat, k ≤ 60 → F__law_cell [IN ns, nD (at' + 2 * k)] = .ok (nD c) := by
    intro k
    by_cases hk : k ≤ 60
    · obtain ⟨c, hc⟩ := run_cell ns (at' + 2 * k) (by omega)
      exact ⟨c, fun _ => hc⟩
    · exact ⟨0, fun z => absurd z hk⟩
  obtain ⟨g, hg⟩ := Classical.axiomOfChoice hc
  have hb : ∀ x ∈ (List.range many).map (fun k => 1 + g k % 60), 1 ≤ x ∧ x ≤ 60 := fun x hx => by
    obtain ⟨k, _, rfl⟩ := List.mem_map.mp hx
    have := Nat.mod_lt (g k) (show 60 > 0 by omega)
    omega
  have hsum := sum_bd _ hb
  have hlen : ((List.range many).map fun k => 1 + g k % 60).length = many := by simp
  rw [hlen] at hsum
  obtain ⟨ps, y, e1, e2, e3⟩ := pa_loop ns at' n many hlen hb (by omega) (by omega) hat hn many 0 [] none (by omega) h12 rfl (fun _ h => by cases h)
  rw [← List.range_eq_range'] at e3
  refine ⟨ps, e1, e2, run_of (B := B__law_parts) (n := 8) ?_⟩
  unfold B__law_parts
  refine (seq_nx (set_ok (d := LN ((List.range many).map fun k => 1 + g k % 60)) ?_)).trans ?_
  · have hcc := compT_ok (nl := 1) (cap := [0, 1]) (fi := fRng rng1 (lCons (fun r => getV r 3) lNil)) (ft := ftN 0) (fe := f2 (fun _ => Res.ok (D.int 1)) (f2 (callF (lCons (fun r => getV r 1) (lCons (f2 (fun r => getV r 2) (f2 (fun _ => Res.ok (D.int 2)) (fun r => getV r 0) mulI) addA) lNil)) [] F__law_cell) (fun _ => Res.ok (D.int 60)) modI) addA) (r := [some (IN ns), some (nD at'), some (nD n), some (nD many), none, none, none, none]) (l := List.range many) nD (fun k => nD (1 + g k % 60)) (fRng_ok (lc_ok (d := nD many) rfl ln_ok) (rng1_n (by omega))) (by simp; omega) fun k hk => ⟨[some (nD k), some (IN ns), some (nD at')], rfl, ?_⟩
    · refine hcc.trans ?_
      show Res.ok (D.lst _) = Res.ok (D.lst _)
      rw [List.map_map]; rfl
    · have hk' := List.mem_range.mp hk
      have m2 : mulI (.int 2) (nD k) = some (nD (2 * k)) := by
        rw [mulI_ok (.inl ⟨by decide, by decide⟩)]
        show some (D.int _) = some (D.int _)
        rw [Int.natCast_mul]; rfl
      exact f2_ok (a := nD 1) rfl (f2_ok (b := nD 60) (call_ok (lc_ok (d := IN ns) rfl (lc_ok (f2_ok (a := nD at') rfl (f2_ok (b := nD k) rfl rfl m2) (addA_n _ _)) ln_ok)) (hg k (by omega))) rfl (modI_n (by omega))) (addA_n 1 _)
  refine (seq_nx (set_ok (fC_ok (lc_ok (d := LN ((List.range many).map fun k => 1 + g k % 60)) rfl ln_ok) (sum_n _)))).trans ?_
  refine (seq_nx (set_ok (d := .lst []) (mkL_ok ln_ok (by simp)))).trans ?_
  refine (seq_nx ((loop_ok (fRng_ok (lc_ok (d := nD many) rfl ln_ok) (rng1_n (by omega)))).trans e3)).trans ?_
  exact seq_rt (ret_ok (d := .lst (ps.map pD)) rfl)
noncomputable def dA (d : List Nat) (h : Nat) : Nat := (d[h]?).getD 0
theorem dA_at {d : List Nat} {h : Nat} (hh : h < d.length) : ixA (TN d) (nD h) = some (nD (dA d h)) := by
  refine ixA_T ?_
  rw [List.getElem?_map, List.getElem?_eq_getElem hh]
  unfold dA
  rw [List.getElem?_eq_getElem hh]; rfl
theorem dA_lt {d : List Nat} {h n : Nat} (hp : d.Perm (List.range n)) (hh : h < n) : h < d.length ∧ dA d h < n := by
  have hl : h < d.length := by rw [hp.length_eq]; simpa using hh
  refine ⟨hl, ?_⟩
  unfold dA
  rw [List.getElem?_eq_getElem hl]
  exact List.mem_range.mp (hp.mem_iff.mp (List.getElem_mem _))
noncomputable def sel (ps : List ((Int × Nat) × List Nat)) (h x : Nat) : List (Int × Nat) := (ps.filter fun p => decide (dA p.2 h = x)).map (·.1)
noncomputable def mixF (ps : List ((Int × Nat) × List Nat)) (h x : Nat) (q : Int × Nat) : Int × Nat := (sel ps h x).foldl plusQ q
noncomputable abbrev mixT (ps : List ((Int × Nat) × List Nat)) : Nat → Nat → Int × Nat := fun h x => mixF ps h x (0, 1)
theorem mixF_cons (p : (Int × Nat) × List Nat) (ps : List ((Int × Nat) × List Nat)) (h x : Nat) (q : Int × Nat) : mixF (p :: ps) h x q = mixF ps h x (if x = dA p.2 h then plusQ q p.1 else q) := by
  unfold mixF sel
  rw [List.filter_cons]
  by_cases e : x = dA p.2 h
  · rw [if_pos (by simpa using e.symm), if_pos e]; rfl
  · rw [if_neg (by simpa using fun z => e z.symm), if_neg e]
theorem fold_bd : ∀ (l : List (Int × Nat)) (k : Nat) (q : Int × Nat), Bd k q → (∀ p ∈ l, Bd 10 p) → Bd (k + 11 * l.length) (l.foldl plusQ q)
  | [], k, q, h, _ => h
  | p :: l, k, q, h, hl => by
    have := fold_bd l (k + 11) (plusQ q p) ((h.plus (hl p List.mem_cons_self)).mono (by omega)) (fun r hr => hl r (List.mem_cons_of_mem _ hr))
    exact this.mono (by rw [List.length_cons]; omega)
theorem fold_cop : ∀ (l : List (Int × Nat)) (q : Int × Nat), Int.gcd q.1 (q.2 : Nat) = 1 → 0 < q.2 → (∀ p ∈ l, 0 < p.2) → Int.gcd (l.foldl plusQ q).1 ((l.foldl plusQ q).2 : Nat) = 1
  | [], q, h, _, _ => h
  | p :: l, q, _, h0, hl => by
    have hb : 0 < q.2 * p.2 := Nat.mul_pos h0 (hl p List.mem_cons_self)
    exact fold_cop l (plusQ q p) (low_cop _ hb) (low_pos _ hb) fun r hr => hl r (List.mem_cons_of_mem _ hr)
structure Pts (n : Nat) (ps : List ((Int × Nat) × List Nat)) : Prop where
  n1 : 1 ≤ n
  n7 : n ≤ 7
  p1 : 1 ≤ ps.length
  p12 : ps.length ≤ 12
  ok : ∀ p ∈ ps, Pp n p
section
variable {n : Nat} {ps : List ((Int × Nat) × List Nat)}
theorem sel_bd (hp : ∀ p ∈ ps, Pp n p) (h x : Nat) : ∀ q ∈ sel ps h x, Bd 10 q := by
  intro q hq
  obtain ⟨p, h1, rfl⟩ := List.mem_map.mp hq
  exact (hp p (List.mem_filter.mp h1).1).1
theorem sel_len (h x : Nat) : (sel ps h x).length ≤ ps.length := by
  unfold sel
  rw [List.length_map]
  exact List.length_filter_le _ _
theorem Pts.bd (P : Pts n ps) (h x : Nat) : Bd 133 (mixT ps h x) := by
  have := fold_bd (sel ps h x) 1 (0, 1) bd01 (sel_bd P.ok h x)
  have h2 := sel_len (ps := ps) h x
  have h3 := P.p12
  exact this.mono (by omega)
theorem Pts.cop (P : Pts n ps) (h x : Nat) : Int.gcd (mixT ps h x).1 ((mixT ps h x).2 : Nat) = 1 := fold_cop (sel ps h x) (0, 1) (by decide) (by decide) fun q hq => (sel_bd P.ok h x q hq).pos
theorem total_loop {d0 : D} : ∀ (l : List (Int × Nat)) (k : Nat) (acc : Int × Nat) (x : Option D), Bd k acc → (∀ q ∈ l, Bd 10 q) → k + 11 * l.length ≤ 498 →
    ∃ y, forF (ftN 2) L_total_0 (l.map FR) [some d0, some (FR acc), x] = .nx [some d0, some (FR (l.foldl plusQ acc)), y]
  | [], k, acc, x, _, _, _ => ⟨x, for_nil⟩
  | q :: l, k, acc, x, h1, h2, h3 => by
    rw [List.length_cons] at h3
    have hq := h2 q List.mem_cons_self
    obtain ⟨y, ih⟩ := total_loop (d0 := d0) l (k + 11) (plusQ acc q) (some (FR q)) ((h1.plus hq).mono (by omega)) (fun r hr => h2 r (List.mem_cons_of_mem _ hr)) (by omega)
    refine ⟨y, ?_⟩
    rw [List.map_cons, List.foldl_cons, ← ih]
    refine for_nx (r1 := [some d0, some (FR acc), some (FR q)]) rfl ?_
    exact seq_nx (set_ok (call_ok (lc_ok (d := FR acc) rfl (lc_ok (d := FR q) rfl ln_ok)) (run_plus h1 hq (by omega))))
theorem run_total {l : List (Int × Nat)} (h2 : ∀ q ∈ l, Bd 10 q) (h3 : l.length ≤ 40) : F_total [LF l] = .ok (FR (l.foldl plusQ (0, 1))) := by
  obtain ⟨y, h⟩ := total_loop (d0 := LF l) l 1 (0, 1) none bd01 h2 (by omega)
  refine run_of (B := B_total) (n := 3) ?_
  unfold B_total
  refine (seq_nx (set_ok (d := FR (0, 1)) rfl)).trans ?_
  refine (seq_nx ((loop_ok (seq_ok (d := LF l) rfl rfl)).trans h)).trans ?_
  exact seq_rt (ret_ok (d := FR (l.foldl plusQ (0, 1))) rfl)
noncomputable abbrev LP (ps : List ((Int × Nat) × List Nat)) : D := .lst (ps.map pD)
theorem run_share (P : Pts n ps) {h x : Nat} (hh : h < n) : F_share_in [LP ps, nD h, nD x] = .ok (FR (mixT ps h x)) := by
  have h12 := P.p12
  refine run_of (B := B_share_in) (n := 3) ?_
  unfold B_share_in
  have hc := comp_ok (nl := 2) (cap := [2, 1]) (fi := fSeq asSeq (fun r => getV r 0)) (ft := ftT (ftCons (ftN 0) (ftCons (ftN 1) ftNil))) (q := fTest (f2 (f2 (fun r => getV r 1) (fun r => getV r 3) ixA) (fun r => getV r 2) eqD)) (fe := fun r => getV r 0) (r := [some (LP ps), some (nD h), some (nD x)]) (l := ps) pD (fun p => decide (dA p.2 h = x)) (fun p => FR p.1) (seq_ok (d := LP ps) rfl rfl) (by omega) fun p hp => ⟨[some (FR p.1), some (TN p.2), some (nD x), some (nD h)], rfl, test_ok (f2_ok (b := nD x) (f2_ok (a := TN p.2) (b := nD h) rfl rfl (dA_at (dA_lt (P.ok p hp).2 hh).1)) rfl (eqD_n _ _)), fun _ => rfl⟩
  have e : ((ps.filter fun p => decide (dA p.2 h = x)).map fun p => FR p.1) = (sel ps h x).map FR := by unfold sel; rw [List.map_map]; rfl
  rw [e] at hc
  have hl := sel_len (ps := ps) h x
  exact seq_rt (ret_ok (call_ok (lc_ok hc ln_ok) (run_total (sel_bd P.ok h x) (by omega))))
theorem mixed_loop (P : Pts n ps) : ∀ (j i : Nat) (y : Option D), i + j = n →
    ∃ y', forF (ftN 3) L_mixed_0 ((List.range' i j).map nD) [some (LP ps), some (nD n), some (.lst ((List.range i).map fun h => TF ((List.range n).map (mixT ps h)))), y] = .nx [some (LP ps), some (nD n), some (.lst ((List.range n).map fun h => TF ((List.range n).map (mixT ps h)))), y']
  | 0, i, y, h => by
    have : i = n := by omega
    subst this
    exact ⟨y, for_nil⟩
  | j + 1, i, y, h => by
    have hn := P.n7
    obtain ⟨y', ih⟩ := mixed_loop P j (i + 1) (some (nD i)) (by omega)
    refine ⟨y', ?_⟩
    rw [← ih, List.range'_succ, List.map_cons]
    refine for_nx (r1 := [some (LP ps), some (nD n), some (.lst ((List.range i).map fun h => TF ((List.range n).map (mixT ps h)))), some (nD i)]) rfl ?_
    rw [show (List.range (i + 1)).map (fun h => TF ((List.range n).map (mixT ps h))) = (List.range i).map (fun h => TF ((List.range n).map (mixT ps h))) ++ [TF ((List.range n).map (mixT ps i))] by rw [List.range_succ, List.map_append]; rfl]
    have hc := compT_ok (nl := 1) (cap := [0, 3]) (fi := fRng rng1 (lCons (fun r => getV r 1) lNil)) (ft := ftN 0) (fe := callF (lCons (fun r => getV r 1) (lCons (fun r => getV r 2) (lCons (fun r => getV r 0) lNil))) [] F_share_in) (r := [some (LP ps), some (nD n), some (.lst ((List.range i).map fun h => TF ((List.range n).map (mixT ps h)))), some (nD i)]) (l := List.range n) nD (fun x => FR (mixT ps i x)) (fRng_ok (lc_ok (d := nD n) rfl ln_ok) (rng1_n (by omega))) (by simp; omega) fun x _ => ⟨[some (nD x), some (LP ps), some (nD i)], rfl, call_ok (lc_ok (d := LP ps) rfl (lc_ok (d := nD i) rfl (lc_ok (d := nD x) rfl ln_ok))) (run_share P (by omega))⟩
    refine seq_nx (mut_ok (d := .lst ((List.range i).map fun h => TF ((List.range n).map (mixT ps h)))) (ds := [TF ((List.range n).map (mixT ps i))]) rfl rfl (lc_ok (fC_ok (lc_ok hc ln_ok) ?_) ln_ok) (appD_ok (by simp; omega)))
    rw [e_tupL]
    show some (D.tup _) = some (D.tup (List.map FR _))
    rw [List.map_map]; rfl
theorem run_mixed (P : Pts n ps) : F_mixed [LP ps] = .ok (TB (mixT ps) n) := by
  have hn := P.n7
  obtain ⟨y, e⟩ := mixed_loop P n 0 none (by omega)
  rw [← List.range_eq_range'] at e
  refine run_of (B := B_mixed) (n := 4) ?_
  unfold B_mixed
  have h0 : ∃ p, p ∈ ps ∧ ixA (LP ps) (.int 0) = some (pD p) := by
    cases hp : ps with
    | nil => have := P.p1; rw [hp] at this; simp at this
    | cons p t => exact ⟨p, List.mem_cons_self, ixA_L0 _ _⟩
  obtain ⟨p, hp, h0⟩ := h0
  have h1 : ixA (pD p) (.int 1) = some (TN p.2) := ixA_T (i := 1) rfl
  refine (seq_nx (set_ok (d := nD n) (fC_ok (lc_ok (f2_ok (b := .int 1) (f2_ok (a := LP ps) (b := .int 0) rfl rfl h0) rfl h1) ln_ok) (by rw [lenT_map, (P.ok p hp).2.length_eq, List.length_range])))).trans ?_
  refine (seq_nx (set_ok (d := .lst []) (mkL_ok ln_ok (by simp)))).trans ?_
  refine (seq_nx ((loop_ok (fRng_ok (lc_ok (d := nD n) rfl ln_ok) (rng1_n (by omega)))).trans e)).trans ?_
  exact seq_rt (ret_ok (fC_ok (lc_ok (d := .lst ((List.range n).map fun h => TF ((List.range n).map (mixT ps h)))) rfl ln_ok) rfl))
end
noncomputable abbrev RL (n : Nat) (q : Nat → Int × Nat) : D := .lst ((List.range n).map fun x => FR (q x))
theorem mi_inner {d0 d1 d2 : D} {n h : Nat} (hh : h < n) : ∀ (ps : List ((Int × Nat) × List Nat)) (k : Nat) (q : Nat → Int × Nat) (x5 x6 : Option D), (∀ p ∈ ps, Pp n p) → (∀ x, Bd k (q x)) → k + 11 * ps.length ≤ 498 →
    ∃ (y5 y6 : Option D), forF (ftT (ftCons (ftN 5) (ftCons (ftN 6) ftNil))) L__law_mixed_0 (ps.map pD) [some d0, some d1, some d2, some (nD h), some (RL n q), x5, x6] = .nx [some d0, some d1, some d2, some (nD h), some (RL n fun x => mixF ps h x (q x)), y5, y6]
  | [], k, q, x5, x6, _, hq, hk => ⟨x5, x6, for_nil⟩
  | p :: ps, k, q, x5, x6, hp, hq, hk => by
    rw [List.length_cons] at hk
    obtain ⟨b1, b2⟩ := hp p List.mem_cons_self
    obtain ⟨hhl, hg⟩ := dA_lt b2 hh
    have hix := dA_at hhl
    obtain ⟨y5, y6, e2⟩ := mi_inner (d0 := d0) (d1 := d1) (d2 := d2) hh ps (k + 11) (fun y => if y = dA p.2 h then plusQ (q y) p.1 else q y) (some (FR p.1)) (some (TN p.2)) (fun r hr => hp r (List.mem_cons_of_mem _ hr)) (fun x => by
      show Bd (k + 11) (if x = dA p.2 h then _ else _)
      by_cases e : x = dA p.2 h
      · rw [if_pos e]; exact ((hq _).plus b1).mono (by omega)
      · rw [if_neg e]; exact (hq x).mono (by omega)) (by omega)
    refine ⟨y5, y6, ?_⟩
    have er : (fun x => mixF (p :: ps) h x (q x)) = fun x => mixF ps h x (if x = dA p.2 h then plusQ (q x) p.1 else q x) := by
      funext x; exact mixF_cons p ps h x (q x)
    rw [List.map_cons, er, ← e2]
    refine for_nx (r1 := [some d0, some d1, some d2, some (nD h), some (RL n q), some (FR p.1), some (TN p.2)]) rfl ?_
    have es := sto_R (n := n) (f := fun x => FR (q x)) (v := FR (plusQ (q (dA p.2 h)) p.1)) hg
    have ef : ((List.range n).map fun y => if y = dA p.2 h then FR (plusQ (q (dA p.2 h)) p.1) else FR (q y)) = (List.range n).map fun y => FR (if y = dA p.2 h then plusQ (q y) p.1 else q y) := by
      refine List.map_congr_left fun y _ => ?_
      by_cases e : y = dA p.2 h
      · rw [if_pos e, if_pos e, e]
      · rw [if_neg e, if_neg e]
    rw [ef] at es
    exact seq_nx (put_ok (d := RL n q) (k := nD (dA p.2 h)) rfl (call_ok (lc_ok (f2_ok (a := RL n q) rfl (f2_ok (a := TN p.2) (b := nD h) rfl rfl hix) (ix_R hg)) (lc_ok (d := FR p.1) rfl ln_ok)) (run_lplus (hq _) b1 (by omega))) (f2_ok (a := TN p.2) (b := nD h) rfl rfl hix) es)
theorem mi_outer {n : Nat} {ps : List ((Int × Nat) × List Nat)} (P : Pts n ps) : ∀ (j i : Nat) (x3 x4 x5 x6 : Option D), i + j = n →
    ∃ (y3 y4 y5 y6 : Option D), forF (ftN 3) L__law_mixed_1 ((List.range' i j).map nD) [some (LP ps), some (nD n), some (.lst ((List.range i).map fun h => TF ((List.range n).map (mixT ps h)))), x3, x4, x5, x6] = .nx [some (LP ps), some (nD n), some (.lst ((List.range n).map fun h => TF ((List.range n).map (mixT ps h)))), y3, y4, y5, y6]
  | 0, i, x3, x4, x5, x6, h => by
    have : i = n := by omega
    subst this
    exact ⟨x3, x4, x5, x6, for_nil⟩
  | j + 1, i, x3, x4, x5, x6, h => by
    have hi : i < n := by omega
    have hn := P.n7
    have h12 := P.p12
    obtain ⟨y5, y6, e2⟩ := mi_inner (d0 := LP ps) (d1 := nD n) (d2 := .lst ((List.range i).map fun h => TF ((List.range n).map (mixT ps h)))) hi ps 1 (fun _ => (0, 1)) x5 x6 P.ok (fun _ => bd01) (by omega)
    obtain ⟨z3, z4, z5, z6, i2⟩ := mi_outer P j (i + 1) (some (nD i)) (some (RL n (mixT ps i))) y5 y6 (by omega)
    refine ⟨z3, z4, z5, z6, ?_⟩
    rw [← i2, List.range'_succ, List.map_cons]
    refine for_nx (r1 := [some (LP ps), some (nD n), some (.lst ((List.range i).map fun h => TF ((List.range n).map (mixT ps h)))), some (nD i), x4, x5, x6]) rfl ?_
    refine (seq_nx (set_ok (d := RL n fun _ => (0, 1)) (compT_ok (l := List.range n) nD (fun _ => FR (0, 1)) (fRng_ok (lc_ok (d := nD n) rfl ln_ok) (rng1_n (by omega))) (by simp; omega) fun x _ => ⟨[some (nD x)], rfl, mkT_ok (lc_ok (d := .int 0) rfl (lc_ok (d := .int 1) rfl ln_ok)) (by simp)⟩))).trans ?_
    refine (seq_nx ((loop_ok (seq_ok (d := LP ps) rfl rfl)).trans e2)).trans ?_
    rw [show (List.range (i + 1)).map (fun h => TF ((List.range n).map (mixT ps h))) = (List.range i).map (fun h => TF ((List.range n).map (mixT ps h))) ++ [TF ((List.range n).map (mixT ps i))] by rw [List.range_succ, List.map_append]; rfl]
    refine seq_nx (mut_ok (d := .lst ((List.range i).map fun h => TF ((List.range n).map (mixT ps h)))) (ds := [TF ((List.range n).map (mixT ps i))]) rfl rfl (lc_ok (fC_ok (lc_ok (d := RL n (mixT ps i)) rfl ln_ok) ?_) ln_ok) (appD_ok (by simp; omega)))
    rw [e_tupL]
    show some (D.tup _) = some (D.tup (List.map FR _))
    rw [List.map_map]; rfl
theorem run_lmixed {n : Nat} {ps : List ((Int × Nat) × List Nat)} (P : Pts n ps) : F__law_mixed [LP ps, nD n] = .ok (TB (mixT ps) n) := by
  have hn := P.n7
  obtain ⟨y3, y4, y5, y6, e2⟩ := mi_outer P n 0 none none none none (by omega)
  rw [← List.range_eq_range'] at e2
  refine run_of (B := B__law_mixed) (n := 7) ?_
  unfold B__law_mixed
  refine (seq_nx (set_ok (d := .lst []) (mkL_ok ln_ok (by simp)))).trans ?_
  refine (seq_nx ((loop_ok (fRng_ok (lc_ok (d := nD n) rfl ln_ok) (rng1_n (by omega)))).trans e2)).trans ?_
  exact seq_rt (ret_ok (fC_ok (lc_ok (d := .lst ((List.range n).map fun h => TF ((List.range n).map (mixT ps h)))) rfl ln_ok) rfl))
theorem run_table {n : Nat} {ps : List ((Int × Nat) × List Nat)} (P : Pts n ps) : F__law_is_table [TB (mixT ps) n, nD n, nD n] = .ok (.bl true) := by
  have hn := P.n7
  refine run_of (B := B__law_is_table) (n := 4) ?_
  unfold B__law_is_table
  have hlen : lenD [TB (mixT ps) n] = some (nD n) := by rw [lenT_map, List.length_range]
  have hne := neD_n n n
  rw [decide_eq_true rfl] at hne
  refine (seq_nx ((if_f ?_).trans (e_skip _))).trans ?_
  · rw [or_f (not_ok (b := true) (tru_ok' (f1_ok (a := TB (mixT ps) n) (d := .bl true) rfl rfl) rfl))]
    exact test_ok (f2_ok (b := nD n) (fC_ok (lc_ok (d := TB (mixT ps) n) rfl ln_ok) hlen) rfl hne)
  have lp : ∀ (l : List Nat) (y : Option D), (∀ h ∈ l, h < n) → ∃ y', forF (ftN 3) L__law_is_table_0 (l.map fun h => TF ((List.range n).map (mixT ps h))) [some (TB (mixT ps) n), some (nD n), some (nD n), y] = .nx [some (TB (mixT ps) n), some (nD n), some (nD n), y'] := by
    intro l
    induction l with
    | nil => exact fun y _ => ⟨y, for_nil⟩
    | cons h l ih =>
      intro y hl
      obtain ⟨y', e⟩ := ih (some (TF ((List.range n).map (mixT ps h)))) fun z hz => hl z (List.mem_cons_of_mem _ hz)
      refine ⟨y', ?_⟩
      rw [List.map_cons, ← e]
      refine for_nx (r1 := [some (TB (mixT ps) n), some (nD n), some (nD n), some (TF ((List.range n).map (mixT ps h)))]) rfl ?_
      refine seq_nx ((if_f ?_).trans (e_skip _))
      have hlr : lenD [TF ((List.range n).map (mixT ps h))] = some (nD n) := by rw [lenT_map, List.length_map, List.length_range]
      rw [or_f (not_ok (b := true) (tru_ok' (f1_ok (a := TF ((List.range n).map (mixT ps h))) (d := .bl true) rfl rfl) rfl)), or_f (test_ok (f2_ok (b := nD n) (fC_ok (lc_ok (d := TF ((List.range n).map (mixT ps h))) rfl ln_ok) hlr) rfl hne))]
      refine not_ok (b := true) (tru_ok' (d := .bl true) (fC_ok (lc_ok (compT_ok (l := (List.range n).map (mixT ps h)) FR (fun _ => .bl true) (seq_ok (d := TF ((List.range n).map (mixT ps h))) rfl rfl) (by simp; omega) fun q hq => ⟨[some (FR q)], rfl, ?_⟩) ln_ok) ?_) rfl)
      · obtain ⟨x, _, rfl⟩ := List.mem_map.mp hq
        exact call_ok (lc_ok (d := FR (mixT ps h x)) rfl ln_ok) (run_isfr (P.bd h x) (P.cop h x) (by omega))
      · have := all_m (fun _ : Int × Nat => true) ((List.range n).map (mixT ps h))
        rw [List.all_eq_true.mpr (fun _ _ => rfl)] at this
        exact this
  obtain ⟨y', e⟩ := lp (List.range n) none fun h hh => List.mem_range.mp hh
  refine (seq_nx ((loop_ok (seq_ok (d := TB (mixT ps) n) rfl rfl)).trans e)).trans ?_
  exact seq_rt (ret_ok rfl)
noncomputable def Nm : Nat → D → Prop
  | _, .int _ => True
  | k + 1, .tup ds => ∀ d ∈ ds, Nm k d
  | k + 1, .lst ds => ∀ d ∈ ds, Nm k d
  | _, _ => False
theorem eqvAll_r {k : Nat} (ih : ∀ d, Nm k d → PyData.eqv (toPy d) (toPy d) = true) : ∀ ds : List D, (∀ d ∈ ds, Nm k d) → PyData.eqvAll (toPys ds) (toPys ds) = true
  | [], _ => by simp [toPys, PyData.eqvAll]
  | d :: ds, h => by
    have h1 := ih d (h d List.mem_cons_self)
    have h2 := eqvAll_r ih ds fun x hx => h x (List.mem_cons_of_mem _ hx)
    simp only [toPys, PyData.eqvAll, h1, h2, Bool.and_self]
theorem nm_eqv : ∀ (k : Nat) (d : D), Nm k d → PyData.eqv (toPy d) (toPy d) = true := by
  intro k
  induction k with
  | zero => intro d h; cases d <;> simp_all [Nm, toPy, PyData.eqv]
  | succ k ih =>
    intro d h
    cases d with
    | int i => simp [toPy, PyData.eqv]
    | tup ds => simp only [toPy, PyData.eqv]; exact eqvAll_r ih ds h
    | lst ds => simp only [toPy, PyData.eqv]; exact eqvAll_r ih ds h
    | _ => simp [Nm] at h
theorem nm_shp : ∀ (k : Nat) (d : D), Nm k d → Shp k d := by
  intro k
  induction k with
  | zero => intro d h; cases d <;> simp_all [Nm, Shp]
  | succ k ih =>
    intro d h
    cases d with
    | int i => trivial
    | tup ds => exact shp_tup.mpr fun x hx => ih x (h x hx)
    | lst ds => exact shp_lst.mpr fun x hx => ih x (h x hx)
    | _ => simp [Nm] at h
theorem nm_eqD {d : D} (h : Nm 60 d) (hs : scalD d d = false) : eqD d d = some (.bl true) := by
  unfold eqD
  rw [eqB_deep hs (nm_shp 60 d h) (nm_shp 60 d h)]
  unfold eqb
  rw [nm_eqv 60 d h]; rfl
theorem nm_FR {k : Nat} (q : Int × Nat) : Nm (k + 1) (FR q) := by
  intro d hd
  simp at hd
  rcases hd with rfl | rfl <;> (cases k <;> trivial)
theorem nm_TN {k : Nat} (l : List Nat) : Nm (k + 1) (TN l) := by
  intro d hd
  obtain ⟨x, _, rfl⟩ := List.mem_map.mp hd
  cases k <;> trivial
theorem nm_TB (tb : Nat → Nat → Int × Nat) (n : Nat) : Nm 60 (TB tb n) := by
  intro d hd
  obtain ⟨h, _, rfl⟩ := List.mem_map.mp hd
  intro e he
  obtain ⟨q, _, rfl⟩ := List.mem_map.mp he
  exact nm_FR q
theorem nm_LP (ps : List ((Int × Nat) × List Nat)) : Nm 60 (LP ps) := by
  intro d hd
  obtain ⟨p, _, rfl⟩ := List.mem_map.mp hd
  intro e he
  simp at he
  rcases he with rfl | rfl
  · exact nm_FR p.1
  · exact nm_TN p.2
noncomputable def pA (ps : List ((Int × Nat) × List Nat)) (k : Nat) : (Int × Nat) × List Nat := (ps[k]?).getD ((0, 1), [])
theorem pA_mem {ps : List ((Int × Nat) × List Nat)} {k : Nat} (h : k < ps.length) : pA ps k ∈ ps := by
  unfold pA
  rw [List.getElem?_eq_getElem h]
  exact List.getElem_mem _
theorem pA_at {ps : List ((Int × Nat) × List Nat)} {k : Nat} (h : k < ps.length) : ixA (LP ps) (nD k) = some (pD (pA ps k)) := by
  refine ixA_L ?_
  rw [List.getElem?_map, List.getElem?_eq_getElem h]
  unfold pA
  rw [List.getElem?_eq_getElem h]; rfl
theorem enu_LP (ps : List ((Int × Nat) × List Nat)) : enuD 0 (ps.map pD) = (List.range ps.length).map fun k => D.tup [nD k, pD (pA ps k)] := by
  refine List.ext_getElem? fun j => ?_
  rw [enuD_get, List.getElem?_map, List.getElem?_map]
  by_cases h : j < ps.length
  · rw [List.getElem?_eq_getElem h, List.getElem?_range h]
    unfold pA
    simp only [Option.map_some, Nat.zero_add]
    rw [List.getElem?_eq_getElem h]; rfl
  · rw [List.getElem?_eq_none (by omega), List.getElem?_eq_none (by simp; omega)]; rfl
theorem main (ns : List Int) (_ : ns.length ≤ 63) : F_law [.lst (ns.map .int)] = .ok (.bl true) := by
  obtain ⟨c, hc⟩ := run_cell ns 1 (by omega)
  have hn7 : c % 7 < 7 := Nat.mod_lt _ (by omega)
  have hm12 : c / 7 % 12 < 12 := Nat.mod_lt _ (by omega)
  obtain ⟨ps, s1, s2, s3⟩ := run_parts ns 2 (1 + c % 7) (1 + c / 7 % 12) (by omega) (by omega) (by omega) (by omega)
  have P : Pts (1 + c % 7) ps := ⟨by omega, by omega, by omega, by omega, s2⟩
  generalize hn : 1 + c % 7 = n at P s3
  have hcell : callF (lCons (fun r => getV r 0) (lCons (fun _ => Res.ok (D.int 1)) lNil)) [] F__law_cell = callF (lCons (fun r => getV r 0) (lCons (fun _ => Res.ok (nD 1)) lNil)) [] F__law_cell := rfl
  refine run_of (B := B_law) (n := 5) ?_
  unfold B_law
  refine (seq_nx (set_ok (d := nD n) (f2_ok (a := nD 1) rfl (f2_ok (b := nD 7) (call_ok (lc_ok (d := IN ns) rfl (lc_ok (d := nD 1) rfl ln_ok)) hc) rfl (modI_n (by omega))) (by rw [addA_n, hn])))).trans ?_
  refine (seq_nx (set_ok (d := LP ps) (call_ok (lc_ok (d := IN ns) rfl (lc_ok (d := nD 2) rfl (lc_ok (d := nD n) rfl (lc_ok (d := nD (1 + c / 7 % 12)) (f2_ok (a := nD 1) rfl (f2_ok (b := nD 12) (f2_ok (b := nD 7) (call_ok (lc_ok (d := IN ns) rfl (lc_ok (d := nD 1) rfl ln_ok)) hc) rfl (fdivI_n (by omega) (by omega))) rfl (modI_n (by omega))) (addA_n _ _)) ln_ok)))) s3))).trans ?_
  suffices h : ∃ ps', Pts n ps' ∧ (ifF [Md.sh, Md.sh, Md.sh, Md.sh, Md.sh] (fTest (f2 (f2 (f2 (callF (lCons (fun r => getV r 0) (lCons (fun _ => Res.ok (D.int 1)) lNil)) [] F__law_cell) (fun _ => Res.ok (D.int 84)) fdivI) (fun _ => Res.ok (D.int 2)) modI) (fun _ => Res.ok (D.int 1)) eqD)) (seqF (setF [Md.sh, Md.sh, Md.sh, Md.sh, Md.sh] 2 (fComp 3 [2] (fEnu (fun r => getV r 2)) (ftT (ftCons (ftN 0) (ftCons (ftT (ftCons (ftN 1) (ftCons (ftN 2) ftNil))) ftNil))) (fun _ => Res.ok true) (mkT (lCons (fun r => getV r 1) (lCons (f2 (f2 (fun r => getV r 3) (f2 (fun r => getV r 0) (fun _ => Res.ok (D.int 2)) fdivI) ixA) (fun _ => Res.ok (D.int 1)) ixA) lNil))))) skipF) skipF) [some (IN ns), some (nD n), some (LP ps), none, none] = .nx [some (IN ns), some (nD n), some (LP ps'), none, none] by
    obtain ⟨qs, Q, e⟩ := h
    refine (seq_nx e).trans ?_
    refine (seq_nx (set_ok (d := LP qs) (fC_ok (lc_ok (d := LP qs) rfl ln_ok) rfl))).trans ?_
    refine (seq_nx (set_ok (call_ok (lc_ok (d := LP qs) rfl ln_ok) (run_mixed Q)))).trans ?_
    refine seq_rt (ret_ok ?_)
    rw [vand_t (call_ok (lc_ok (d := TB (mixT qs) n) rfl (lc_ok (d := nD n) rfl (lc_ok (d := nD n) rfl ln_ok))) (run_table Q))]
    rw [vand_t (f2_ok (a := TB (mixT qs) n) rfl (call_ok (lc_ok (d := LP qs) rfl (lc_ok (d := nD n) rfl ln_ok)) (run_lmixed Q)) (nm_eqD (nm_TB _ _) rfl))]
    exact f2_ok (a := LP qs) (b := LP qs) rfl rfl (nm_eqD (nm_LP _) rfl)
  have t0 := eqD_n (c / 84 % 2) 1
  have hp12 := P.p12
  by_cases z : c / 84 % 2 = 1
  · rw [decide_eq_true z] at t0
    refine ⟨(List.range ps.length).map fun k => ((pA ps k).1, (pA ps (k / 2)).2), ⟨P.n1, P.n7, by simpa using P.p1, by simpa using P.p12, fun p hp => ?_⟩, ?_⟩
    · obtain ⟨k, hk, rfl⟩ := List.mem_map.mp hp
      have hk := List.mem_range.mp hk
      exact ⟨(P.ok _ (pA_mem hk)).1, (P.ok _ (pA_mem (show k / 2 < ps.length by omega))).2⟩
    · refine (if_t (test_ok (f2_ok (b := nD 1) (f2_ok (b := nD 2) (f2_ok (b := nD 84) (call_ok (lc_ok (d := IN ns) rfl (lc_ok (d := nD 1) rfl ln_ok)) hc) rfl (fdivI_n (by omega) (by omega))) rfl (modI_n (by omega))) rfl t0))).trans ?_
      have hcc := compT_ok (nl := 3) (cap := [2]) (fi := fEnu (fun r => getV r 2)) (ft := ftT (ftCons (ftN 0) (ftCons (ftT (ftCons (ftN 1) (ftCons (ftN 2) ftNil))) ftNil))) (fe := mkT (lCons (fun r => getV r 1) (lCons (f2 (f2 (fun r => getV r 3) (f2 (fun r => getV r 0) (fun _ => Res.ok (D.int 2)) fdivI) ixA) (fun _ => Res.ok (D.int 1)) ixA) lNil))) (r := [some (IN ns), some (nD n), some (LP ps), none, none]) (l := List.range ps.length) (fun k => D.tup [nD k, pD (pA ps k)]) (fun k => pD ((pA ps k).1, (pA ps (k / 2)).2)) (by
        rw [← enu_LP]; rfl) (by simp; omega) fun k hk => ⟨[some (nD k), some (FR (pA ps k).1), some (TN (pA ps k).2), some (LP ps)], rfl, by
          have hk := List.mem_range.mp hk
          exact mkT_ok (lc_ok (d := FR (pA ps k).1) rfl (lc_ok (d := TN (pA ps (k / 2)).2) (f2_ok (b := .int 1) (f2_ok (a := LP ps) rfl (f2_ok (a := nD k) (b := nD 2) rfl rfl (fdivI_n (by omega) (by omega))) (pA_at (by omega))) rfl (ixA_T (i := 1) rfl)) ln_ok)) (by simp)⟩
      refine seq_nx (set_ok (hcc.trans ?_))
      show Res.ok (D.lst _) = Res.ok (D.lst (List.map pD _))
      rw [List.map_map]; rfl
  · rw [decide_eq_false z] at t0
    exact ⟨ps, P, (if_f (test_ok (f2_ok (b := nD 1) (f2_ok (b := nD 2) (f2_ok (b := nD 84) (call_ok (lc_ok (d := IN ns) rfl (lc_ok (d := nD 1) rfl ln_ok)) hc) rfl (fdivI_n (by omega) (by omega))) rfl (modI_n (by omega))) rfl t0))).trans rfl⟩
end Law
end
open PySem PySem.W PyProof.Rows
set_option Elab.async false
set_option maxRecDepth 100000 in
set_option maxHeartbeats 0 in
theorem PySem.Challenge.cw_ringtrade_k37_parts_mixed_holds : PySem.Challenge.rw_ringtrade_k37_parts_mixed.Holds := by
  w_on; o_law; k_head; (case hw => w_witness2)
  k_fill
  refine DL.walkD (l := PySem.Challenge.rw_ringtrade_k37_parts_mixed) (k := 7) (x := "_law_script") (F := Law.F_law) rfl rfl ⟨rfl, by decide, by decide⟩ (fun w h Y => PySem.W.kIn_of Y) Law.main ?C
  intro w mg fa h KX G hmg
  have T : Law.Txt (L2.KOf KX) mg := by
    dsimp only [L2.KOf]
    refine ⟨?b_len, ?b_abs, ?b_range, ?b_tuple, ?b_sum, ?b_isinstance, ?b_bool, ?b_int, ?b_all, ?b_enumerate, ?b_list, ?k_NOUGHT⟩
    case b_len => (refine' PySem.W.mg_none_of KX G ?z_b_len; k_is)
    case b_abs => (refine' PySem.W.mg_none_of KX G ?z_b_abs; k_is)
    case b_range => (refine' PySem.W.mg_none_of KX G ?z_b_range; k_is)
    case b_tuple => (refine' PySem.W.mg_none_of KX G ?z_b_tuple; k_is)
    case b_sum => (refine' PySem.W.mg_none_of KX G ?z_b_sum; k_is)
    case b_isinstance => (refine' PySem.W.mg_none_of KX G ?z_b_isinstance; k_is)
    case b_bool => (refine' PySem.W.mg_none_of KX G ?z_b_bool; k_is)
    case b_int => (refine' PySem.W.mg_none_of KX G ?z_b_int; k_is)
    case b_all => (refine' PySem.W.mg_none_of KX G ?z_b_all; k_is)
    case b_enumerate => (refine' PySem.W.mg_none_of KX G ?z_b_enumerate; k_is)
    case b_list => (refine' PySem.W.mg_none_of KX G ?z_b_list; k_is)
    case k_NOUGHT => (refine' DL.kc_pair KX G ?z_k_NOUGHT ?l_k_NOUGHT; (case z_k_NOUGHT => k_is); (case l_k_NOUGHT => k_is))
  have A__law_cell : DL.DefAt (L2.KOf KX) mg "_law_cell" Law.st__law_cell := by
    dsimp only [L2.KOf]
    refine' DL.def_mk KX G ?a ?l ?c ?k
    (case a => k_is)
    (case l => k_is)
    (case c => k_is)
    (case k => k_is)
  have A__law_common : DL.DefAt (L2.KOf KX) mg "_law_common" Law.st__law_common := by
    dsimp only [L2.KOf]
    refine' DL.def_mk KX G ?a ?l ?c ?k
    (case a => k_is)
    (case l => k_is)
    (case c => k_is)
    (case k => k_is)
  have A__law_low : DL.DefAt (L2.KOf KX) mg "_law_low" Law.st__law_low := by
    dsimp only [L2.KOf]
    refine' DL.def_mk KX G ?a ?l ?c ?k
    (case a => k_is)
    (case l => k_is)
    (case c => k_is)
    (case k => k_is)
  have A__law_row : DL.DefAt (L2.KOf KX) mg "_law_row" Law.st__law_row := by
    dsimp only [L2.KOf]
    refine' DL.def_mk KX G ?a ?l ?c ?k
    (case a => k_is)
    (case l => k_is)
    (case c => k_is)
    (case k => k_is)
  have A__law_parts : DL.DefAt (L2.KOf KX) mg "_law_parts" Law.st__law_parts := by
    dsimp only [L2.KOf]
    refine' DL.def_mk KX G ?a ?l ?c ?k
    (case a => k_is)
    (case l => k_is)
    (case c => k_is)
    (case k => k_is)
  have A_greatest_divisor : DL.DefAt (L2.KOf KX) mg "greatest_divisor" Law.st_greatest_divisor := by
    dsimp only [L2.KOf]
    refine' DL.def_mk KX G ?a ?l ?c ?k
    (case a => k_is)
    (case l => k_is)
    (case c => k_is)
    (case k => k_is)
  have A_is_whole : DL.DefAt (L2.KOf KX) mg "is_whole" Law.st_is_whole := by
    dsimp only [L2.KOf]
    refine' DL.def_mk KX G ?a ?l ?c ?k
    (case a => k_is)
    (case l => k_is)
    (case c => k_is)
    (case k => k_is)
  have A_fraction : DL.DefAt (L2.KOf KX) mg "fraction" Law.st_fraction := by
    dsimp only [L2.KOf]
    refine' DL.def_mk KX G ?a ?l ?c ?k
    (case a => k_is)
    (case l => k_is)
    (case c => k_is)
    (case k => k_is)
  have A_plus : DL.DefAt (L2.KOf KX) mg "plus" Law.st_plus := by
    dsimp only [L2.KOf]
    refine' DL.def_mk KX G ?a ?l ?c ?k
    (case a => k_is)
    (case l => k_is)
    (case c => k_is)
    (case k => k_is)
  have A_total : DL.DefAt (L2.KOf KX) mg "total" Law.st_total := by
    dsimp only [L2.KOf]
    refine' DL.def_mk KX G ?a ?l ?c ?k
    (case a => k_is)
    (case l => k_is)
    (case c => k_is)
    (case k => k_is)
  have A_share_in : DL.DefAt (L2.KOf KX) mg "share_in" Law.st_share_in := by
    dsimp only [L2.KOf]
    refine' DL.def_mk KX G ?a ?l ?c ?k
    (case a => k_is)
    (case l => k_is)
    (case c => k_is)
    (case k => k_is)
  have A_mixed : DL.DefAt (L2.KOf KX) mg "mixed" Law.st_mixed := by
    dsimp only [L2.KOf]
    refine' DL.def_mk KX G ?a ?l ?c ?k
    (case a => k_is)
    (case l => k_is)
    (case c => k_is)
    (case k => k_is)
  have A__law_is_fraction : DL.DefAt (L2.KOf KX) mg "_law_is_fraction" Law.st__law_is_fraction := by
    dsimp only [L2.KOf]
    refine' DL.def_mk KX G ?a ?l ?c ?k
    (case a => k_is)
    (case l => k_is)
    (case c => k_is)
    (case k => k_is)
  have A__law_is_table : DL.DefAt (L2.KOf KX) mg "_law_is_table" Law.st__law_is_table := by
    dsimp only [L2.KOf]
    refine' DL.def_mk KX G ?a ?l ?c ?k
    (case a => k_is)
    (case l => k_is)
    (case c => k_is)
    (case k => k_is)
  have A__law_plus : DL.DefAt (L2.KOf KX) mg "_law_plus" Law.st__law_plus := by
    dsimp only [L2.KOf]
    refine' DL.def_mk KX G ?a ?l ?c ?k
    (case a => k_is)
    (case l => k_is)
    (case c => k_is)
    (case k => k_is)
  have A__law_mixed : DL.DefAt (L2.KOf KX) mg "_law_mixed" Law.st__law_mixed := by
    dsimp only [L2.KOf]
    refine' DL.def_mk KX G ?a ?l ?c ?k
    (case a => k_is)
    (case l => k_is)
    (case c => k_is)
    (case k => k_is)
  have A_law : DL.DefAt (L2.KOf KX) mg "law" Law.st_law := by
    dsimp only [L2.KOf]
    refine' DL.def_mk KX G ?a ?l ?c ?k
    (case a => k_is)
    (case l => k_is)
    (case c => k_is)
    (case k => k_is)
  refine DL.law_fn hmg A_law (fun _ _ _ _ _ _ us hl => match us, hl with | [_], _ => rfl) fun f fd Fn base => ?_
  have C__law_cell := Law.ok__law_cell (P := PySem.Challenge.rw_ringtrade_k37_parts_mixed.prog) (w := w) (base := base) T A__law_cell
  have C__law_common := Law.ok__law_common (P := PySem.Challenge.rw_ringtrade_k37_parts_mixed.prog) (w := w) (base := base) T A__law_common
  have C__law_low := Law.ok__law_low (P := PySem.Challenge.rw_ringtrade_k37_parts_mixed.prog) (w := w) (base := base) T A__law_low C__law_common
  have C__law_row := Law.ok__law_row (P := PySem.Challenge.rw_ringtrade_k37_parts_mixed.prog) (w := w) (base := base) T A__law_row
  have C__law_parts := Law.ok__law_parts (P := PySem.Challenge.rw_ringtrade_k37_parts_mixed.prog) (w := w) (base := base) T A__law_parts C__law_cell C__law_row C__law_low
  have C_greatest_divisor := Law.ok_greatest_divisor (P := PySem.Challenge.rw_ringtrade_k37_parts_mixed.prog) (w := w) (base := base) T A_greatest_divisor
  have C_is_whole := Law.ok_is_whole (P := PySem.Challenge.rw_ringtrade_k37_parts_mixed.prog) (w := w) (base := base) T A_is_whole
  have C_fraction := Law.ok_fraction (P := PySem.Challenge.rw_ringtrade_k37_parts_mixed.prog) (w := w) (base := base) T A_fraction C_is_whole C_greatest_divisor
  have C_plus := Law.ok_plus (P := PySem.Challenge.rw_ringtrade_k37_parts_mixed.prog) (w := w) (base := base) T A_plus C_fraction
  have C_total := Law.ok_total (P := PySem.Challenge.rw_ringtrade_k37_parts_mixed.prog) (w := w) (base := base) T A_total C_plus
  have C_share_in := Law.ok_share_in (P := PySem.Challenge.rw_ringtrade_k37_parts_mixed.prog) (w := w) (base := base) T A_share_in C_total
  have C_mixed := Law.ok_mixed (P := PySem.Challenge.rw_ringtrade_k37_parts_mixed.prog) (w := w) (base := base) T A_mixed C_share_in
  have C__law_is_fraction := Law.ok__law_is_fraction (P := PySem.Challenge.rw_ringtrade_k37_parts_mixed.prog) (w := w) (base := base) T A__law_is_fraction C__law_common
  have C__law_is_table := Law.ok__law_is_table (P := PySem.Challenge.rw_ringtrade_k37_parts_mixed.prog) (w := w) (base := base) T A__law_is_table C__law_is_fraction
  have C__law_plus := Law.ok__law_plus (P := PySem.Challenge.rw_ringtrade_k37_parts_mixed.prog) (w := w) (base := base) T A__law_plus C__law_low
  have C__law_mixed := Law.ok__law_mixed (P := PySem.Challenge.rw_ringtrade_k37_parts_mixed.prog) (w := w) (base := base) T A__law_mixed C__law_plus
  exact Law.ok_law T Fn C__law_cell C__law_parts C_mixed C__law_mixed C__law_is_table
