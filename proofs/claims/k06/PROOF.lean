import PyProof.Rows.All
import Wide.All
import OpenK.AllK
import Wide.FinOn
import Lean
import PyProof.EqAt
import PyProof.EqKinds
import PyProof.TupleCall
import PyProof.Rows.SetFrom
import KE.KSortTup
import PyProof.Draws
import PyProof.EnumMake
import PyProof.ListRange
import PyProof.Rows.EnumRows
import PyProof.SetRoads
import PyProof.Rows.MinMaxN
import PyProof.Rows.MaxTwoN
import PySem.Challenge.RW_ringtrade_k06_refusals_made
set_option Elab.async false
set_option linter.all false
set_option maxRecDepth 100000
set_option maxHeartbeats 4000000
section
namespace L2
open PySem PySem.Spec PyProof.Rows
noncomputable abbrev Key := Sum Int Str
noncomputable def zdd : Key→Value→Bool
  | .inl k,v => Value.isInt k v
  | .inr x,v => Value.isStrOf x v
noncomputable def keyH (w : World) : Key→Int
  | .inl k => hashInt k
  | .inr x => hashStr w x
theorem keyIs_shape : ∀ {k : Key} {v : Value},zdd k v = true→(∃ i t,k = Sum.inl i∧v = Value.int i t)∨(∃ x t,k = Sum.inr x∧v = Value.str x t)
  | .inl i,v,h => by
    obtain ⟨t,e⟩ := Value.isInt_shape (k := i) (v := v) h
    exact .inl ⟨i,t,rfl,e⟩
  | .inr x,v,h => by
    obtain ⟨t,e⟩ := Value.isStrOf_shape (x := x) (v := v) h
    exact .inr ⟨x,t,rfl,e⟩
theorem zdN (i : Int) (t : Tok) : zdd (.inl i) (.int i t) = true := by simp [zdd,Value.isInt]
theorem zdM (x : Str) (t : Tok) : zdd (.inr x) (.str x t) = true := by simp [zdd,Value.isStrOf]
theorem zg8 (a b : Int) : decide ((Sum.inl a : Key) = Sum.inl b) = (a == b) := by
  by_cases e : a = b
  · subst e; simp
  · have h : ¬ (Sum.inl a : Key) = Sum.inl b := fun q => e (Sum.inl.inj q)
    rw [decide_eq_false h]
    exact (beq_eq_false_iff_ne.mpr e).symm
theorem zg5 (a b : Str) : decide ((Sum.inr a : Key) = Sum.inr b) = decide (a = b) := by
  by_cases e : a = b
  · subst e; simp
  · have h : ¬ (Sum.inr a : Key) = Sum.inr b := fun q => e (Sum.inr.inj q)
    rw [decide_eq_false h,decide_eq_false e]
theorem zg7 (a : Int) (b : Str) : decide ((Sum.inl a : Key) = Sum.inr b) = false := decide_eq_false (fun q => nomatch q)
theorem zg6 (a : Str) (b : Int) : decide ((Sum.inr a : Key) = Sum.inl b) = false := decide_eq_false (fun q => nomatch q)
noncomputable def zaL (prog : Program) (w : World) : PySem.KeyKind prog w Key where
  is := zdd
  hash := keyH w
  inj := fun v a b ha hb => by
    rcases keyIs_shape ha with ⟨i,t,rfl,rfl⟩ | ⟨x,t,rfl,rfl⟩
    · rcases keyIs_shape hb with ⟨j,u,rfl,e⟩ | ⟨y,u,rfl,e⟩
      · injection e with e1 _; rw [e1]
      · exact nomatch e
    · rcases keyIs_shape hb with ⟨j,u,rfl,e⟩ | ⟨y,u,rfl,e⟩
      · exact nomatch e
      · injection e with e1 _; rw [e1]
  byValue := fun k v h => by
    rcases keyIs_shape h with ⟨i,t,rfl,rfl⟩ | ⟨x,t,rfl,rfl⟩ <;> rfl
  pyHash := fun hv h => by
    rcases keyIs_shape hv with ⟨i,t,rfl,rfl⟩ | ⟨x,t,rfl,rfl⟩
    · exact wpAny_pyHash_int h
    · exact wpAny_pyHash_str h
  eqBool := fun hu hv h => by
    rcases keyIs_shape hu with ⟨i,t,rfl,rfl⟩ | ⟨x,t,rfl,rfl⟩
    · rcases keyIs_shape hv with ⟨j,u,rfl,rfl⟩ | ⟨y,u,rfl,rfl⟩
      · rw [zg8] at h; exact wpAny_eqBool_int h
      · rw [zg7] at h; exact SeqAt.EqAt.int_str i t y u _ _ _ _ h
    · rcases keyIs_shape hv with ⟨j,u,rfl,rfl⟩ | ⟨y,u,rfl,rfl⟩
      · rw [zg6] at h; exact SeqAt.EqAt.str_int x t j u _ _ _ _ h
      · rw [zg5] at h; exact wpAny_eqBool_str h
  «strs» := fun k x t v h => by
    rcases keyIs_shape h with ⟨i,u,rfl,e⟩ | ⟨y,u,rfl,e⟩
    · exact nomatch e
    · injection e with e1 _
      subst e1
      cases v <;> rfl
theorem zcz (prog : Program) (w : World) (i : Int) (t : Tok) : (zaL prog w).is (.inl i) (.int i t) = true := zdN i t
theorem zcy (prog : Program) (w : World) (x : Str) (t : Tok) : (zaL prog w).is (.inr x) (.str x t) = true := zdM x t
end L2
namespace L2
open PySem PySem.Spec PyProof.Rows
inductive V where
  | non | bl (b : Bool) | int (i : Int) | str (x : Str) | byt (b : Array UInt8) | flt (b : UInt64) | ref (a : Addr) | ty (n : String)
  deriving DecidableEq
noncomputable def RelV : V→Value→Prop
  | .non,u => u = Value.none
  | .bl b,u => u = Value.bool b
  | .int i,u => ∃ t,u = Value.int i t
  | .str x,u => ∃ t,u = Value.str x t
  | .byt b,u => ∃ t,u = Value.bytes b t
  | .flt b,u => ∃ t,u = Value.float b t
  | .ref a,u => u = Value.ref a
  | .ty n,u => u = Value.type n
noncomputable abbrev Vals : List V→List Value→Prop := Paired RelV
theorem Vals.length {xs : List V} {us : List Value} (r : Vals xs us) : xs.length = us.length := Paired.length r
theorem Vals.get : ∀ {xs : List V} {us : List Value} {i : Nat} {x : V},Vals xs us→xs[i]? = some x→∃ u,us[i]? = some u∧RelV x u
  | _,_,_,_,.nil,e => by simp at e
  | _,_,0,_,.cons r _,e => by simp at e; subst e; exact ⟨_,rfl,r⟩
  | _,_,i + 1,x,.cons _ t,e => by
    obtain ⟨u,h1,h2⟩ := Vals.get (i := i) (x := x) t (by simpa using e)
    exact ⟨u,by simpa using h1,h2⟩
theorem Vals.set {x : V} {u : Value} (r : RelV x u) : ∀ {xs : List V} {us : List Value} (i : Nat),Vals xs us→Vals (xs.set i x) (us.set i u)
  | _,_,_,.nil => .nil
  | _,_,0,.cons _ t => .cons r t
  | _,_,i + 1,.cons q t => .cons q (Vals.set r i t)
theorem Vals.append {xs ys : List V} {us ws : List Value} (h : Vals xs us) (h' : Vals ys ws) : Vals (xs++ys) (us++ws) := by
  induction h with
  | nil => exact h'
  | cons r _ ih => exact .cons r ih
theorem Vals.take : ∀ {xs : List V} {us : List Value} (n : Nat),Vals xs us→Vals (xs.take n) (us.take n)
  | _,_,0,_ => .nil
  | _,_,_ + 1,.nil => .nil
  | _,_,n + 1,.cons r t => .cons r (Vals.take n t)
theorem Vals.drop : ∀ {xs : List V} {us : List Value} (n : Nat),Vals xs us→Vals (xs.drop n) (us.drop n)
  | _,_,0,r => r
  | _,_,_ + 1,.nil => .nil
  | _,_,n + 1,.cons _ t => Vals.drop n t
theorem Vals.none_of : ∀ {xs : List V} {us : List Value} {i : Nat},Vals xs us→xs[i]? = none→us[i]? = none := fun {xs us i} r e => by
  have h1 := r.length
  have h2 : xs.length≤i := List.getElem?_eq_none_iff.mp e
  exact List.getElem?_eq_none_iff.mpr (by omega)
noncomputable def RelO : Option V→Option Value→Prop
  | some v,some u => RelV v u
  | none,none => True
  | _,_ => False
noncomputable def KV {κ : Type} : List (κ × V)→List (κ × Value)→Prop := Paired fun (p : κ × V) (q : κ × Value) => p.1 = q.1∧RelV p.2 q.2
noncomputable def kV : Key→V
  | .inl i => .int i
  | .inr x => .str x
inductive HO where
  | lst (xs : List V)
  | tup (xs : List V)
  | dK (kvs : List (Key × V)) | dT (kvs : List (List Key × V))
  | set (S : Int→Bool) (n : Nat)
  | ins (C dx : Addr) (fs : List (Str × V))
  | own (x : Addr)
  | xd (fs : List (Str × V))
  | met (f x : Addr)
  | rng (lo hi : Int)
  | frz (o : Obj) (u : HO)
  | tbl (ps : Array Value)
  | ext (φ : Heap→Prop)
noncomputable abbrev Hp := Addr→Option HO
noncomputable def upd (H : Hp) (a : Addr) (o : HO) : Hp := fun b => if b = a then some o else H b
theorem zab {H : Hp} {a : Addr} {o : HO} : upd H a o a = some o := by unfold upd; rw [if_pos rfl]
theorem zaa {H : Hp} {a b : Addr} {o : HO} (h : b≠a) : upd H a o b = H b := by unfold upd; rw [if_neg h]
theorem zat {H : Hp} {a b : Addr} {o : HO} (h : H a = some o) (h' : H b = none) : a≠b := by
  intro e; subst e; rw [h] at h'; cases h'
section
variable (P : Program) (w : World)
noncomputable def zaz (H : Hp) (h : Heap) (a : Addr) : HO→Prop
  | .lst xs => xs.length≤sizeLine∧∃ (its : List Value) (n : Nat),Vals xs its∧h.get? a = some { cls := .type "list",data := .seq its.toArray n }
  | .tup xs => xs.length≤sizeLine∧∃ its : List Value,Vals xs its∧IsTup h a its.toArray∧∃ o,h.get? a = some o∧o.dict = none
  | .dK kvs => kvs.length≤sizeLine∧(a == sysModules) = false∧∃ vs,KV kvs vs∧h.DictOf (zaL P w) a vs
  | .dT kvs => kvs.length≤sizeLine∧(a == sysModules) = false∧∃ xs : List (List Key × Addr × Value),
      Paired (fun (p : List Key × V) (q : List Key × Addr × Value) => p.1 = q.1∧H q.2.1 = some (.tup (p.1.map kV))∧RelV p.2 q.2.2) kvs xs ∧
      ∃ o es ep,h.get? a = some o∧o.ExactDict∧o.data = .dict es ep∧es.toList = xs.map (entryOfKey (tupleKind (zaL P w)))∧(xs.map (·.1)).Nodup
  | .set S n => h.SetOf (intKind P w) a S n
  | .ins C dx fs => H dx = some (.own a)∧fs.length≤1000∧dx≠a∧h.get? a = some (PySem.W.instObj C dx) ∧
      ∃ mA,h.Ns1 dx mA∧(∀ f,RelO (fs.lookup f) (mA f))∧PySem.Within mA (fs.map (·.1))
  | .own _ => ∃ o,h.get? a = some o
  | .xd fs => ∃ mA,h.Ns1 a mA∧∀ f,RelO (fs.lookup f) (mA f)
  | .rng lo hi => ∃ t u v,h.get? a = some { cls := .type "range",data := .fields #[.int lo t,.int hi u,.int 1 v] }
  | .frz o u => h.get? a = some o∧zaz H h a u
  | .tbl ps => h.get? a = some { cls := .none,data := .fields ps }
  | .met f x => h.get? a = some (PySem.W.methodObj (.ref f) (.ref x))
  | .ext φ => φ h∧(∃ o,h.get? a = some o)∧∀ h1 h2 : Heap,φ h1→(∀ o,h1.get? a = some o→h2.get? a = some o)→φ h2
noncomputable def HOk (H : Hp) (h : Heap) : Prop := ∀ a o,H a = some o→zaz P w H h a o
end
section
variable {P : Program} {w : World} {H H' : Hp} {h h' : Heap} {a : Addr} {o : HO}
theorem zaz.lt (x : zaz P w H h a o) : a < h.objs.size := by
  cases o with
  | lst xs => obtain ⟨_,_,_,_,e⟩ := x; exact Heap.lt_size e
  | tup xs => obtain ⟨_,_,_,p,_⟩ := x; exact p.lt
  | dK kvs => obtain ⟨_,_,_,_,o,_,_,e,_⟩ := x; exact Heap.lt_size e
  | dT kvs => obtain ⟨_,_,_,_,o,_,_,e,_⟩ := x; exact Heap.lt_size e
  | set S n => obtain ⟨o,_,_,_,e,_⟩ := x; exact Heap.lt_size e
  | ins C dx fs => obtain ⟨_,_,_,e,_⟩ := x; exact Heap.lt_size e
  | own y => obtain ⟨_,e⟩ := x; exact Heap.lt_size e
  | xd fs => obtain ⟨_,⟨_,_,_,e,_⟩,_⟩ := x; exact Heap.lt_size e
  | rng lo hi => obtain ⟨_,_,_,e⟩ := x; exact Heap.lt_size e
  | frz ob u => obtain ⟨e,_⟩ := x; exact Heap.lt_size e
  | tbl ps => exact Heap.lt_size (show h.get? a = some _ from x)
  | met f y => exact Heap.lt_size (show h.get? a = some _ from x)
  | ext φ => obtain ⟨_,⟨_,e⟩,_⟩ := x; exact Heap.lt_size e
theorem Paired.mapP {α β : Type} {F G : α→β→Prop} {l₁ : List α} {l₂ : List β} (h : Paired F l₁ l₂) (f : ∀ a b,F a b→G a b) : Paired G l₁ l₂ := by
  induction h with
  | nil => exact .nil
  | cons r _ ih => exact .cons (f _ _ r) ih
theorem zaz.stay (x : zaz P w H h a o) (k : ∀ b u,(b = a∨H b = some (.own a))→h.get? b = some u→h'.get? b = some u)
    (ho : ∀ b,H b = some (.own a)→H' b = some (.own a)) (ht : ∀ b xs,H b = some (.tup xs)→H' b = some (.tup xs)) : zaz P w H' h' a o := by
  induction o with
  | lst xs => obtain ⟨z,its,n,r,e⟩ := x; exact ⟨z,its,n,r,k _ _ (.inl rfl) e⟩
  | tup xs => obtain ⟨z,its,r,⟨ob,e,c⟩,ob2,e2,c2⟩ := x; exact ⟨z,its,r,⟨ob,k _ _ (.inl rfl) e,c⟩,ob2,k _ _ (.inl rfl) e2,c2⟩
  | dK kvs => obtain ⟨z,y,vs,r,ob,es,ep,e,c⟩ := x; exact ⟨z,y,vs,r,ob,es,ep,k _ _ (.inl rfl) e,c⟩
  | dT kvs =>
    obtain ⟨z,y,xs,r,ob,es,ep,e,c⟩ := x
    exact ⟨z,y,xs,Paired.mapP r fun p q z => ⟨z.1,ht _ _ z.2.1,z.2.2⟩,ob,es,ep,k _ _ (.inl rfl) e,c⟩
  | set S n => obtain ⟨ob,es,ep,t,e,c⟩ := x; exact ⟨ob,es,ep,t,k _ _ (.inl rfl) e,c⟩
  | ins C dx fs =>
    obtain ⟨d,z,ne,e,mA,⟨od,es,ep,e2,c⟩,r⟩ := x
    exact ⟨ho _ d,z,ne,k _ _ (.inl rfl) e,mA,⟨od,es,ep,k _ _ (.inr d) e2,c⟩,r⟩
  | own y => obtain ⟨ob,e⟩ := x; exact ⟨ob,k _ _ (.inl rfl) e⟩
  | xd fs => obtain ⟨mA,⟨od,es,ep,e,c⟩,r⟩ := x; exact ⟨mA,⟨od,es,ep,k _ _ (.inl rfl) e,c⟩,r⟩
  | rng lo hi => obtain ⟨t,u,v,e⟩ := x; exact ⟨t,u,v,k _ _ (.inl rfl) e⟩
  | frz ob u ih => obtain ⟨e,q⟩ := x; exact ⟨k _ _ (.inl rfl) e,ih q⟩
  | tbl ps =>
    have e : h.get? a = some { cls := .none,data := .fields ps } := x
    show h'.get? a = some { cls := .none,data := .fields ps }
    exact k a _ (.inl rfl) e
  | met f y =>
    have e : h.get? a = some (PySem.W.methodObj (.ref f) (.ref y)) := x
    show h'.get? a = some (PySem.W.methodObj (.ref f) (.ref y))
    exact k a _ (.inl rfl) e
  | ext φ => obtain ⟨p,⟨o,e⟩,st⟩ := x; exact ⟨st _ _ p fun o q => k _ _ (.inl rfl) q,⟨o,k _ _ (.inl rfl) e⟩,st⟩
theorem HOk.lt (x : HOk P w H h) (e : H a = some o) : a < h.objs.size := (x a o e).lt
theorem HOk.fresh (x : HOk P w H h) (e : h.objs.size≤a) : H a = none := by
  cases q : H a with
  | none => rfl
  | some u => exact absurd (Nat.lt_of_lt_of_le (x.lt q) e) (Nat.lt_irrefl _)
theorem HOk.kept (x : HOk P w H h) (k : ∀ b u,h.get? b = some u→h'.get? b = some u) : HOk P w H h' := fun a o e =>
  (x a o e).stay (fun b u _ q => k b u q) (fun _ q => q) fun _ _ q => q
theorem HOk.laid (x : HOk P w H h) (k : ∀ b u,h.get? b = some u→h'.get? b = some u) (hp : h.objs.size≤a) (new : zaz P w (upd H a o) h' a o) : HOk P w (upd H a o) h' := fun b u e => by
  have hn := x.fresh hp
  by_cases hb : b = a
  · subst hb; rw [zab] at e; cases e; exact new
  · rw [zaa hb] at e
    exact (x b u e).stay (fun c v _ q => k c v q) (fun c q => by rw [zaa (zat q hn)]; exact q) fun c xs q => by rw [zaa (zat q hn)]; exact q
end
noncomputable def Rd (H : Hp) (a : Addr) (u : HO) : Prop := H a = some u∨∃ o,H a = some (.frz o u)
theorem Rd.of {H : Hp} {a : Addr} {u : HO} (h : H a = some u) : Rd H a u := .inl h
theorem Rd.ok {P : Program} {w : World} {H : Hp} {h : Heap} {a : Addr} {u : HO} (r : Rd H a u) (x : HOk P w H h) : zaz P w H h a u := by
  rcases r with r | ⟨o,r⟩
  · exact x a u r
  · obtain ⟨_,q⟩ := x a _ r
    exact q
noncomputable def Mut : Option HO→Prop
  | some (.lst _) => True
  | some (.dK _) => True
  | some (.dT _) => True
  | some (.set _ _) => True
  | some (.ins _ _ _) => True
  | some (.ext _) => True
  | _ => False
section
variable {P : Program} {w : World} {H : Hp} {h h' : Heap} {x e : Addr} {o' : HO}
theorem HOk.write (ok : HOk P w H h) (mu : Mut (H x)) (he : e = x∨H e = some (.own x)) (k : ∀ b u,b≠e→h.get? b = some u→h'.get? b = some u) (heo : ∃ u,h'.get? e = some u)
    (new : zaz P w (upd H x o') h' x o') : HOk P w (upd H x o') h' := fun b u q => by
  have nown : ∀ c y,H c = some (.own y)→c≠x := fun c y r z => by subst z; rw [r] at mu; exact mu
  have ntup : ∀ c xs,H c = some (.tup xs)→c≠x := fun c xs r z => by subst z; rw [r] at mu; exact mu
  by_cases hb : b = x
  · subst hb; rw [zab] at q; cases q; exact new
  · rw [zaa hb] at q
    by_cases hbe : b = e
    · have q' : H b = some (.own x) := by
        rcases he with z | z
        · exact absurd (hbe.trans z) hb
        · rw [hbe]; exact z
      rw [q] at q'; cases q'
      obtain ⟨v,hv⟩ := heo
      exact ⟨v,by rw [hbe]; exact hv⟩
    · refine (ok b u q).stay (fun c v hc r => k c v ?_ r) (fun c r => by rw [zaa (nown c b r)]; exact r) fun c xs r => by rw [zaa (ntup c xs r)]; exact r
      rcases hc with rfl | hc
      · exact hbe
      · rintro rfl
        rcases he with z | z
        · exact nown c b hc z
        · rw [hc] at z; cases z; exact hb rfl
end
structure Un (fs ex : List Addr) (H H' : Hp) (h h' : Heap) : Prop where
  keep : ∀ b o,h.get? b = some o→H b = none→b∉fs→b∉ex→h'.get? b = some o
  slot : ∀ b o,h.get? b = some o→H b = none→b∈fs→b∉ex→∃ sl,h'.get? b = some { o with slots := sl }
  free : ∀ b o,h.get? b = some o→H b = none→b∉ex→H' b = none
  there : ∀ b o,h.get? b = some o→b∉ex→∃ o',h'.get? b = some o'
  tups : ∀ b xs,H b = some (.tup xs)→H' b = some (.tup xs)
  frzs : ∀ b o u,H b = some (.frz o u)→H' b = some (.frz o u)
  tbls : ∀ b ps,H b = some (.tbl ps)→∃ more,H' b = some (.tbl (ps++more))
section
variable {fs fs' ex ex' : List Addr} {H H1 H2 : Hp} {h h1 h2 h' : Heap} {a x e : Addr} {o : HO}
theorem Un.any (u : Un fs ex H H1 h h1) {b : Addr} {ob : Obj} (q : h.get? b = some ob) (n : H b = none) (hx : b∉ex) : ∃ sl,h1.get? b = some { ob with slots := sl } := by
  by_cases hb : b∈fs
  · exact u.slot b ob q n hb hx
  · exact ⟨ob.slots,u.keep b ob q n hb hx⟩
theorem Un.trans (a : Un fs ex H H1 h h1) (b : Un fs ex H1 H2 h1 h2) : Un fs ex H H2 h h2 where
  keep := fun c ob q n hc hx => b.keep c ob (a.keep c ob q n hc hx) (a.free c ob q n hx) hc hx
  slot := fun c ob q n hc hx => by
    obtain ⟨sl,e1⟩ := a.slot c ob q n hc hx
    obtain ⟨sl',e2⟩ := b.slot c _ e1 (a.free c ob q n hx) hc hx
    exact ⟨sl',e2⟩
  free := fun c ob q n hx => by
    obtain ⟨o',e1⟩ := a.there c ob q hx
    exact b.free c o' e1 (a.free c ob q n hx) hx
  there := fun c ob q hx => by
    obtain ⟨o',e1⟩ := a.there c ob q hx
    exact b.there c o' e1 hx
  tups := fun c xs q => b.tups c xs (a.tups c xs q)
  frzs := fun c ob xs q => b.frzs c ob xs (a.frzs c ob xs q)
  tbls := fun c ps q => by
    obtain ⟨m1,e1⟩ := a.tbls c ps q
    obtain ⟨m2,e2⟩ := b.tbls c _ e1
    exact ⟨m1++m2,by rw [e2,Array.append_assoc]⟩
theorem Un.kept (k : ∀ b u,h.get? b = some u→h'.get? b = some u) : Un fs ex H H h h' :=
  ⟨fun b ob q _ _ _ => k b ob q,fun b ob q _ _ _ => ⟨ob.slots,k b ob q⟩,fun _ _ _ n _ => n,fun b ob q _ => ⟨ob,k b ob q⟩,fun _ _ q => q,fun _ _ _ q => q,fun _ ps q => ⟨#[],by rw [q]; simp⟩⟩
theorem Un.refl : Un fs ex H H h h := Un.kept fun _ _ q => q
theorem Un.laid (k : ∀ b u,h.get? b = some u→h'.get? b = some u) (hp : h.objs.size≤a) (hn : H a = none) : Un fs ex H (upd H a o) h h' where
  keep := fun b u q _ _ _ => k b u q
  slot := fun b u q _ _ _ => ⟨u.slots,k b u q⟩
  free := fun b u q n _ => by rw [zaa (Nat.ne_of_lt (Nat.lt_of_lt_of_le (Heap.lt_size q) hp))]; exact n
  there := fun b u q _ => ⟨u,k b u q⟩
  tups := fun b xs q => by rw [zaa (zat q hn)]; exact q
  frzs := fun b u xs q => by rw [zaa (zat q hn)]; exact q
  tbls := fun b ps q => ⟨#[],by rw [zaa (zat q hn),q]; simp⟩
theorem Un.write (mu : Mut (H x)) (he : e = x∨H e = some (.own x)) (k : ∀ b u,b≠e→h.get? b = some u→h'.get? b = some u) (heo : ∃ u,h'.get? e = some u) : Un fs ex H (upd H x o) h h' := by
  have hx : ∀ b,H b = none→b≠x := fun b n z => by subst z; rw [n] at mu; exact mu
  have hb : ∀ b,H b = none→b≠e := fun b n z => by
    subst z
    rcases he with r | r
    · exact hx b n r
    · rw [n] at r; cases r
  have hm : ∀ b u,H b = some u→¬ Mut (some u)→b≠x := fun b u q nm z => by subst z; rw [q] at mu; exact nm mu
  refine ⟨fun b u q n _ _ => k b u (hb b n) q,fun b u q n _ _ => ⟨u.slots,k b u (hb b n) q⟩,fun b u q n _ => by rw [zaa (hx b n)]; exact n,fun b u q _ => ?_,
    fun b xs q => by rw [zaa (hm b _ q fun z => z)]; exact q,fun b u xs q => by rw [zaa (hm b _ q fun z => z)]; exact q,fun b ps q => ⟨#[],by rw [zaa (hm b _ q fun z => z),q]; simp⟩⟩
  by_cases hbe : b = e
  · subst hbe; exact heo
  · exact ⟨u,k b u hbe q⟩
theorem Un.mono (u : Un fs ex H H1 h h1) (hs : ∀ b∈fs,b∈fs') (hx : ∀ b∈ex,b∈ex') : Un fs' ex' H H1 h h1 :=
  ⟨fun b ob q n hb he => u.keep b ob q n (fun z => hb (hs b z)) fun z => he (hx b z),fun _ _ q n _ he => u.any q n fun z => he (hx _ z),fun b ob q n he => u.free b ob q n fun z => he (hx b z),fun b ob q he => u.there b ob q fun z => he (hx b z),u.tups,u.frzs,u.tbls⟩
end
noncomputable def trk (h : Heap) (H : Hp) : List Addr := (List.range h.objs.size).filter fun a => (H a).isSome
noncomputable def hidT (h : Heap) (H : Hp) : Heap := PySem.W.hideAll h (trk h H)
theorem zdP (h : Heap) (H : Hp) : (hidT h H).objs.size = h.objs.size := PySem.W.hideAll_size _ _
theorem zeB {h : Heap} {H : Hp} {b : Addr} {o : Obj} (e : h.get? b = some o) (n : H b = none) : (hidT h H).get? b = some o :=
  PySem.W.hideAll_get _ e fun hm => by
    have q : (H b).isSome = true := (List.mem_filter.mp hm).2
    rw [n] at q; simp at q
theorem zfz {h : Heap} {H : Hp} {b : Addr} {o : Obj} (e : (hidT h H).get? b = some o) : h.get? b = some o∧H b = none := by
  have e' : h.get? b = some o := PySem.W.of_hideAll (trk h H) e
  refine ⟨e',?_⟩
  cases q : H b with
  | none => rfl
  | some x =>
    have hm : b∈trk h H := List.mem_filter.mpr ⟨List.mem_range.mpr (Heap.lt_size e'),by simp [q]⟩
    have z : (hidT h H).get? b = none := PySem.W.hideAll_none (trk h H) hm
    rw [z] at e; cases e
noncomputable def zf6 (g h : Heap) (L : Addr) : List (Addr × Obj) := (List.range h.objs.size).filterMap fun a => if a = L∨(g.get? a).isSome = true then none else (h.get? a).map fun o => (a,o)
noncomputable def rest (g h : Heap) (L d : Addr) : List (Addr × Obj) := (zf6 g h L).filter fun p => decide (p.1≠d)
end L2
namespace L2
open PySem PySem.Spec PyProof.Rows
structure Mod (K : PySem.W.Frag) (mg : Str→Option Value) (base : Heap) : Prop where
  kin : K.In base
  glob : base.Ns mainGlobals mg
  blt : ∃ mb,base.Ns builtinsNs mb∧∀ x : Str,x≠"__name__"→mb x = bootBuiltins x
  nolimit : base.NoLimit
structure Cx where
  prog : Program
  w : World
  K : PySem.W.Frag
  mg : Str→Option Value
  base : Heap
  A : Around
  N : List Str
  s₀ : Shared
  H₀ : Hp
  env : Env
  outer : List Env
  stack : List Env
  ex : List Addr
  fn : Str→Bool
  calm : Bool
  pn : List (Addr × Obj)
  xe : Value→Shared→Prop
noncomputable def frs (l : List Env) : List Addr := l.filterMap (·.frame)
noncomputable abbrev Cx.fs (X : Cx) : List Addr := frs X.outer
noncomputable def Vis (sc : Scope) (x : Str) : Prop := sc.names.lookup x = some .local∨sc.names.lookup x = some .cell∨sc.names.lookup x = some .free
noncomputable def Loc (sc : Scope) (x : Str) : Prop := sc.names.lookup x = some .local∨sc.names.lookup x = some .cell
noncomputable def Look (env : Env) (h : Heap) (m : Str→Option Value) (x : Str) (u : Value) : Prop :=
  (env.kindOf x = some .local∧m x = some u)∨((env.kindOf x = some .cell∨env.kindOf x = some .free)∧∃ c,env.cells.lookup x = some c∧h.IsCell c (some u))
structure Cx.Ok (X : Cx) : Prop where
  mod : Mod X.K X.mg X.base
  kind : X.env.scope.kind = .function
  glob : X.env.globals = mainGlobals
  blt : X.env.builtins = builtinsNs
  above : X.s₀.heap.objs.size≤X.env.locals
  inj : ∀ x y c,X.env.cells.lookup x = some c→X.env.cells.lookup y = some c→x = y
  has : ∀ x,(X.env.kindOf x = some .cell∨X.env.kindOf x = some .free)→∃ c,X.env.cells.lookup x = some c
  cab : ∀ x c,X.fn x = true→X.env.cells.lookup x = some c→X.s₀.heap.objs.size≤c
  hd : X.calm = true→X.A.handled = none
  frames : X.A.frames = some X.stack
  stk : X.stack = X.outer∨(X.stack = X.env::X.outer∧X.env.frame = some X.env.locals)
  exf : ∀ b∈X.ex,b≠X.env.locals∧∀ x c,X.env.cells.lookup x = some c→c≠b
  bs : ∀ b o,X.base.get? b = some o→X.s₀.heap.get? b = some o∧X.H₀ b = none
  bsz : X.base.objs.size≤X.s₀.heap.objs.size
  noex : ∀ b o,X.base.get? b = some o→b∉X.ex
  exfs : ∀ b∈X.ex,b∉X.fs
  funs : X.s₀.heap.FunFrames X.base X.outer
  frf : ∀ b∈X.fs,X.H₀ b = none
structure Inv (X : Cx) (pins : List (Addr × Obj)) (σ : List (Option V)) (H : Hp) (s : Shared) : Prop where
  ok : X.Ok
  os : s.os = X.s₀.os
  bare : AllBare s.gens
  base : Un X.fs X.ex X.H₀ H X.s₀.heap s.heap
  loc : ∃ m,s.heap.Ns X.env.locals m∧∀ (i : Nat) (x : Str) (v : V),X.N[i]? = some x→σ[i]? = some (some v)→Vis X.env.scope x→∃ u,RelV v u∧Look X.env s.heap m x u
  cell : ∀ x c,X.env.cells.lookup x = some c→∃ v,s.heap.IsCell c v
  free : H X.env.locals = none
  freeC : ∀ x c,X.env.cells.lookup x = some c→H c = none
  pin : ∀ p∈X.pn++pins,s.heap.get? p.1 = some p.2∧H p.1 = none∧p.1≠X.env.locals∧p.1∉X.fs∧∀ v,p.2.data≠.cell v
  hok : HOk X.prog X.w H s.heap
  len : σ.length = X.N.length
section
variable {X : Cx} {pins : List (Addr × Obj)} {σ : List (Option V)} {H H' : Hp} {s : Shared} {h' : Heap}
theorem Cx.Ok.nofr (ok : X.Ok) {b : Addr} {o : Obj} (e : X.base.get? b = some o) : b∉X.fs := fun hb => by
  have := (ok.funs.mem hb).1
  rw [e] at this; cases this
theorem Inv.bs (I : Inv X pins σ H s) : ∀ b o,X.base.get? b = some o→s.heap.get? b = some o∧H b = none := fun b o e =>
  ⟨I.base.keep b o (I.ok.bs b o e).1 (I.ok.bs b o e).2 (I.ok.nofr e) (I.ok.noex b o e),I.base.free b o (I.ok.bs b o e).1 (I.ok.bs b o e).2 (I.ok.noex b o e)⟩
theorem Inv.bk (I : Inv X pins σ H s) : ∀ b o,X.base.get? b = some o→s.heap.get? b = some o := fun b o e => (I.bs b o e).1
theorem Inv.mod (I : Inv X pins σ H s) : Mod X.K X.mg X.base := I.ok.mod
theorem Inv.kIn (I : Inv X pins σ H s) : X.K.In s.heap := I.ok.mod.kin.keeps I.bk
theorem Inv.nolimit (I : Inv X pins σ H s) : s.heap.NoLimit := I.ok.mod.nolimit.keeps I.bk
theorem Inv.fr (I : Inv X pins σ H s) : ∃ m,Fr X.base X.env.locals s.heap m :=
  let ⟨m,hn,_⟩ := I.loc
  ⟨m,hn,I.bk,Nat.le_trans I.ok.bsz I.ok.above⟩
theorem Inv.lt (I : Inv X pins σ H s) : X.env.locals < s.heap.objs.size := let ⟨_,hn,_⟩ := I.loc; hn.lt
theorem Inv.sz (I : Inv X pins σ H s) : X.s₀.heap.objs.size≤s.heap.objs.size := Nat.le_trans I.ok.above (Nat.le_of_lt I.lt)
theorem Inv.nofs (I : Inv X pins σ H s) {a : Addr} (h : s.heap.objs.size≤a) : a∉X.fs := fun hb => by
  obtain ⟨_,o,ho,_⟩ := I.ok.funs.mem hb
  exact absurd (Nat.lt_of_lt_of_le (Heap.lt_size ho) (Nat.le_trans I.sz h)) (Nat.lt_irrefl _)
theorem Inv.cne (I : Inv X pins σ H s) : ∀ x c,X.env.cells.lookup x = some c→c≠X.env.locals := fun x c e z => by
  obtain ⟨v,o,ho,hd⟩ := I.cell x c e
  obtain ⟨m,⟨o',es,ep,ho',hd',_⟩,_⟩ := I.loc
  rw [z,ho'] at ho; cases ho; rw [hd'] at hd; cases hd
theorem Inv.funs (I : Inv X pins σ H s) : s.heap.FunFrames X.base X.outer := by
  have all : ∀ (l : List Env),(∀ b∈frs l,b∈X.fs)→X.s₀.heap.FunFrames X.base l→s.heap.FunFrames X.base l := by
    intro l
    induction l with
    | nil => intro _ _; trivial
    | cons env r ih =>
      intro hs hl
      obtain ⟨hk,⟨L,o,hf,hn,ho,hd⟩,hr⟩ := hl
      have hL : L∈X.fs := hs L (by unfold frs; rw [List.filterMap_cons,hf]; exact List.mem_cons_self)
      obtain ⟨sl,e⟩ := I.base.slot L o ho (I.ok.frf L hL) hL fun z => I.ok.exfs L z hL
      exact ⟨hk,⟨L,_,hf,hn,e,hd⟩,ih (fun b hb => hs b (by unfold frs; rw [List.filterMap_cons,hf]; exact List.mem_cons_of_mem _ hb)) hr⟩
  exact all X.outer (fun _ hb => hb) I.ok.funs
theorem Inv.stack (I : Inv X pins σ H s) : s.heap.FunFrames X.base X.stack := by
  rcases I.ok.stk with e | ⟨e,hf⟩
  · rw [e]; exact I.funs
  · rw [e]
    obtain ⟨m,hn,_⟩ := I.loc
    refine .cons (by rw [I.ok.kind]; decide) hf hn ?_ I.funs
    exact Heap.get?_none_of_le (Nat.le_trans I.ok.bsz I.ok.above)
theorem Inv.stkSub (I : Inv X pins σ H s) : ∀ b∈frs X.stack,b∈X.env.locals::X.fs := fun b hb => by
  rcases I.ok.stk with e | ⟨e,hf⟩
  · rw [e] at hb; exact List.mem_cons_of_mem _ hb
  · rw [e] at hb
    unfold frs at hb
    rw [List.filterMap_cons,hf] at hb
    exact hb
theorem Inv.stkFree (I : Inv X pins σ H s) : ∀ b∈frs X.stack,H b = none := fun b hb => by
  rcases List.mem_cons.mp (I.stkSub b hb) with e | hb
  · rw [e]; exact I.free
  · obtain ⟨_,o,ho,_⟩ := I.ok.funs.mem hb
    exact I.base.free b o ho (I.ok.frf b hb) fun z => I.ok.exfs b z hb
theorem Inv.step {g' : Array GenState} {t' : Nat} {d' : Drawn} {ch : List Addr} (I : Inv X pins σ H s)
    (hch : ∀ b∈ch,(b∈X.ex∨X.s₀.heap.objs.size≤b)∧b≠X.env.locals∧(∀ x c,X.env.cells.lookup x = some c→c≠b)∧∀ p∈X.pn++pins,p.1≠b)
    (keep : ∀ b o,b≠X.env.locals→b∉X.fs→b∉ch→s.heap.get? b = some o→H b = none→h'.get? b = some o)
    (slot : ∀ b o,b≠X.env.locals→b∈X.fs→b∉ch→s.heap.get? b = some o→H b = none→∃ sl,h'.get? b = some { o with slots := sl }) (free : ∀ b o,b∉ch→s.heap.get? b = some o→H b = none→H' b = none)
    (there : ∀ b o,b∉ch→s.heap.get? b = some o→∃ o',h'.get? b = some o')
    (tups : ∀ b xs,H b = some (.tup xs)→H' b = some (.tup xs)) (frzs : ∀ b o u,H b = some (.frz o u)→H' b = some (.frz o u)) (tbls : ∀ b ps,H b = some (.tbl ps)→∃ more,H' b = some (.tbl (ps++more)))
    (ns : ∀ m,s.heap.Ns X.env.locals m→h'.Ns X.env.locals m) (hok : HOk X.prog X.w H' h') (hg : AllBare g') :
    Inv X pins σ H' { s with heap := h',gens := g',drawn := d',toks := t' } := by
  have neL : ∀ b o,X.s₀.heap.get? b = some o→b≠X.env.locals := fun b o e => Nat.ne_of_lt (Nat.lt_of_lt_of_le (Heap.lt_size e) I.ok.above)
  have neC : ∀ b o,X.s₀.heap.get? b = some o→b∉X.ex→b∉ch := fun b o e hx hb => by
    rcases (hch b hb).1 with z | z
    · exact hx z
    · exact absurd (Nat.lt_of_lt_of_le (Heap.lt_size e) z) (Nat.lt_irrefl _)
  have cellK : ∀ x c,X.env.cells.lookup x = some c→∀ v,s.heap.IsCell c v→h'.IsCell c v := fun x c e v ⟨o,ho,hd⟩ => by
    have nch : c∉ch := fun z => (hch c z).2.2.1 x c e rfl
    by_cases hc : c∈X.fs
    · obtain ⟨sl,q⟩ := slot c o (I.cne x c e) hc nch ho (I.freeC x c e)
      exact ⟨_,q,hd⟩
    · exact ⟨o,keep c o (I.cne x c e) hc nch ho (I.freeC x c e),hd⟩
  refine ⟨I.ok,I.os,hg,⟨fun b o e n hb hx => ?_,fun b o e n hb hx => ?_,fun b o e n hx => ?_,fun b o e hx => ?_,fun b xs e => tups b xs (I.base.tups b xs e),fun b o xs e => frzs b o xs (I.base.frzs b o xs e),fun b ps e => ?_⟩,?_,fun x c e => ?_,?_,fun x c e => ?_,fun p hp => ?_,hok,I.len⟩
  · exact keep b o (neL b o e) hb (neC b o e hx) (I.base.keep b o e n hb hx) (I.base.free b o e n hx)
  · obtain ⟨sl,e1⟩ := I.base.slot b o e n hb hx
    obtain ⟨sl',e2⟩ := slot b _ (neL b o e) hb (neC b o e hx) e1 (I.base.free b o e n hx)
    exact ⟨sl',e2⟩
  · obtain ⟨o',e1⟩ := I.base.there b o e hx
    exact free b o' (neC b o e hx) e1 (I.base.free b o e n hx)
  · obtain ⟨o',e1⟩ := I.base.there b o e hx
    exact there b o' (neC b o e hx) e1
  · obtain ⟨m1,e1⟩ := I.base.tbls b ps e
    obtain ⟨m2,e2⟩ := tbls b _ e1
    exact ⟨m1++m2,by rw [e2,Array.append_assoc]⟩
  · obtain ⟨m,hn,hl⟩ := I.loc
    refine ⟨m,ns m hn,fun i x v e1 e2 e3 => ?_⟩
    obtain ⟨u,r,l⟩ := hl i x v e1 e2 e3
    refine ⟨u,r,?_⟩
    rcases l with l | ⟨k,c,e,z⟩
    · exact .inl l
    · exact .inr ⟨k,c,e,cellK x c e _ z⟩
  · obtain ⟨v,z⟩ := I.cell x c e
    exact ⟨v,cellK x c e v z⟩
  · obtain ⟨m,⟨o,_,_,ho,_⟩,_⟩ := I.loc
    exact free _ o (fun z => (hch _ z).2.1 rfl) ho I.free
  · obtain ⟨v,o,ho,hd⟩ := I.cell x c e
    exact free c o (fun z => (hch c z).2.2.1 x c e rfl) ho (I.freeC x c e)
  · obtain ⟨e,n,ne,nf,d⟩ := I.pin p hp
    have nch : p.1∉ch := fun z => (hch p.1 z).2.2.2 p hp rfl
    exact ⟨keep p.1 p.2 ne nf nch e n,free p.1 p.2 nch e n,ne,nf,d⟩
theorem Inv.un {t' : Nat} (I : Inv X pins σ H s) (u : Un X.fs [] H H' s.heap h') (hok : HOk X.prog X.w H' h') : Inv X pins σ H' { s with heap := h',toks := t' } := by
  obtain ⟨m,⟨o,es,ep,ho,r⟩,_⟩ := id I.loc
  obtain ⟨sl,hL⟩ := u.any ho I.free (by simp)
  exact I.step (g' := s.gens) (d' := s.drawn) (ch := []) (fun _ z => nomatch z) (fun b o _ hb _ e n => u.keep b o e n hb (by simp)) (fun b o _ hb _ e n => u.slot b o e n hb (by simp)) (fun b o _ e n => u.free b o e n (by simp)) (fun b o _ e => u.there b o e (by simp)) u.tups u.frzs u.tbls (fun m' hm => by
    obtain ⟨o',es',ep',ho',r'⟩ := hm
    rw [ho] at ho'; cases ho'
    exact ⟨_,es',ep',hL,r'⟩) hok I.bare
theorem Inv.call {g' : Array GenState} {t' : Nat} {d' : Drawn} {ch : List Addr} (I : Inv X pins σ H s) (u : Un (frs X.stack) ch H H' s.heap h') (hok : HOk X.prog X.w H' h') (hg : AllBare g')
    (hch : ∀ b∈ch,(b∈X.ex∨X.s₀.heap.objs.size≤b)∧b≠X.env.locals∧(∀ x c,X.env.cells.lookup x = some c→c≠b)∧∀ p∈X.pn++pins,p.1≠b) :
    Inv X pins σ H' { s with heap := h',gens := g',drawn := d',toks := t' } := by
  obtain ⟨m,⟨o,es,ep,ho,r⟩,_⟩ := id I.loc
  obtain ⟨sl,hL⟩ := u.any ho I.free fun z => (hch _ z).2.1 rfl
  exact I.step (ch := ch) hch (fun b o hL hb hc e n => u.keep b o e n (fun z => (List.mem_cons.mp (I.stkSub b z)).elim hL hb) hc) (fun b o _ _ hc e n => u.any e n hc) (fun b o hc e n => u.free b o e n hc) (fun b o hc e => u.there b o e hc) u.tups u.frzs u.tbls (fun m' hm => by
    obtain ⟨o',es',ep',ho',r'⟩ := hm
    rw [ho] at ho'; cases ho'
    exact ⟨_,es',ep',hL,r'⟩) hok hg
theorem Inv.turned {t' : Nat} {it : Addr} (I : Inv X pins σ H s) (k : ∀ b o,b≠it→s.heap.get? b = some o→h'.get? b = some o) (hn : H it = none) (hL : it≠X.env.locals)
    (h1 : it∈X.ex∨X.s₀.heap.objs.size≤it) (h2 : ∀ x c,X.env.cells.lookup x = some c→c≠it) (h3 : ∀ p∈X.pn++pins,p.1≠it) : Inv X pins σ H { s with heap := h',toks := t' } := by
  have nit : ∀ b u,H b = some u→b≠it := fun b u e z => by rw [z,hn] at e; cases e
  refine I.step (g' := s.gens) (d' := s.drawn) (ch := [it]) (fun b hb => ?_) (fun b o _ _ hc e _ => k b o (fun z => hc (by simp [z])) e) (fun b o _ _ hc e _ => ⟨o.slots,k b o (fun z => hc (by simp [z])) e⟩) (fun _ _ _ _ n => n)
    (fun b o hc e => ⟨o,k b o (fun z => hc (by simp [z])) e⟩) (fun _ _ e => e) (fun _ _ _ e => e) (fun b ps e => ⟨#[],by rw [e]; simp⟩) (fun m hm => ?_) (fun b u e => ?_) I.bare
  · have e : b = it := by simpa using hb
    subst e
    exact ⟨h1,hL,h2,h3⟩
  · obtain ⟨o,es,ep,ho,r⟩ := hm
    exact ⟨o,es,ep,k _ o (Ne.symm hL) ho,r⟩
  · refine (I.hok b u e).stay (fun c v hc q => k c v ?_ q) (fun _ q => q) fun _ _ q => q
    rcases hc with z | z
    · rw [z]; exact nit b u e
    · exact nit c _ z
theorem Inv.tok (I : Inv X pins σ H s) (t : Nat) : Inv X pins σ H { s with toks := t } := I.un (h' := s.heap) (t' := t) Un.refl I.hok
theorem Inv.kept {t' : Nat} (I : Inv X pins σ H s) (k : ∀ b u,s.heap.get? b = some u→h'.get? b = some u) : Inv X pins σ H { s with heap := h',toks := t' } := I.un (Un.kept k) (I.hok.kept k)
theorem Inv.laid {a : Addr} {o : HO} {t' : Nat} (I : Inv X pins σ H s) (k : ∀ b u,s.heap.get? b = some u→h'.get? b = some u) (hp : s.heap.objs.size≤a) (new : zaz X.prog X.w (upd H a o) h' a o) :
    Inv X pins σ (upd H a o) { s with heap := h',toks := t' } := I.un (Un.laid k hp (I.hok.fresh hp)) (I.hok.laid k hp new)
theorem Inv.write {x e : Addr} {o : HO} {t' : Nat} (I : Inv X pins σ H s) (mu : Mut (H x)) (he : e = x∨H e = some (.own x)) (k : ∀ b u,b≠e→s.heap.get? b = some u→h'.get? b = some u) (heo : ∃ u,h'.get? e = some u)
    (new : zaz X.prog X.w (upd H x o) h' x o) : Inv X pins σ (upd H x o) { s with heap := h',toks := t' } := I.un (Un.write mu he k heo) (I.hok.write mu he k heo new)
theorem Inv.pins_of {pins' : List (Addr × Obj)} (I : Inv X pins σ H s) (h : ∀ p∈pins',s.heap.get? p.1 = some p.2∧H p.1 = none∧p.1≠X.env.locals∧p.1∉X.fs∧∀ v,p.2.data≠.cell v) : Inv X pins' σ H s :=
  ⟨I.ok,I.os,I.bare,I.base,I.loc,I.cell,I.free,I.freeC,fun p hp => (List.mem_append.mp hp).elim (fun z => I.pin p (List.mem_append_left _ z)) (h p),I.hok,I.len⟩
theorem zcP {N : List Str} (hN : N.Nodup) {i j : Nat} {x : Str} (a : N[i]? = some x) (b : N[j]? = some x) : i = j := by
  obtain ⟨h1,e1⟩ := List.getElem?_eq_some_iff.mp a
  obtain ⟨h2,e2⟩ := List.getElem?_eq_some_iff.mp b
  exact (List.getElem_inj hN).mp (e1.trans e2.symm)
theorem zdn {M : Model} {A : Around} {E : Value→Shared→Prop} {i : Nat} {x : Str} {v : V} {u : Value} {Q : Unit→Shared→Prop} (I : Inv X pins σ H s) (hN : X.N.Nodup) (hi : X.N[i]? = some x) (hx : Loc X.env.scope x) (r : RelV v u)
    (h : ∀ s',Inv X pins (σ.set i (some v)) H s'→(∃ a,Heap.SameBut a s.heap s'.heap∧(a = X.env.locals∨X.env.cells.lookup x = some a))→Q () s') (hf : X.fn x = true∨X.env.scope.names.lookup x = some .local := by first | exact .inl rfl | exact .inr rfl | assumption) : wpAny M A (storeName X.env x u) Q E s := by
  obtain ⟨m,hn,hl⟩ := id I.loc
  have hcls : (X.env.scope.kind == .class || (X.env.scope.kind == .module && X.env.locals != X.env.globals)) = false := by rw [I.ok.kind]; rfl
  have hiσ : i < σ.length := by rw [I.len]; exact (List.getElem?_eq_some_iff.mp hi).1
  have cne := I.cne
  have tracked : ∀ {a : Addr} {h' : Heap},(∃ o,s.heap.get? a = some o∧H a = none)→Heap.SameBut a s.heap h'→HOk X.prog X.w H h' := fun {a h'} ha hs b ob e => by
    obtain ⟨_,_,hfree⟩ := ha
    refine (I.hok b ob e).stay (fun c w' hc q => (hs.2 c ?_).trans q) (fun _ q => q) fun _ _ q => q
    rintro rfl
    rcases hc with rfl | hc
    · rw [hfree] at e; cases e
    · rw [hfree] at hc; cases hc
  rcases hx with hk | hk
  · refine wpAny_storeName_local hk hn (fun h' hn' hs => ?_) hcls
    obtain ⟨oL,_,_,hoL,_⟩ := id hn
    refine h _ ⟨I.ok,I.os,I.bare,⟨fun b o e n hb hx => ?_,fun b o e n hb hx => ?_,I.base.free,fun b o e hx => ?_,I.base.tups,I.base.frzs,I.base.tbls⟩,⟨_,hn',fun j y v' e1 e2 e3 => ?_⟩,fun y c e => ?_,I.free,I.freeC,fun p hp => ?_,tracked ⟨oL,hoL,I.free⟩ hs,by simpa using I.len⟩ ⟨_,hs,.inl rfl⟩
    · exact (hs.2 b (Nat.ne_of_lt (Nat.lt_of_lt_of_le (Heap.lt_size e) I.ok.above))).trans (I.base.keep b o e n hb hx)
    · obtain ⟨sl,e1⟩ := I.base.slot b o e n hb hx
      exact ⟨sl,(hs.2 b (Nat.ne_of_lt (Nat.lt_of_lt_of_le (Heap.lt_size e) I.ok.above))).trans e1⟩
    · obtain ⟨o',e1⟩ := I.base.there b o e hx
      exact ⟨o',(hs.2 b (Nat.ne_of_lt (Nat.lt_of_lt_of_le (Heap.lt_size e) I.ok.above))).trans e1⟩
    · by_cases hj : j = i
      · subst hj
        rw [hi] at e1; cases e1
        rw [List.getElem?_set_self hiσ] at e2
        cases e2
        exact ⟨u,r,.inl ⟨hk,by simp⟩⟩
      · rw [List.getElem?_set_ne (Ne.symm hj)] at e2
        obtain ⟨u',r',q⟩ := hl j y v' e1 e2 e3
        refine ⟨u',r',?_⟩
        rcases q with ⟨k,e⟩ | ⟨k,c,e,z⟩
        · refine .inl ⟨k,?_⟩
          have : y≠x := fun e => hj (zcP hN e1 (e ▸ hi))
          simp [this,e]
        · exact .inr ⟨k,c,e,z.sameBut hs (cne y c e)⟩
    · obtain ⟨w',z⟩ := I.cell y c e
      exact ⟨w',z.sameBut hs (cne y c e)⟩
    · obtain ⟨e,n,ne,nf,d⟩ := I.pin p hp
      exact ⟨(hs.2 p.1 ne).trans e,n,ne,nf,d⟩
  · have hfn : X.fn x = true := by
      rcases hf with z | z
      · exact z
      · rw [z] at hk; cases hk
    obtain ⟨c,hc⟩ := I.ok.has x (.inl hk)
    obtain ⟨w',z⟩ := I.cell x c hc
    refine wpAny_storeName_cell I.ok.kind hk hc z (fun h' hc' hs => ?_)
    obtain ⟨oc,hoc,hocd⟩ := id z
    refine h { s with heap := h' } ⟨I.ok,I.os,I.bare,⟨fun b o e n hb hx => ?_,fun b o e n hb hx => ?_,I.base.free,fun b o e hx => ?_,I.base.tups,I.base.frzs,I.base.tbls⟩,⟨m,hn.sameBut hs (Ne.symm (cne x c hc)),fun j y v' e1 e2 e3 => ?_⟩,fun y c' e => ?_,I.free,I.freeC,fun p hp => ?_,tracked ⟨oc,hoc,I.freeC x c hc⟩ hs,by simpa using I.len⟩ ⟨c,hs,.inr hc⟩
    · exact (hs.2 b (Nat.ne_of_lt (Nat.lt_of_lt_of_le (Heap.lt_size e) (I.ok.cab x c hfn hc)))).trans (I.base.keep b o e n hb hx)
    · obtain ⟨sl,e1⟩ := I.base.slot b o e n hb hx
      exact ⟨sl,(hs.2 b (Nat.ne_of_lt (Nat.lt_of_lt_of_le (Heap.lt_size e) (I.ok.cab x c hfn hc)))).trans e1⟩
    · obtain ⟨o',e1⟩ := I.base.there b o e hx
      exact ⟨o',(hs.2 b (Nat.ne_of_lt (Nat.lt_of_lt_of_le (Heap.lt_size e) (I.ok.cab x c hfn hc)))).trans e1⟩
    · by_cases hj : j = i
      · subst hj
        rw [hi] at e1; cases e1
        rw [List.getElem?_set_self hiσ] at e2
        cases e2
        exact ⟨u,r,.inr ⟨.inl hk,c,hc,hc'⟩⟩
      · rw [List.getElem?_set_ne (Ne.symm hj)] at e2
        obtain ⟨u',r',q⟩ := hl j y v' e1 e2 e3
        refine ⟨u',r',?_⟩
        rcases q with q | ⟨k,c',e,z'⟩
        · exact .inl q
        · refine .inr ⟨k,c',e,z'.sameBut hs ?_⟩
          rintro rfl
          exact hj (zcP hN e1 (I.ok.inj _ _ _ e hc ▸ hi))
    · by_cases hcc : c' = c
      · subst hcc; exact ⟨_,hc'⟩
      · obtain ⟨w2,z2⟩ := I.cell y c' e
        exact ⟨w2,z2.sameBut hs hcc⟩
    · obtain ⟨e,n,ne,nf,d⟩ := I.pin p hp
      refine ⟨(hs.2 p.1 ?_).trans e,n,ne,nf,d⟩
      intro q
      rw [q,hoc] at e
      have q' : oc = p.2 := Option.some.inj e
      exact d w' (by rw [← q']; exact hocd)
theorem zcH {M : Model} {A : Around} {E : Value→Shared→Prop} {i : Nat} {x : Str} {v : V} {u : Value} {Q : Unit→Shared→Prop} (I : Inv X pins σ H s) (hN : X.N.Nodup) (hi : X.N[i]? = some x) (hx : Loc X.env.scope x) (r : RelV v u)
    (h : ∀ s',Inv X pins (σ.set i (some v)) H s'→Q () s') (hf : X.fn x = true∨X.env.scope.names.lookup x = some .local := by first | exact .inl rfl | exact .inr rfl | assumption) : wpAny M A (storeName X.env x u) Q E s :=
  zdn I hN hi hx r (fun s' I' _ => h s' I') hf
theorem Inv.call' {s' : Shared} {ch : List Addr} (I : Inv X pins σ H s) (ho : s'.os = s.os) (u : Un (frs X.stack) ch H H' s.heap s'.heap) (hok : HOk X.prog X.w H' s'.heap) (hg : AllBare s'.gens)
    (hch : ∀ b∈ch,(b∈X.ex∨X.s₀.heap.objs.size≤b)∧b≠X.env.locals∧(∀ x c,X.env.cells.lookup x = some c→c≠b)∧∀ p∈X.pn++pins,p.1≠b) : Inv X pins σ H' s' := by
  obtain ⟨h',g',d',t',o'⟩ := s'
  have e : o' = s.os := ho
  subst e
  exact I.call (g' := g') (t' := t') (d' := d') u hok hg hch
end
noncomputable abbrev XK := Value→Option Addr→Hp→Prop
noncomputable abbrev St := List (Option V)
noncomputable abbrev VK := V→Hp→Prop
noncomputable abbrev TE := St→Hp→VK→Prop
noncomputable abbrev TT := St→Hp→(Bool→Hp→Prop)→Prop
noncomputable abbrev TA := St→Hp→(List V→Hp→Prop)→Prop
structure Ends where
  nx : St→Hp→Prop
  rt : VK
  bk : St→Hp→Prop := fun _ _ => False
  ct : St→Hp→Prop := fun _ _ => False
noncomputable abbrev TS := Ends→St→Hp→Prop
noncomputable def EP (X : Cx) (pins : List (Addr × Obj)) (σ : St) (Q : VK) (u : Value) (s' : Shared) : Prop := ∃ v H',Inv X pins σ H' s'∧RelV v u∧Q v H'
noncomputable def TP (X : Cx) (pins : List (Addr × Obj)) (σ : St) (Q : Bool→Hp→Prop) (b : Bool) (s' : Shared) : Prop := ∃ H',Inv X pins σ H' s'∧Q b H'
noncomputable def AP (X : Cx) (pins : List (Addr × Obj)) (σ : St) (Q : List V→Hp→Prop) (us : List Value) (s' : Shared) : Prop := ∃ vs H',Inv X pins σ H' s'∧Vals vs us∧Q vs H'
noncomputable def SP (X : Cx) (pins : List (Addr × Obj)) (D : Ends) (f : Flow) (s' : Shared) : Prop :=
  match f with
  | .next => ∃ σ' H',Inv X pins σ' H' s'∧D.nx σ' H'
  | .brk => ∃ σ' H',Inv X pins σ' H' s'∧D.bk σ' H'
  | .cont => ∃ σ' H',Inv X pins σ' H' s'∧D.ct σ' H'
  | .ret u => ∃ v σ' H',Inv X pins σ' H' s'∧RelV v u∧D.rt v H'
noncomputable def PE (X : Cx) (e : Expr) (t : TE) : Prop :=
  ∀ (pins : List (Addr × Obj)) (s : Shared) (σ : St) (H : Hp) (Q : VK),Inv X pins σ H s→t σ H Q→wpAny (model X.prog X.w) X.A (eval e X.env) (EP X pins σ Q) X.xe s
noncomputable def PT (X : Cx) (e : Expr) (t : TT) : Prop :=
  ∀ (pins : List (Addr × Obj)) (s : Shared) (σ : St) (H : Hp) (Q : Bool→Hp→Prop),Inv X pins σ H s→t σ H Q→wpAny (model X.prog X.w) X.A (isTrue e X.env (eval e X.env)) (TP X pins σ Q) X.xe s
noncomputable def PW (X : Cx) (e : Expr) (t : TT) : Prop :=
  ∀ (whole : Sem Value) (pins : List (Addr × Obj)) (s : Shared) (σ : St) (H : Hp) (Q : Bool→Hp→Prop),Inv X pins σ H s→t σ H Q→wpAny (model X.prog X.w) X.A (isTrue e X.env whole) (TP X pins σ Q) X.xe s
theorem PW.pt {X : Cx} {e : Expr} {t : TT} (h : PW X e t) : PT X e t := h _
noncomputable def PA (X : Cx) (es : List Expr) (t : TA) : Prop :=
  ∀ (pos : Pos) (pins : List (Addr × Obj)) (s : Shared) (σ : St) (H : Hp) (Q : List V→Hp→Prop),Inv X pins σ H s→t σ H Q→wpAny (model X.prog X.w) X.A (spliced (backTo pos (starEach es X.env))) (AP X pins σ Q) X.xe s
noncomputable def PS (X : Cx) (st : Stmt) (t : TS) : Prop :=
  ∀ (pins : List (Addr × Obj)) (s : Shared) (σ : St) (H : Hp) (D : Ends),Inv X pins σ H s→t D σ H→wpAny (model X.prog X.w) X.A (exec st X.env) (SP X pins D) X.xe s
noncomputable def PSs (X : Cx) (st : List Stmt) (t : TS) : Prop :=
  ∀ (pins : List (Addr × Obj)) (s : Shared) (σ : St) (H : Hp) (D : Ends),Inv X pins σ H s→t D σ H→wpAny (model X.prog X.w) X.A (execs st X.env) (SP X pins D) X.xe s
theorem thn {α : Type} {t : Sem α} {Q Q' : α→Shared→Prop} {M : Model} {A : Around} {E : Value→Shared→Prop} {s : Shared} (h : wpAny M A t Q E s) (hQ : ∀ a s,Q a s→Q' a s) : wpAny M A t Q' E s := wpAny_mono h hQ fun _ _ x => x
end L2
namespace L2
open PySem PySem.Spec PyProof.Rows
section
variable {X : Cx}
noncomputable def tVar (i : Nat) : TE := fun σ H Q => ∃ v,σ[i]? = some (some v)∧Q v H
noncomputable def tC (v : V) : TE := fun _ H Q => Q v H
theorem zao {i : Nat} {x : Str} {pos : Pos} (hN : X.N[i]? = some x) (hv : Vis X.env.scope x) (hd : (x == ("__debug__" : Str)) = false := by decide) (hcd : (x == ("__classdict__" : Str)) = false := by decide) : PE X (.Name x pos) (tVar i) := by
  intro pins s σ H Q I h
  obtain ⟨v,e,h⟩ := h
  obtain ⟨m,hn,hl⟩ := I.loc
  obtain ⟨u,r,l⟩ := hl i x v hN e hv
  have fin : EP X pins σ Q u s := ⟨v,H,I,r,h⟩
  rcases l with ⟨hk,hm⟩ | ⟨hk,c,hc,hcell⟩
  · exact wpAny_Name (wpAny_loadName_local I.ok.kind hk hn hm fin) hd
  · rcases hk with hk | hk
    · exact wpAny_Name (wpAny_loadName_cell I.ok.kind hk hc hcell fin) hd
    · exact wpAny_Name (wpAny_loadName_free I.ok.kind hk hc hcell fin hcd) hd
theorem zgM {i j pos} : PE X (.Constant (.int i) j pos) (tC (.int i)) := fun _ _ _ H _ I h => wpAny_Constant_int ⟨.int i,H,I.tok _,⟨_,rfl⟩,h⟩
theorem zhX {b j pos} : PE X (.Constant (.bool b) j pos) (tC (.bl b)) := fun _ _ _ H _ I h => Constant_bool ⟨.bl b,H,I,rfl,h⟩
theorem zdx {x j pos} : PE X (.Constant (.str x) j pos) (tC (.str x)) := fun _ _ _ H _ I h => Calls.Constant_str ⟨.str x,H,I.tok _,⟨_,rfl⟩,h⟩
noncomputable def Gl (X : Cx) (x : Str) : Prop := X.env.kindOf x = some .globalImplicit
theorem zbF {E : Value→Shared→Prop} {pins : List (Addr × Obj)} {s : Shared} {σ : St} {H : Hp} {x : Str} {u : Value} {pos : Pos} {Q : Value→Shared→Prop} (I : Inv X pins σ H s) (hg : Gl X x) (hm : X.mg x = some u) (h : Q u s)
    (hd : (x == ("__debug__" : Str)) = false := by decide) : wpAny (model X.prog X.w) X.A (eval (.Name x pos) X.env) Q E s :=
  Calls.Name_function_global I.ok.kind hg (Calls.loadGlobal_global (by rw [I.ok.glob]; exact I.mod.glob.keeps I.bk) hm h) hd
theorem zcT {E : Value→Shared→Prop} {pins : List (Addr × Obj)} {s : Shared} {σ : St} {H : Hp} {x : Str} {u : Value} {pos : Pos} {Q : Value→Shared→Prop} (I : Inv X pins σ H s) (hg : Gl X x) (hm : X.mg x = none) (hv : bootBuiltins x = some u) (h : Q u s)
    (hn : x≠"__name__" := by decide) (hd : (x == ("__debug__" : Str)) = false := by decide) : wpAny (model X.prog X.w) X.A (eval (.Name x pos) X.env) Q E s := by
  obtain ⟨mb,h1,h2⟩ := I.mod.blt
  exact Calls.Name_function_global I.ok.kind hg (Calls.loadGlobal_builtin (by rw [I.ok.glob]; exact I.mod.glob.keeps I.bk) hm (by rw [I.ok.blt]; exact h1.keeps I.bk) ((h2 x hn).trans hv) h) hd
theorem zfq {x : Str} {v : V} {u : Value} {pos : Pos} (hg : Gl X x) (hm : X.mg x = some u) (r : RelV v u) (hd : (x == ("__debug__" : Str)) = false := by decide) : PE X (.Name x pos) (tC v) :=
  fun _ _ _ H _ I h => zbF I hg hm ⟨v,H,I,r,h⟩ hd
theorem zfu {x : Str} {v : V} {u : Value} {pos : Pos} (hg : Gl X x) (hm : X.mg x = none) (hv : bootBuiltins x = some u) (r : RelV v u) (hn : x≠"__name__" := by decide) (hd : (x == ("__debug__" : Str)) = false := by decide) : PE X (.Name x pos) (tC v) :=
  fun _ _ _ H _ I h => zcT I hg hm hv ⟨v,H,I,r,h⟩ hn hd
variable {a b : Expr} {ta tb : TE} {pos : Pos}
noncomputable def tB (t : TE) : TT := fun σ H Q => t σ H fun x H1 => ∃ c,x = .bl c∧Q c H1
variable {tA tB' : TT} {rest : List Expr}
noncomputable def tAnd (t u : TT) : TT := fun σ H Q => t σ H fun c H1 => if c = true then u σ H1 Q else Q false H1
noncomputable def tOr (t u : TT) : TT := fun σ H Q => t σ H fun c H1 => if c = true then Q true H1 else u σ H1 Q
theorem zfj (ha : PT X a tA) : PW X (.BoolOp .And [a] pos) tA := by
  intro wh pins s σ H Q I h
  refine isTrue_and (thn (ha pins s σ H Q I h) fun c s1 e => ?_)
  cases c with
  | true => exact isTrue_and_nil e
  | false => exact e
theorem zgA (ha : PT X a tA) : PW X (.BoolOp .Or [a] pos) tA := by
  intro wh pins s σ H Q I h
  refine isTrue_or (thn (ha pins s σ H Q I h) fun c s1 e => ?_)
  cases c with
  | false => exact isTrue_or_nil e
  | true => exact e
theorem zgB (ha : PT X a tA) (hb : PW X (.BoolOp .And (b::rest) pos) tB') : PW X (.BoolOp .And (a::b::rest) pos) (tAnd tA tB') := by
  intro wh pins s σ H Q I h
  refine isTrue_and (thn (ha pins s σ H _ I h) fun c s1 ⟨H1,I1,q1⟩ => ?_)
  cases c with
  | true => exact hb wh pins s1 σ H1 Q I1 q1
  | false => exact ⟨H1,I1,q1⟩
theorem zhT (ha : PT X a tA) (hb : PW X (.BoolOp .Or (b::rest) pos) tB') : PW X (.BoolOp .Or (a::b::rest) pos) (tOr tA tB') := by
  intro wh pins s σ H Q I h
  refine isTrue_or (thn (ha pins s σ H _ I h) fun c s1 ⟨H1,I1,q1⟩ => ?_)
  cases c with
  | true => exact ⟨H1,I1,q1⟩
  | false => exact hb wh pins s1 σ H1 Q I1 q1
noncomputable def zhJ (ta tb : TE) : TE := fun σ H Q => ta σ H fun x H1 => ∃ c,x = .bl c∧if c = true then tb σ H1 Q else Q (.bl false) H1
theorem zgJ {op} {t : TE} (h : PE X a t) : PE X (.BoolOp op [a] pos) t := fun pins s σ H Q I hw => BoolOp_one (h pins s σ H Q I hw)
theorem zgP (ha : PE X a ta) (hb : PE X (.BoolOp .And (b::rest) pos) tb) : PE X (.BoolOp .And (a::b::rest) pos) (zhJ ta tb) := by
  intro pins s σ H Q I h
  refine BoolOp_and (thn (ha pins s σ H _ I h) fun v s1 ⟨x,H1,I1,r1,q1⟩ => ?_)
  obtain ⟨c,rfl,q1⟩ := q1
  cases r1
  refine wpAny_truthy_bool ?_
  cases c with
  | true => exact hb pins s1 σ H1 Q I1 q1
  | false => exact ⟨.bl false,H1,I1,rfl,q1⟩
end
end L2
namespace L2
open PySem PySem.Spec PyProof.Rows
noncomputable def SqL (K : PySem.W.Frag) (H : Hp) (a : Addr) (xs : List V) : Prop :=
  Rd H a (.lst xs) ∨
    ∃ (o : Obj) (its : Array Value) (n : Nat),K.lookup a = some o∧o.cls = .type "list"∧o.dict = none∧o.data = .seq its n∧its.size≤sizeLine∧Vals xs its.toList
noncomputable def SqT (K : PySem.W.Frag) (H : Hp) (a : Addr) (xs : List V) : Prop :=
  Rd H a (.tup xs) ∨
    ∃ (o : Obj) (its : Array Value) (n : Nat),K.lookup a = some o∧o.cls = .type "tuple"∧o.data = .seq its n∧its.size≤sizeLine∧Vals xs its.toList
noncomputable def absV : Value→Option V
  | .none => some .non
  | .bool b => some (.bl b)
  | .int i _ => some (.int i)
  | .str x _ => some (.str x)
  | .bytes b _ => some (.byt b)
  | .float b _ => some (.flt b)
  | .ref a => some (.ref a)
  | .type n => some (.ty n)
  | _ => none
theorem RelV.abs {x : V} {u : Value} (r : RelV x u) : absV u = some x := by
  cases x with
  | non => cases r; rfl
  | bl _ => cases r; rfl
  | int _ => obtain ⟨t,rfl⟩ := r; rfl
  | str _ => obtain ⟨t,rfl⟩ := r; rfl
  | byt _ => obtain ⟨t,rfl⟩ := r; rfl
  | flt _ => obtain ⟨t,rfl⟩ := r; rfl
  | ref _ => cases r; rfl
  | ty _ => cases r; rfl
theorem RelV.inj {x y : V} {u : Value} (r : RelV x u) (q : RelV y u) : x = y := Option.some.inj (r.abs.symm.trans q.abs)
theorem Vals.inj {xs ys : List V} {us : List Value} (h : Vals xs us) (h' : Vals ys us) : xs = ys := by
  induction h generalizing ys with
  | nil => cases h'; rfl
  | cons r t ih =>
    cases h' with
    | cons r' t' => rw [r.inj r',ih t']
section
variable {X : Cx} {pins : List (Addr × Obj)} {σ : St} {H : Hp} {s : Shared} {a : Addr} {xs ys : List V}
theorem SqL.of {K : PySem.W.Frag} (h : H a = some (.lst xs)) : SqL K H a xs := .inl (.inl h)
theorem SqT.of {K : PySem.W.Frag} (h : H a = some (.tup xs)) : SqT K H a xs := .inl (.inl h)
theorem Inv.list (I : Inv X pins σ H s) (h : SqL X.K H a xs) : ∃ its : List Value,Vals xs its∧PlainL s.heap a its.toArray∧xs.length≤sizeLine := by
  rcases h with h | ⟨o,its,n,hk,hc,hd,hs,hz,r⟩
  · obtain ⟨z,its,n,r,e⟩ := h.ok I.hok
    exact ⟨its,r,⟨_,n,e,rfl,rfl,rfl⟩,z⟩
  · refine ⟨its.toList,r,⟨o,n,I.kIn a o hk,hc,hd,by simpa using hs⟩,?_⟩
    have e := r.length
    simp only [Array.length_toList] at e
    omega
theorem Inv.tuple (I : Inv X pins σ H s) (h : SqT X.K H a xs) : ∃ its : List Value,Vals xs its∧IsTup s.heap a its.toArray∧xs.length≤sizeLine := by
  rcases h with h | ⟨o,its,n,hk,hc,hs,hz,r⟩
  · obtain ⟨z,its,r,p,_⟩ := h.ok I.hok
    exact ⟨its,r,p,z⟩
  · refine ⟨its.toList,r,⟨o,I.kIn a o hk,hc,n,by simpa using hs⟩,?_⟩
    have e := r.length
    simp only [Array.length_toList] at e
    omega
theorem Inv.list_inj (I : Inv X pins σ H s) (h : SqL X.K H a xs) (h' : SqL X.K H a ys) : xs = ys := by
  obtain ⟨its,r,⟨o,n,e,_,_,d⟩,_⟩ := I.list h
  obtain ⟨its',r',⟨o',n',e',_,_,d'⟩,_⟩ := I.list h'
  rw [e] at e'; cases e'
  rw [d] at d'
  injection d' with d1 _
  have : its = its' := by simpa using congrArg Array.toList d1
  subst this
  exact r.inj r'
theorem Inv.tuple_inj (I : Inv X pins σ H s) (h : SqT X.K H a xs) (h' : SqT X.K H a ys) : xs = ys := by
  obtain ⟨its,r,⟨o,e,_,n,d⟩,_⟩ := I.tuple h
  obtain ⟨its',r',⟨o',e',_,n',d'⟩,_⟩ := I.tuple h'
  rw [e] at e'; cases e'
  rw [d] at d'
  injection d' with d1 _
  have : its = its' := by simpa using congrArg Array.toList d1
  subst this
  exact r.inj r'
end
noncomputable abbrev Cx.wish (X : Cx) (E : Value→Shared→Prop) : Cx := { X with xe := E }
noncomputable abbrev Cx.nox (X : Cx) : Cx := X.wish fun _ _ => False
theorem Cx.Ok.wish {X : Cx} (ok : X.Ok) (E : Value→Shared→Prop) : (X.wish E).Ok :=
  ⟨ok.mod,ok.kind,ok.glob,ok.blt,ok.above,ok.inj,ok.has,ok.cab,ok.hd,ok.frames,ok.stk,ok.exf,ok.bs,ok.bsz,ok.noex,ok.exfs,ok.funs,ok.frf⟩
theorem Cx.Ok.unwish {X : Cx} {E : Value→Shared→Prop} (ok : (X.wish E).Ok) : X.Ok :=
  ⟨ok.mod,ok.kind,ok.glob,ok.blt,ok.above,ok.inj,ok.has,ok.cab,ok.hd,ok.frames,ok.stk,ok.exf,ok.bs,ok.bsz,ok.noex,ok.exfs,ok.funs,ok.frf⟩
section
variable {X : Cx} {pins : List (Addr × Obj)} {σ : St} {H : Hp} {s : Shared} {E : Value → Shared → Prop}
theorem Inv.wish (I : Inv X pins σ H s) (E : Value→Shared→Prop) : Inv (X.wish E) pins σ H s := ⟨I.ok.wish E,I.os,I.bare,I.base,I.loc,I.cell,I.free,I.freeC,I.pin,I.hok,I.len⟩
theorem Inv.unwish (I : Inv (X.wish E) pins σ H s) : Inv X pins σ H s := ⟨I.ok.unwish,I.os,I.bare,I.base,I.loc,I.cell,I.free,I.freeC,I.pin,I.hok,I.len⟩
theorem SP.unwish {D : Ends} {f : Flow} {s' : Shared} (h : SP (X.wish E) pins D f s') : SP X pins D f s' := by
  cases f with
  | next => obtain ⟨σ',H',I,q⟩ := h; exact ⟨σ',H',I.unwish,q⟩
  | brk => obtain ⟨σ',H',I,q⟩ := h; exact ⟨σ',H',I.unwish,q⟩
  | cont => obtain ⟨σ',H',I,q⟩ := h; exact ⟨σ',H',I.unwish,q⟩
  | ret u => obtain ⟨v,σ',H',I,r,q⟩ := h; exact ⟨v,σ',H',I.unwish,r,q⟩
theorem PE.nox {e : Expr} {t : TE} (h : PE X.nox e t) : PE X e t := fun pins s σ H Q I hw =>
  wpAny_mono (h pins s σ H Q (I.wish _) hw) (fun _ _ ⟨v,H',I',r,q⟩ => ⟨v,H',I'.unwish,r,q⟩) fun _ _ z => False.elim z
theorem PT.nox {e : Expr} {t : TT} (h : PT X.nox e t) : PT X e t := fun pins s σ H Q I hw =>
  wpAny_mono (h pins s σ H Q (I.wish _) hw) (fun _ _ ⟨H',I',q⟩ => ⟨H',I'.unwish,q⟩) fun _ _ z => False.elim z
theorem PSs.nox {st : List Stmt} {t : TS} (h : PSs X.nox st t) : PSs X st t := fun pins s σ H D I hw =>
  wpAny_mono (h pins s σ H D (I.wish _) hw) (fun _ _ q => q.unwish) fun _ _ z => False.elim z
end
section
variable {X : Cx} {st : Stmt} {rest : List Stmt} {t u : TS} {e : Expr} {te : TE} {pos : Pos}
noncomputable def zhG : TS := fun D σ H => D.nx σ H
noncomputable def tSeq (t u : TS) : TS := fun D σ H => t { D with nx := u D } σ H
theorem zfm : PSs X [] zhG := fun _ _ σ H _ I h => wpAny_execs_nil ⟨σ,H,I,h⟩
theorem zaU (h1 : PS X st t) (h2 : PSs X rest u) : PSs X (st::rest) (tSeq t u) := by
  intro pins s σ H D I h
  refine wpAny_execs_cons (thn (h1 pins s σ H { D with nx := u D } I h) fun f s1 q => ?_)
  cases f with
  | next =>
    obtain ⟨σ',H',I',q⟩ := q
    exact h2 pins s1 σ' H' D I' q
  | ret v => exact q
  | brk => exact q
  | cont => exact q
theorem zbm (h1 : PS X st t) : PSs X [st] t := by
  intro pins s σ H D I h
  refine wpAny_execs_cons (thn (h1 pins s σ H D I h) fun f s1 q => ?_)
  cases f with
  | next => exact wpAny_execs_nil q
  | ret v => exact q
  | brk => exact q
  | cont => exact q
theorem Inv.quiet {pins : List (Addr × Obj)} {σ : St} {H : Hp} {s : Shared} (I : Inv X pins σ H s) : interactive X.env = false := by simp [interactive,I.ok.kind]
noncomputable def zfd (te : TE) : TS := fun D σ H => te σ H fun _ H1 => D.nx σ H1
theorem zbo (he : PE X e te) (hs : swapsWith e none pos.line X.env = pure false := by rfl) : PS X (.Expr e pos) (zfd te) := by
  intro pins s σ H D I h
  exact wpAny_Expr_any (thn (he pins s σ H _ I h) fun v s1 ⟨x,H1,I1,r1,q1⟩ => ⟨σ,H1,I1,q1⟩) I.quiet hs
noncomputable def tRet (te : TE) : TS := fun D σ H => te σ H D.rt
theorem zgD (he : PE X e te) : PS X (.Return (some e) pos) (tRet te) := by
  intro pins s σ H D I h
  exact wpAny_Return_some (thn (he pins s σ H _ I h) fun v s1 ⟨x,H1,I1,r1,q1⟩ => ⟨x,σ,H1,I1,r1,q1⟩)
noncomputable def tIfS (c : TT) (t u : TS) : TS := fun D σ H => c σ H fun b H1 => if b = true then t D σ H1 else u D σ H1
theorem zhU {c : Expr} {a b : List Stmt} {tc : TT} (hc : PT X c tc) (ha : PSs X a t) (hb : PSs X b u) : PS X (.If c a b pos) (tIfS tc t u) := by
  intro pins s σ H D I h
  refine wpAny_If (thn (hc pins s σ H _ I h) fun d s1 ⟨H1,I1,q1⟩ => ?_)
  cases d with
  | true => exact ha pins s1 σ H1 D I1 q1
  | false => exact hb pins s1 σ H1 D I1 q1
end
noncomputable abbrev TG := V→St→Hp→(St→Hp→Prop)→Prop
noncomputable abbrev TGs := List V→St→Hp→(St→Hp→Prop)→Prop
noncomputable def PG (X : Cx) (target : Expr) (t : TG) : Prop :=
  ∀ (pins : List (Addr × Obj)) (s : Shared) (σ : St) (H : Hp) (v : V) (u : Value) (Q : St→Hp→Prop),Inv X pins σ H s→RelV v u→t v σ H Q →
    wpAny (model X.prog X.w) X.A (assign target X.env u) (fun _ s' => ∃ σ' H',Inv X pins σ' H' s'∧Q σ' H') X.xe s
noncomputable def PGs (X : Cx) (ts : List Expr) (t : TGs) : Prop :=
  ∀ (pins : List (Addr × Obj)) (s : Shared) (σ : St) (H : Hp) (vs : List V) (us : List Value) (Q : St→Hp→Prop),Inv X pins σ H s→Vals vs us→t vs σ H Q →
    wpAny (model X.prog X.w) X.A (assignInOrder ((assignEach ts X.env).map (·.2)) us) (fun _ s' => ∃ σ' H',Inv X pins σ' H' s'∧Q σ' H') X.xe s
noncomputable abbrev TSet := V→V→V→Hp→(Hp→Prop)→Prop
noncomputable def PSet (X : Cx) (t : TSet) : Prop :=
  ∀ (pins : List (Addr × Obj)) (s : Shared) (σ : St) (H : Hp) (o i v : V) (ov iv u : Value) (Q : Hp→Prop),Inv X pins σ H s→RelV o ov→RelV i iv→RelV v u→t o i v H Q →
    wpAny (model X.prog X.w) X.A (setItem ov iv u) (fun _ s' => ∃ H',Inv X pins σ H' s'∧Q H') X.xe s
section
variable {X : Cx} {pos : Pos}
noncomputable def zhk (i : Nat) : TG := fun v σ H Q => Q (σ.set i (some v)) H
theorem zfp {i : Nat} {x : Str} (hN : X.N.Nodup) (hi : X.N[i]? = some x) (hx : Loc X.env.scope x) (hf : X.fn x = true∨X.env.scope.names.lookup x = some .local := by first | exact .inl rfl | exact .inr rfl | assumption) : PG X (.Name x pos) (zhk i) := by
  intro pins s σ H v u Q I r h
  exact wpAny_assign_Name (zcH I hN hi hx r (fun s' I' => ⟨_,H,I',h⟩) hf)
noncomputable def gNil : TGs := fun vs σ H Q => vs = []∧Q σ H
noncomputable def zih (t : TG) (u : TGs) : TGs := fun vs σ H Q => ∃ v r,vs = v::r∧t v σ H fun σ' H' => u r σ' H' Q
theorem zfo : PGs X [] gNil := by
  intro pins s σ H vs us Q I r h
  obtain ⟨e,h⟩ := h
  subst e
  cases r
  exact assignInOrder_nil ⟨σ,H,I,h⟩
theorem zer {e : Expr} {es : List Expr} {t : TG} {u : TGs} (h1 : PG X e t) (h2 : PGs X es u)
    (hs : (assignEach (e::es) X.env).map (·.2) = assign e X.env::(assignEach es X.env).map (·.2) := by rfl) : PGs X (e::es) (zih t u) := by
  intro pins s σ H vs us Q I r h
  obtain ⟨v,vr,e1,h⟩ := h
  subst e1
  cases r with
  | cons r rr =>
    rw [hs]
    refine assignInOrder_cons (thn (h1 pins s σ H _ _ _ I r h) fun _ s1 ⟨σ1,H1,I1,q1⟩ => ?_)
    exact h2 pins s1 σ1 H1 _ _ Q I1 rr q1
noncomputable def gTup (K : PySem.W.Frag) (n : Nat) (t : TGs) : TG := fun v σ H Q => ∃ a xs,v = .ref a∧SqT K H a xs∧xs.length = n∧t xs σ H Q
theorem zgG {es : List Expr} {k : Nat} {t : TGs} {n : Nat} (hc : X.calm = true) (h : PGs X es t)
    (hn : (assignEach es X.env).length = n := by rfl) (hst : (assignEach es X.env).findIdx? (·.1) = none := by rfl) : PG X (.Tuple es k pos) (gTup X.K n t) := by
  intro pins s σ H v u Q I r hw
  obtain ⟨a,xs,e1,hq,hl,hw⟩ := hw
  subst e1
  cases r
  obtain ⟨its,rv,ht,hz⟩ := I.tuple hq
  refine assign_Tuple_tuple (I.ok.hd hc) ht (by simp [hn,← hl,rv.length]) hst fun h' hx => ?_
  have I1 : Inv X pins σ H { s with heap := h' } := I.kept (t' := s.toks) fun b o e => hx b o (Nat.ne_of_lt (Heap.lt_size e)) e
  exact h pins _ σ H xs _ Q I1 (by simpa using rv) hw
noncomputable def tAsg (te : TE) (g : TG) : TS := fun D σ H => te σ H fun x H1 => g x σ H1 D.nx
theorem zgC {i : Nat} {x : Str} {e : Expr} {te : TE} {pos' : Pos} (hN : X.N.Nodup) (hi : X.N[i]? = some x) (hx : Loc X.env.scope x) (he : PE X e te) (hs : swapsWith e (some (.Name x pos')) pos.line X.env = pure false := by rfl) (hf : X.fn x = true∨X.env.scope.names.lookup x = some .local := by first | exact .inl rfl | exact .inr rfl | assumption) :
    PS X (.Assign [.Name x pos'] e pos) (tAsg te (zhk i)) := by
  intro pins s σ H D I h
  refine wpAny_Assign_Name (thn (he pins s σ H _ I h) fun v s1 ⟨y,H1,I1,r1,q1⟩ => ?_) hs
  exact zcH I1 hN hi hx r1 (fun s2 I2 => ⟨_,H1,I2,q1⟩) hf
end
section
variable {X : Cx} {pos : Pos}
end
structure It where
  go : Nat→Hp→Prop
  yld : Nat→Hp→V→Hp→Prop
  stop : Nat→Hp→Prop
noncomputable def FpOk (X : Cx) (pins : List (Addr × Obj)) (H : Hp) (b : Addr) : Prop :=
  H b = none∧b≠X.env.locals∧b∉X.fs∧(b∈X.ex∨X.s₀.heap.objs.size≤b)∧(∀ x c,X.env.cells.lookup x = some c→c≠b)∧∀ p∈X.pn++pins,p.1≠b
theorem Inv.fpOk {X : Cx} {pins : List (Addr × Obj)} {σ : St} {H H' : Hp} {s : Shared} {b : Addr} (I : Inv X pins σ H s) (hb : s.heap.objs.size≤b) (hn : H' b = none) : FpOk X pins H' b := by
  refine ⟨hn,Nat.ne_of_gt (Nat.lt_of_lt_of_le I.lt hb),I.nofs hb,.inr (Nat.le_trans I.sz hb),fun x c e z => ?_,fun p hp z => ?_⟩
  · obtain ⟨v,q⟩ := I.cell x c e
    exact absurd (Nat.lt_of_lt_of_le q.lt (by rw [z]; exact hb)) (Nat.lt_irrefl _)
  · exact absurd (Nat.lt_of_lt_of_le (Heap.lt_size (I.pin p hp).1) (by rw [z]; exact hb)) (Nat.lt_irrefl _)
structure Turn (P : Program) (w : World) (K : PySem.W.Frag) (tg : Expr) (J : It) (fp : List Addr) (it : Addr) (tn : Nat→Heap→Prop) : Prop where
  mem : it∈fp
  obj : ∀ i h,tn i h→∀ b∈fp,∃ o,h.get? b = some o∧∀ v,o.data≠.cell v
  keep : ∀ i h h',tn i h→(∀ b∈fp,∀ o,h.get? b = some o→h'.get? b = some o)→tn i h'
  item : ∀ (X : Cx),X.prog = P→X.w = w→X.K = K→X.calm = true→∀ (i : Nat) (pins : List (Addr × Obj)) (s : Shared) (σ : St) (H : Hp) (E : Value→Shared→Prop),Inv X pins σ H s→(∀ b∈fp,FpOk X pins H b)→tn i s.heap→J.go i H →
    wpAny (model P w) X.A (pyNext (.ref it)) (fun r s1 => ∃ u,r = some u ∧
      wpAny (model P w) X.A (letOwnedTupleGo tg (.ref it) u) (fun _ s2 => ∃ x H',Inv X pins σ H' s2∧RelV x u∧J.yld i H x H'∧tn (i + 1) s2.heap∧∀ b∈fp,H' b = none) E s1) E s
  done : ∀ (X : Cx),X.prog = P→X.w = w→X.K = K→X.calm = true→∀ (i : Nat) (pins : List (Addr × Obj)) (s : Shared) (σ : St) (H : Hp) (E : Value→Shared→Prop),Inv X pins σ H s→(∀ b∈fp,FpOk X pins H b)→tn i s.heap→J.stop i H →
    wpAny (model P w) X.A (pyNext (.ref it)) (fun r s1 => r = none∧Inv X pins σ H s1) E s
  self : ∀ (A : Around) (i : Nat) (s : Shared) (Q : Value→Shared→Prop) (E : Value→Shared→Prop),tn i s.heap→Q (.ref it) s→wpAny (model P w) A (pyIter (.ref it)) Q E s
noncomputable abbrev TI := St→Hp→(It→Hp→Prop)→Prop
noncomputable def PIE (X : Cx) (pins : List (Addr × Obj)) (σ : St) (tg : Expr) (R : It→Hp→Prop) (itv : Value) (s2 : Shared) : Prop :=
  ∃ (it : Addr) (fp : List Addr) (tn : Nat→Heap→Prop) (J : It) (H' : Hp),itv = .ref it∧Inv X pins σ H' s2∧Turn X.prog X.w X.K tg J fp it tn∧tn 0 s2.heap∧(∀ b∈fp,FpOk X pins H' b)∧R J H'
noncomputable def PI (X : Cx) (tg iter : Expr) (wi : TI) : Prop :=
  ∀ (pins : List (Addr × Obj)) (s : Shared) (σ : St) (H : Hp) (R : It→Hp→Prop),Inv X pins σ H s→wi σ H R →
    wpAny (model X.prog X.w) X.A (eval iter X.env) (fun v s1 => wpAny (model X.prog X.w) X.A (pyIter v) (PIE X pins σ tg R) X.xe s1) X.xe s
theorem zie {M : Model} {A : Around} {E : Value→Shared→Prop} {s : Shared} {tg : Expr} {it : Addr} {u : Value} {o : Obj} {n : String} {vs : Array Value} {Q : Unit→Shared→Prop} (ho : s.heap.get? it = some o) (hc : o.cls = .type n) (hd : o.data = .fields vs)
    (hn : ["enumerate","zip","dict_itemiterator","dict_reverseitemiterator","odict_iterator","itertools.zip_longest","itertools.pairwise"].contains n = false) (hQ : Q () s) : wpAny M A (letOwnedTupleGo tg (.ref it) u) Q E s := by
  unfold letOwnedTupleGo
  cases tg <;> first
    | exact wpAny_pure hQ
    | (cases u <;> first
        | exact wpAny_pure hQ
        | (refine wpAny_bind (wpAny_load ho ?_)
           rw [hc,hd]
           show wpAny M A (if (["enumerate","zip","dict_itemiterator","dict_reverseitemiterator","odict_iterator","itertools.zip_longest","itertools.pairwise"].contains n && vs[0]? == some (rawInt _)) = true then _ else _) Q E s
           rw [if_neg (by intro h; rw [hn,Bool.false_and] at h; cases h)]
           exact wpAny_pure hQ))
noncomputable def Itr (lo : Int) (n : Nat) : It := ⟨fun i _ => i < n,fun i H x H' => H' = H∧x = .int (lo + i),fun i _ => n≤i⟩
theorem zc3 {P : Program} {w : World} {K : PySem.W.Frag} {tg : Expr} (it : Addr) (lo : Int) (n : Nat) : Turn P w K tg (Itr lo n) [it] it (fun i h => IsRangeIter h it (lo + (i : Nat) * 1) ((n : Int) - (i : Nat)) 1) where
  mem := by simp
  obj := fun i h st b hb => by
    have e : b = it := by simpa using hb
    subst e
    exact ⟨_,st,fun v z => by
      have z' : Data.fields _ = Data.cell v := z
      cases z'⟩
  keep := fun i h h' st k => k it (by simp) _ st
  item := by
    intro X hP hw hK hc i pins s σ H E I hf st hg
    subst hP hw hK
    obtain ⟨f0,f1,f2,f3,f4,f5⟩ := hf it (by simp)
    have W := Walks.range (prog := X.prog) (w := X.w) (I.ok.hd hc) it lo 1 n
    refine W.item i s _ _ hg st fun v h' tk hv st' kk => ?_
    obtain ⟨t,rfl⟩ := hv
    have I1 : Inv X pins σ H { s with heap := h',toks := tk } := I.turned (fun b o hb e => kk b o (by simpa using hb) e) f0 f1 f3 f4 f5
    refine ⟨_,rfl,zie (s := { s with heap := h',toks := tk }) (n := "range_iterator") st' rfl rfl (by decide) ⟨.int (lo + i),H,I1,⟨t,?_⟩,⟨rfl,rfl⟩,st',fun b hb => (hf b hb).1⟩⟩
    rw [Int.mul_one]
  done := by
    intro X hP hw hK hc i pins s σ H E I hf st hg
    subst hP hw hK
    obtain ⟨f0,f1,f2,f3,f4,f5⟩ := hf it (by simp)
    exact wpAny_pyNext_range_end (I.ok.hd hc) st (by have : n≤i := hg; omega) fun h' eb => ⟨rfl,I.turned (t' := s.toks) (fun b o hb e => eb b o hb e) f0 f1 f3 f4 f5⟩
  self := fun _ _ _ _ _ st h => wpAny_pyIter_rangeiter st h
end L2
namespace L2
open PySem PySem.Spec PyProof.Rows
section
variable {X : Cx} {tg : Expr}
theorem zel {pins : List (Addr × Obj)} {σ : St} {H : Hp} {s : Shared} {R : It→Hp→Prop} {E : Value→Shared→Prop} {lo hi : Int} {t u v : Tok} {tk : Nat} (I : Inv X pins σ H s) (h1 : -(2 ^ 62)≤lo) (h2 : lo < 2 ^ 62) (h3 : -(2 ^ 62)≤hi) (h4 : hi < 2 ^ 62)
    (q : R (Itr lo (hi - lo).toNat) H) : wpAny (model X.prog X.w) X.A (pyIter (.ref s.heap.objs.size)) (PIE X pins σ tg R) E { s with heap := s.heap.push { cls := .type "range",data := .fields #[.int lo t,.int hi u,.int 1 v] },toks := tk } := by
  refine wpAny_pyIter_range (IsRange.new ..) (small_one h1 h2 h3 h4) ?_
  have I1 : Inv X pins σ H { s with heap := s.heap.push { cls := .type "range",data := .fields #[.int lo t,.int hi u,.int 1 v] },toks := tk } := I.kept fun b o e => Heap.get?_push_of_some _ e
  refine ⟨(s.heap.push { cls := .type "range",data := .fields #[.int lo t,.int hi u,.int 1 v] }).objs.size,[(s.heap.push { cls := .type "range",data := .fields #[.int lo t,.int hi u,.int 1 v] }).objs.size],_,_,H,rfl,
    I1.kept (t' := tk) fun b o e => Heap.get?_push_of_some _ e,zc3 _ lo (hi - lo).toNat,?_,fun b hb => ?_,q⟩
  · have e1 : lo + ((0 : Nat) : Int) * 1 = lo := by simp
    have e2 : (((hi - lo).toNat : Nat) : Int) - ((0 : Nat) : Int) = Builtin.Range.rangeSize lo hi 1 := by rw [rangeSize_one]; split <;> omega
    show IsRangeIter _ _ (lo + ((0 : Nat) : Int) * 1) ((((hi - lo).toNat : Nat) : Int) - ((0 : Nat) : Int)) 1
    rw [e1,e2]
    exact Heap.get?_push_size _ rfl
  · have e : b = (s.heap.push { cls := .type "range",data := .fields #[.int lo t,.int hi u,.int 1 v] }).objs.size := by simpa using hb
    subst e
    exact I1.fpOk (Nat.le_refl _) (I1.hok.fresh (Nat.le_refl _))
noncomputable def zic (ta : TA) : TI := fun σ H R => ta σ H fun vs H1 => ∃ j : Int,vs = [.int j]∧-(2 ^ 62)≤j∧j < 2 ^ 62∧R (Itr 0 j.toNat) H1
theorem zdw {a : Expr} {ta : TA} {p pos : Pos} (hg : Gl X "range") (hm : X.mg "range" = none) (ha : PA X [a] ta) (hs : starEach [a] X.env = [(false,eval a X.env)] := by rfl) : PI X tg (.Call (.Name "range" p) [a] [] pos) (zic ta) := by
  intro pins s σ H R I h
  refine Call_ (zcT I hg hm boot_range (PyProof.Rows.callWith_type1 (thn (ha pos pins s σ H _ I h) fun us s1 ⟨vs,H1,I1,r1,q1⟩ => ?_) hs rfl))
  obtain ⟨j,e,q1,q2,q⟩ := q1
  subst e
  cases r1 with
  | cons r rr =>
    cases rr
    obtain ⟨t,rfl⟩ := r
    exact call_range_1 (zel I1 (by omega) (by omega) q1 q2 (by simpa using q))
noncomputable def tFor (wi : TI) (g : TG) (tb : TS) : TS := fun D σ H => wi σ H fun J H1 => ∃ W : Nat→Nat→St→Hp→Prop,(∃ m,W 0 m σ H1)∧∀ i m σ H,W i m σ H →
  (J.stop i H∧D.nx σ H)∨(J.go i H∧∃ N : St→Hp→Prop,(∀ σ' H',N σ' H'→∃ m',m' < m∧W (i + 1) m' σ' H')∧∀ x H',J.yld i H x H'→g x σ H' fun σ2 H2 => tb { D with nx := N,ct := N,bk := D.nx } σ2 H2)
noncomputable def zb9 (fp : List Addr) (h : Heap) : List (Addr × Obj) := fp.filterMap fun b => (h.get? b).map fun o => (b,o)
theorem za6 {fp : List Addr} {h : Heap} {b : Addr} {o : Obj} (hb : b∈fp) (e : h.get? b = some o) : (b,o)∈zb9 fp h := List.mem_filterMap.mpr ⟨b,hb,by rw [e]; rfl⟩
theorem zdF {fp : List Addr} {h : Heap} {p : Addr × Obj} (hp : p∈zb9 fp h) : p.1∈fp∧h.get? p.1 = some p.2 := by
  obtain ⟨b,hb,e⟩ := List.mem_filterMap.mp hp
  cases q : h.get? b with
  | none => rw [q] at e; cases e
  | some o =>
    rw [q] at e
    have e' : (b,o) = p := Option.some.inj e
    subst e'
    exact ⟨hb,q⟩
theorem Inv.pinned {pins : List (Addr × Obj)} {σ : St} {H : Hp} {s : Shared} {fp : List Addr} (I : Inv X pins σ H s) (hf : ∀ b∈fp,FpOk X pins H b) (ho : ∀ b∈fp,∃ o,s.heap.get? b = some o∧∀ v,o.data≠.cell v) : Inv X (pins++zb9 fp s.heap) σ H s :=
  I.pins_of fun p hp => (List.mem_append.mp hp).elim (fun z => I.pin p (List.mem_append_right _ z)) fun z => by
    obtain ⟨hb,e⟩ := zdF z
    obtain ⟨f0,f1,f2,_⟩ := hf p.1 hb
    obtain ⟨o,e',d⟩ := ho p.1 hb
    rw [e] at e'; cases e'
    exact ⟨e,f0,f1,f2,d⟩
theorem Inv.unpinned {pins pl : List (Addr × Obj)} {σ : St} {H : Hp} {s : Shared} (I : Inv X (pins++pl) σ H s) : Inv X pins σ H s := I.pins_of fun p hp => I.pin p (List.mem_append_right _ (List.mem_append_left _ hp))
theorem zgE {iter : Expr} {body : List Stmt} {wi : TI} {g : TG} {tb : TS} {pos : Pos} (hp : PassesOwn (model X.prog X.w) X.A X.env X.xe) (hc : X.calm = true) (hi : PI X tg iter wi) (hg : PG X tg g) (hb : PSs X body tb)
    (hs : ∀ x,foldedSetIterable iter X.env x = pure x := by intro _; rfl) : PS X (.For tg iter body [] pos) (tFor wi g tb) := by
  intro pins s σ H D I h
  refine wpAny_For (thn (hi pins s σ H _ I h) fun v s1 h1 => thn h1 fun itv s2 h2 => ?_) hs
  obtain ⟨it,fp,tn,J,H2,e,I2,T,st2,f2,W,⟨m0,w0⟩,turn⟩ := h2
  subst e
  have stat : ∀ {H' : Hp},(∀ b∈fp,H' b = none)→∀ b∈fp,FpOk X pins H' b := fun hn b hb => ⟨hn b hb,(f2 b hb).2⟩
  refine codeAny_forLoop_any (fun n s' => ∃ i σ' H',Inv X pins σ' H' s'∧tn i s'.heap∧(∀ b∈fp,H' b = none)∧W i n σ' H') ?_ m0 ⟨0,σ,H2,I2,st2,fun b hb => (f2 b hb).1,w0⟩
  rintro n s3 ⟨i,σ3,H3,I3,st3,fr3,w3⟩
  rcases turn i n σ3 H3 w3 with ⟨stop,qn⟩ | ⟨go,N,hN,step⟩
  · refine wpAny_passesOwn hp (thn (T.done X rfl rfl rfl hc i pins s3 σ3 H3 X.xe I3 (stat fr3) st3 stop) fun r s4 ⟨hr,I4⟩ => ?_)
    subst hr
    exact wpAny_execs_nil ⟨σ3,H3,I4,qn⟩
  · refine wpAny_passesOwn hp (thn (T.item X rfl rfl rfl hc i pins s3 σ3 H3 X.xe I3 (stat fr3) st3 go) fun r s4 ⟨u,hr,h4⟩ => ?_)
    subst hr
    refine wpAny_passesOwn hp (thn h4 fun _ s5 ⟨x,H5,I5,r5,y5,st5,fr5⟩ => ?_)
    have I5' := I5.pinned (stat fr5) (T.obj _ _ st5)
    refine wpAny_passesOwn hp (thn (hg _ s5 σ3 H5 x u _ I5' r5 (step x H5 y5)) fun _ s6 ⟨σ6,H6,I6,q6⟩ => ?_)
    refine wpAny_passesOwn hp (thn (hb _ s6 σ6 H6 _ I6 q6) fun f s7 q7 => ?_)
    have again : ∀ {σ7 : St} {H7 : Hp},Inv X (pins++zb9 fp s5.heap) σ7 H7 s7→N σ7 H7→∃ m,m < n∧∃ i σ' H',Inv X pins σ' H' s7∧tn i s7.heap∧(∀ b∈fp,H' b = none)∧W i m σ' H' := fun {σ7 H7} I7 n7 => by
      obtain ⟨m',hm,w7⟩ := hN σ7 H7 n7
      refine ⟨m',hm,i + 1,σ7,H7,I7.unpinned,T.keep _ _ _ st5 fun b hb o e => (I7.pin (b,o) (List.mem_append_right _ (List.mem_append_right _ (za6 hb e)))).1,fun b hb => ?_,w7⟩
      obtain ⟨o,e,d⟩ := T.obj _ _ st5 b hb
      exact (I7.pin (b,o) (List.mem_append_right _ (List.mem_append_right _ (za6 hb e)))).2.1
    cases f with
    | next => obtain ⟨σ7,H7,I7,n7⟩ := q7; exact again I7 n7
    | cont => obtain ⟨σ7,H7,I7,n7⟩ := q7; exact again I7 n7
    | brk => obtain ⟨σ7,H7,I7,q7⟩ := q7; exact ⟨σ7,H7,I7.unpinned,q7⟩
    | ret v => obtain ⟨x7,σ7,H7,I7,r7,q7⟩ := q7; exact ⟨x7,σ7,H7,I7.unpinned,r7,q7⟩
end
end L2
namespace L2
open PySem PySem.Spec PyProof.Rows
noncomputable abbrev R2 := V→V→Hp→VK→Prop
noncomputable def OpR (X : Cx) (f : Value→Value→Sem Value) (r : R2) : Prop :=
  ∀ (pins : List (Addr × Obj)) (s : Shared) (σ : St) (H : Hp) (x y : V) (v u : Value) (Q : VK),Inv X pins σ H s→RelV x v→RelV y u→r x y H Q →
    wpAny (model X.prog X.w) X.A (f v u) (EP X pins σ Q) X.xe s
noncomputable def zb1 (X : Cx) (f : Value) (r : List V→Hp→VK→Prop) : Prop :=
  ∀ (pins : List (Addr × Obj)) (s : Shared) (σ : St) (H : Hp) (xs : List V) (us : List Value) (Q : VK),Inv X pins σ H s→Vals xs us→r xs H Q →
    wpAny (model X.prog X.w) X.A (call f us) (EP X pins σ Q) X.xe s
noncomputable def tOp (r : R2) (ta tb : TE) : TE := fun σ H Q => ta σ H fun x H1 => tb σ H1 fun y H2 => r x y H2 Q
noncomputable def rI (C : Int→Int→Prop) (g : Int→Int→V) : R2 := fun x y H Q => ∃ i j,x = .int i∧y = .int j∧C i j∧Q (g i j) H
noncomputable def rI0 (g : Int→Int→V) : R2 := fun x y H Q => ∃ i j,x = .int i∧y = .int j∧Q (g i j) H
section
variable {X : Cx} {a b c : Expr} {ta tb tc : TE} {pos : Pos}
theorem binT (ha : PE X a ta) (hb : PE X b tb) {pins : List (Addr × Obj)} {s : Shared} {σ : St} {H : Hp} {R : V→V→Hp→Prop} (I : Inv X pins σ H s)
    (h : ta σ H fun x H1 => tb σ H1 fun y H2 => R x y H2) {Q : Value→Shared→Prop} {f : Value→Value→Sem Value}
    (hf : ∀ v u s2 x y H2,Inv X pins σ H2 s2→RelV x v→RelV y u→R x y H2→wpAny (model X.prog X.w) X.A (f v u) Q X.xe s2) :
    wpAny (model X.prog X.w) X.A (eval a X.env) (fun v s₁ => wpAny (model X.prog X.w) X.A (eval b X.env) (fun u s₂ => wpAny (model X.prog X.w) X.A (f v u) Q X.xe s₂) X.xe s₁) X.xe s := by
  refine thn (ha pins s σ H _ I h) fun v s1 ⟨x,H1,I1,r1,q1⟩ => ?_
  refine thn (hb pins s1 σ H1 _ I1 q1) fun u s2 ⟨y,H2,I2,r2,q2⟩ => ?_
  exact hf v u s2 x y H2 I2 r1 r2 q2
theorem zhV {op : Operator} {r : R2} (ho : OpR X (binaryOp op) r) (ha : PE X a ta) (hb : PE X b tb) : PE X (.BinOp a op b pos) (tOp r ta tb) := by
  intro pins s σ H Q I h
  exact wpAny_BinOp (binT ha hb I h fun v u s2 x y H2 I2 rx ry q => ho pins s2 σ H2 x y v u Q I2 rx ry q)
theorem opI {f : Value→Value→Sem Value} {C : Int→Int→Prop} {g : Int→Int→Int}
    (rule : ∀ (i j : Int) (t u : Tok) (s : Shared) (Q : Value→Shared→Prop) (E : Value→Shared→Prop),C i j→Q (.int (g i j) s.toks) { s with toks := s.toks + 1 }→wpAny (model X.prog X.w) X.A (f (.int i t) (.int j u)) Q E s) :
    OpR X f (rI C fun i j => .int (g i j)) := by
  intro pins s σ H x y v u Q I rx ry h
  obtain ⟨i,j,rfl,rfl,hc,q⟩ := h
  obtain ⟨t,rfl⟩ := rx
  obtain ⟨t',rfl⟩ := ry
  exact rule i j t t' s _ _ hc ⟨.int (g i j),H,I.tok _,⟨_,rfl⟩,q⟩
theorem opI0 {f : Value→Value→Sem Value} {g : Int→Int→Int}
    (rule : ∀ (i j : Int) (t u : Tok) (s : Shared) (Q : Value→Shared→Prop) (E : Value→Shared→Prop),Q (.int (g i j) s.toks) { s with toks := s.toks + 1 }→wpAny (model X.prog X.w) X.A (f (.int i t) (.int j u)) Q E s) :
    OpR X f (rI0 fun i j => .int (g i j)) := by
  intro pins s σ H x y v u Q I rx ry h
  obtain ⟨i,j,rfl,rfl,q⟩ := h
  obtain ⟨t,rfl⟩ := rx
  obtain ⟨t',rfl⟩ := ry
  exact rule i j t t' s _ _ ⟨.int (g i j),H,I.tok _,⟨_,rfl⟩,q⟩
theorem opB0 {f : Value→Value→Sem Value} {g : Int→Int→Bool}
    (rule : ∀ (i j : Int) (t u : Tok) (s : Shared) (Q : Value→Shared→Prop) (E : Value→Shared→Prop),Q (.bool (g i j)) s→wpAny (model X.prog X.w) X.A (f (.int i t) (.int j u)) Q E s) :
    OpR X f (rI0 fun i j => .bl (g i j)) := by
  intro pins s σ H x y v u Q I rx ry h
  obtain ⟨i,j,rfl,rfl,q⟩ := h
  obtain ⟨t,rfl⟩ := rx
  obtain ⟨t',rfl⟩ := ry
  exact rule i j t t' s _ _ ⟨.bl (g i j),H,I,rfl,q⟩
noncomputable def CDiv (i j : Int) : Prop := 0 < j∧j < 1073741824
noncomputable def CPow (i j : Int) : Prop := 0≤j∧j≤1000000∧i.natAbs < 2 ^ 64
noncomputable def CMul (i j : Int) : Prop := (-(2 ^ 64) < i∧i < 2 ^ 64)∨(-(2 ^ 64) < j∧j < 2 ^ 64)
theorem CMul.ok {i j : Int} (h : CMul i j) : IntMulOk i j := by
  rcases h with ⟨h1,h2⟩ | ⟨h1,h2⟩
  · exact .of_left (intBits_le_64 h1 h2)
  · exact .of_right (intBits_le_64 h1 h2)
theorem zgX : OpR X (binaryOp .Add) (rI0 fun i j => .int (i + j)) := opI0 fun _ _ _ _ _ _ _ q => add_int q
theorem zgQ : OpR X (binaryOp .Sub) (rI0 fun i j => .int (i - j)) := opI0 fun _ _ _ _ _ _ _ q => sub_int q
theorem zgS : OpR X (binaryOp .Mult) (rI CMul fun i j => .int (i * j)) := opI fun _ _ _ _ _ _ _ hc q => mul_int q hc.ok
theorem zfw : OpR X (binaryOp .FloorDiv) (rI CDiv fun i j => .int (i / j)) := opI fun i j _ _ _ _ _ hc q => by
  have h1 : (0 : Int) < j := hc.1
  have h2 : j < 1073741824 := hc.2
  exact floordiv_int (by omega) (by rw [Int.fdiv_eq_ediv_of_nonneg i (by omega)]; exact q) (.inl (PyProof.noPylong_small (by omega)))
theorem zgT : OpR X (binaryOp .Mod) (rI (fun _ j => 0 < j) fun i j => .int (i % j)) := opI fun i j _ _ _ _ _ hc q => by
  have h1 : (0 : Int) < j := hc
  exact mod_int' (by omega) (by rw [Int.fmod_eq_emod_of_nonneg i (by omega)]; exact q)
theorem zgR : OpR X (binaryOp .Pow) (rI CPow fun i j => .int (i ^ j.toNat)) := opI fun _ _ _ _ _ _ _ hc q => pow_int_small hc.1 hc.2.1 hc.2.2 q
end
noncomputable def scal : V→V→Bool
  | .non,.non => true | .non,.int _ => true | .int _,.non => true | .non,.bl _ => true | .bl _,.non => true | .non,.str _ => true | .str _,.non => true
  | .int _,.int _ => true | .bl _,.bl _ => true | .str _,.str _ => true | .byt _,.byt _ => true
  | .int _,.str _ => true | .str _,.int _ => true | .bl _,.str _ => true | .str _,.bl _ => true
  | _,_ => false
noncomputable def rEq : R2 := fun x y H Q => scal x y = true∧Q (.bl (decide (x = y))) H
noncomputable def rNe : R2 := fun x y H Q => scal x y = true∧Q (.bl (! decide (x = y))) H
theorem zcD {i j : Int} : decide (V.int i = V.int j) = (i == j) := by
  rw [Bool.eq_iff_iff]
  simp
theorem zdY {i j : Bool} : decide (V.bl i = V.bl j) = (i == j) := by
  rw [Bool.eq_iff_iff]
  simp
theorem zcC {i j : Str} : decide (V.str i = V.str j) = (i == j) := by
  rw [Bool.eq_iff_iff]
  simp
theorem zdX {i j : Array UInt8} : decide (V.byt i = V.byt j) = (i.toList == j.toList) := by
  rw [Bool.eq_iff_iff]
  cases i
  cases j
  simp
section
variable {X : Cx} {a b c : Expr} {ta tb tc : TE} {pos : Pos}
theorem zah {pins : List (Addr × Obj)} {σ : St} {H : Hp} {s : Shared} {Q : VK} {k k' : Bool} (I : Inv X pins σ H s) (q : Q (.bl k) H) (e : k = k') : EP X pins σ Q (.bool k') s := by
  subst e
  exact ⟨.bl k,H,I,rfl,q⟩
theorem zgW : OpR X (compareOp .Eq) rEq := by
  intro pins s σ H x y v u Q I rx ry h
  obtain ⟨hs,q⟩ := h
  cases x with
  | non =>
    cases rx
    cases y with
    | non => cases ry; exact PySem.EqNone.eq_none_none (zah I q (by simp))
    | bl j => cases ry; exact PySem.EqNone.eq_none_bool (zah I q (by simp))
    | int j => obtain ⟨t',rfl⟩ := ry; exact PySem.EqNone.eq_none_int (zah I q (by simp))
    | str j => obtain ⟨t',rfl⟩ := ry; exact PySem.EqNone.eq_none_str (zah I q (by simp))
    | _ => exact absurd (show false = true from hs) Bool.false_ne_true
  | bl i =>
    cases rx
    cases y with
    | non => cases ry; exact PySem.EqNone.eq_bool_none (zah I q (by simp))
    | bl j => cases ry; exact eq_bool (zah I q zdY)
    | str j => obtain ⟨t',rfl⟩ := ry; exact PySem.EqMixed.eq_bool_str (zah I q (by simp))
    | _ => exact absurd (show false = true from hs) Bool.false_ne_true
  | int i =>
    obtain ⟨t,rfl⟩ := rx
    cases y with
    | non => cases ry; exact PySem.EqNone.eq_int_none (zah I q (by simp))
    | int j => obtain ⟨t',rfl⟩ := ry; exact eq_int (zah I q zcD)
    | str j => obtain ⟨t',rfl⟩ := ry; exact PySem.EqMixed.eq_int_str (zah I q (by simp))
    | _ => exact absurd (show false = true from hs) Bool.false_ne_true
  | str i =>
    obtain ⟨t,rfl⟩ := rx
    cases y with
    | non => cases ry; exact PySem.EqNone.eq_str_none (zah I q (by simp))
    | bl j => cases ry; exact PySem.EqMixed.eq_str_bool (zah I q (by simp))
    | int j => obtain ⟨t',rfl⟩ := ry; exact PySem.EqMixed.eq_str_int (zah I q (by simp))
    | str j => obtain ⟨t',rfl⟩ := ry; exact eq_str (zah I q zcC)
    | _ => exact absurd (show false = true from hs) Bool.false_ne_true
  | byt i =>
    obtain ⟨t,rfl⟩ := rx
    cases y with
    | byt j => obtain ⟨t',rfl⟩ := ry; exact PySem.W.eq_bytes (zah I q zdX)
    | _ => exact absurd (show false = true from hs) Bool.false_ne_true
  | _ => cases y <;> exact absurd (show false = true from hs) Bool.false_ne_true
theorem zhZ : OpR X (compareOp .NotEq) rNe := by
  intro pins s σ H x y v u Q I rx ry h
  obtain ⟨hs,q⟩ := h
  cases x with
  | non =>
    cases rx
    cases y with
    | non => cases ry; exact PySem.EqNone.ne_none_none (zah I q (by simp))
    | bl j => cases ry; exact PySem.EqNone.ne_none_bool (zah I q (by simp))
    | int j => obtain ⟨t',rfl⟩ := ry; exact PySem.EqNone.ne_none_int (zah I q (by simp))
    | str j => obtain ⟨t',rfl⟩ := ry; exact PySem.EqNone.ne_none_str (zah I q (by simp))
    | _ => exact absurd (show false = true from hs) Bool.false_ne_true
  | bl i =>
    cases rx
    cases y with
    | non => cases ry; exact PySem.EqNone.ne_bool_none (zah I q (by simp))
    | bl j => cases ry; exact ne_bool (zah I q (congrArg not zdY))
    | str j => obtain ⟨t',rfl⟩ := ry; exact PySem.EqMixed.ne_bool_str (zah I q (by simp))
    | _ => exact absurd (show false = true from hs) Bool.false_ne_true
  | int i =>
    obtain ⟨t,rfl⟩ := rx
    cases y with
    | non => cases ry; exact PySem.EqNone.ne_int_none (zah I q (by simp))
    | int j => obtain ⟨t',rfl⟩ := ry; exact ne_int (zah I q (congrArg not zcD))
    | str j => obtain ⟨t',rfl⟩ := ry; exact PySem.EqMixed.ne_int_str (zah I q (by simp))
    | _ => exact absurd (show false = true from hs) Bool.false_ne_true
  | str i =>
    obtain ⟨t,rfl⟩ := rx
    cases y with
    | non => cases ry; exact PySem.EqNone.ne_str_none (zah I q (by simp))
    | bl j => cases ry; exact PySem.EqMixed.ne_str_bool (zah I q (by simp))
    | int j => obtain ⟨t',rfl⟩ := ry; exact PySem.EqMixed.ne_str_int (zah I q (by simp))
    | str j => obtain ⟨t',rfl⟩ := ry; exact ne_str (zah I q (congrArg not zcC))
    | _ => exact absurd (show false = true from hs) Bool.false_ne_true
  | byt i =>
    obtain ⟨t,rfl⟩ := rx
    cases y with
    | byt j => obtain ⟨t',rfl⟩ := ry; exact PySem.W.ne_bytes (zah I q (congrArg not zdX))
    | _ => exact absurd (show false = true from hs) Bool.false_ne_true
  | _ => cases y <;> exact absurd (show false = true from hs) Bool.false_ne_true
theorem zh0 : OpR X (compareOp .Lt) (rI0 fun i j => .bl (decide (i < j))) := opB0 fun _ _ _ _ _ _ _ q => lt_int q
theorem zh1 : OpR X (compareOp .Gt) (rI0 fun i j => .bl (decide (j < i))) := opB0 fun _ _ _ _ _ _ _ q => gt_int q
theorem zdD : OpR X (compareOp .In) (fun x y H Q => ∃ i j,x = .str i∧y = .str j∧Q (.bl (!(Builtin.Str.occurrences j i 0 j.length 1).isEmpty)) H) := by
  intro pins s σ H x y v u Q I rx ry h
  obtain ⟨i,j,rfl,rfl,q⟩ := h
  obtain ⟨t,rfl⟩ := rx
  obtain ⟨t',rfl⟩ := ry
  exact in_str (zah I q rfl)
theorem OpR.or {f : Value→Value→Sem Value} {r r' : R2} (h : OpR X f r) (h' : OpR X f r') : OpR X f (fun x y H Q => r x y H Q∨r' x y H Q) := by
  intro pins s σ H x y v u Q I rx ry q
  rcases q with q | q
  · exact h pins s σ H x y v u Q I rx ry q
  · exact h' pins s σ H x y v u Q I rx ry q
theorem zcb (b : Expr) {op : CmpOp} (h : op≠.In := by decide) (h2 : op≠.NotIn := by decide) : behindInMarks op b = false := by
  have e1 : (op == CmpOp.In) = false := by cases op <;> first | rfl | exact absurd rfl h
  have e2 : (op == CmpOp.NotIn) = false := by cases op <;> first | rfl | exact absurd rfl h2
  cases b <;> simp [behindInMarks,e1,e2]
theorem zfs {op : CmpOp} {r : R2} (ho : OpR X (compareOp op) r) (ha : PE X a ta) (hb : PE X b tb) (hm : behindInMarks op b = false) : PE X (.Compare a [op] [b] pos) (tOp r ta tb) := by
  intro pins s σ H Q I h
  exact wpAny_Compare1 (binT ha hb I h fun v u s2 x y H2 I2 rx ry q => ho pins s2 σ H2 x y v u Q I2 rx ry q) hm
noncomputable def zhF (t : TE) : TT := fun σ H Q => t σ H fun x H' => ∃ k,x = .bl k∧Q k H'
theorem zfl {op : CmpOp} {r : R2} (ho : OpR X (compareOp op) r) (ha : PE X a ta) (hb : PE X b tb) (hm : behindInMarks op b = false) : PT X (.Compare a [op] [b] pos) (zhF (tOp r ta tb)) := by
  intro pins s σ H Q I h
  refine wpAny_isTrue_Compare1 (thn (ha pins s σ H _ I h) fun v s1 ⟨x,H1,I1,r1,q1⟩ => thn (hb pins s1 σ H1 _ I1 q1) fun u s2 ⟨y,H2,I2,r2,q2⟩ =>
    thn (ho pins s2 σ H2 x y v u _ I2 r1 r2 q2) fun c s3 ⟨z,H3,I3,r3,k,e,q3⟩ => ?_) hm
  subst e
  cases r3
  exact wpAny_truthy_bool ⟨H3,I3,q3⟩
theorem zcR : (sizeLine : Nat) < 2 ^ 63 := by rw [sizeLine_eq]; decide
theorem zda : OpR X (binaryOp .Add) (fun x y H Q => ∃ i j,x = .str i∧y = .str j∧i.length + j.length≤sizeLine∧Q (.str (i++j)) H) := by
  intro pins s σ H x y v u Q I rx ry h
  obtain ⟨i,j,rfl,rfl,hz,q⟩ := h
  obtain ⟨t,rfl⟩ := rx
  obtain ⟨t',rfl⟩ := ry
  exact add_str (fun t' tk => ⟨.str (i++j),H,I.tok _,⟨_,rfl⟩,q⟩) hz
theorem zgf {x : V} {us : List Value} (r : Vals [x] us) : ∃ u,us = [u]∧RelV x u := by
  cases r with
  | cons r1 r2 => cases r2; exact ⟨_,rfl,r1⟩
theorem ze9 {x y : V} {us : List Value} (r : Vals [x,y] us) : ∃ u w',us = [u,w']∧RelV x u∧RelV y w' := by
  cases r with
  | cons r1 r2 =>
    cases r2 with
    | cons r3 r4 => cases r4; exact ⟨_,_,rfl,r1,r3⟩
noncomputable def LenV (K : PySem.W.Frag) (x : V) (H : Hp) (n : Nat) : Prop :=
  match x with
  | .str y => y.length≤sizeLine∧n = y.length
  | .byt y => y.size≤sizeLine∧n = y.size
  | .ref p => (∃ xs,SqL K H p xs∧n = xs.length)∨∃ xs,SqT K H p xs∧n = xs.length
  | _ => False
theorem zeM : zb1 X (.builtin "len") (fun xs H Q => ∃ x n,xs = [x]∧LenV X.K x H n∧Q (.int n) H) := by
  intro pins s σ H xs us Q I r h
  obtain ⟨x,n,rfl,e,q⟩ := h
  obtain ⟨u,rfl,rx⟩ := zgf r
  have hl := zcR
  have hs : sizeLine = 16777216 := sizeLine_eq
  cases x with
  | str y =>
    obtain ⟨t,rfl⟩ := rx
    obtain ⟨hy,e'⟩ : y.length≤sizeLine∧n = y.length := e
    subst e'
    exact len_str (by omega) ⟨.int _,H,I.tok _,⟨_,rfl⟩,q⟩
  | byt y =>
    obtain ⟨t,rfl⟩ := rx
    obtain ⟨hy,e'⟩ : y.size≤sizeLine∧n = y.size := e
    subst e'
    exact PySem.W.len_bytes (by omega) ⟨.int _,H,I.tok _,⟨_,rfl⟩,q⟩
  | ref p =>
    cases rx
    have e' : (∃ xs,SqL X.K H p xs∧n = xs.length)∨∃ xs,SqT X.K H p xs∧n = xs.length := e
    rcases e' with ⟨xs,hx,e'⟩ | ⟨xs,hx,e'⟩
    · subst e'
      obtain ⟨its,r',pl,hz⟩ := I.list hx
      have hlen := r'.length
      exact Calls.call_len_list pl.isList (by simp only [List.size_toArray]; omega) ⟨.int xs.length,H,I.tok _,⟨_,by simp only [List.size_toArray]; rw [hlen]⟩,q⟩
    · subst e'
      obtain ⟨its,r',pl,hz⟩ := I.tuple hx
      have hlen := r'.length
      exact len_tuple pl (by simp only [List.size_toArray]; omega) ⟨.int xs.length,H,I.tok _,⟨_,by simp only [List.size_toArray]; rw [hlen]⟩,q⟩
  | _ => exact (show False from e).elim
end
end L2
namespace L2
open PySem PySem.Spec PyProof.Rows
structure ObjM (h : Heap) (x dx C : Addr) (mA : Str→Option Value) : Prop where
  obj : h.get? x = some (PySem.W.instObj C dx)
  ns : h.Ns1 dx mA
  ne : dx≠x
theorem zdK {h : Heap} {dx : Addr} {mA : Str→Option Value} (n : h.Ns1 dx mA) : ∃ od,h.get? dx = some od∧∀ name,PySem.W.lookIn name od = some (mA name) := by
  obtain ⟨o,es,ep,ho,hd,hk,_,hm⟩ := n
  refine ⟨o,ho,fun name => ?_⟩
  have e := hm name
  unfold nsFind findBy at e
  rw [← Array.find?_toList] at e
  unfold PySem.W.lookIn
  rw [hd]
  dsimp only
  split
  · rename_i y q
    rw [q] at e
    exact congrArg some e
  · rename_i q
    rw [q] at e
    have a : es.toList.any (·.refKey) = false := by
      rw [List.any_eq_false]
      intro y hy
      obtain ⟨z,t,hkey⟩ := hk y (Array.mem_toList_iff.mp hy)
      simp [DictEntry.refKey,hkey]
    have a' : ¬ es.toList.any (·.refKey) = true := by rw [a]; exact Bool.false_ne_true
    rw [if_neg a']
    exact congrArg some e
theorem ObjM.look {h : Heap} {x dx C : Addr} {mA : Str→Option Value} (I : ObjM h x dx C mA) : ∃ od,PySem.W.InstAt h x (PySem.W.instObj C dx) C (some od)∧∀ name,PySem.W.lookIn name od = some (mA name) :=
  let ⟨od,ho,hl⟩ := zdK I.ns
  ⟨od,⟨I.obj,rfl,rfl,ho⟩,hl⟩
section
variable {prog : Program} {w : World} {A : Around} {E : Value → Shared → Prop} {s : Shared} {K : PySem.W.Frag} {x dx C f : Addr} {mA : Str → Option Value} {name : Str} {v : Value}
end
noncomputable def putF (f : Str) (v : V) : List (Str × V)→List (Str × V)
  | [] => [(f,v)]
  | (g,x)::r => if g = f then (g,v)::r else (g,x)::putF f v r
theorem RelO.some_of {v : V} {o : Option Value} (r : RelO (some v) o) : ∃ u,o = some u∧RelV v u := by
  cases o with
  | none => exact (show False from r).elim
  | some u => exact ⟨u,rfl,r⟩
theorem RelO.none_of {o : Option Value} (r : RelO none o) : o = none := by
  cases o with
  | none => rfl
  | some u => exact (show False from r).elim
section
variable {P : Program} {w : World} {H H' : Hp} {h h' : Heap} {a C dx : Addr} {fs fs' : List (Str × V)}
end
structure Cls (K : PySem.W.Frag) (C : Addr) : Prop where
  pg : PySem.W.plainGet K C Str.empty = true
  hd : PySem.W.hasDictIn K C = true
  po : PySem.W.plainOver K C = true
  sa : PySem.W.findIn K (.ref C) "__setattr__" = some (some (.builtin "object.__setattr__"))
theorem Cls.get {K : PySem.W.Frag} {C : Addr} (c : Cls K C) (f : Str) : PySem.W.plainGet K C f = true := c.pg
structure Con (K : PySem.W.Frag) (C : Addr) (f : Str) (v : V) (u : Value) : Prop where
  at_ : PySem.W.findIn K (.ref C) f = some (some u)
  rel : RelV v u
  get : PySem.W.specialIn K u "__get__" = some none
  cp : PySem.W.copiedNames.contains f = false
structure Meth (K : PySem.W.Frag) (C : Addr) (m : Str) (f : Addr) : Prop where
  at_ : PySem.W.findIn K (.ref C) m = some (some (.ref f))
  fn : PySem.W.isFn K (.ref f) = true
  kp : PySem.W.keepIn K (.ref f) = true
section
variable {X : Cx} {pins : List (Addr × Obj)} {σ : St} {H : Hp} {s : Shared} {a C dx : Addr} {fs : List (Str × V)} {f : Str} {v : V} {A : Around} {E : Value → Shared → Prop}
theorem Inv.made (I : Inv X pins σ H s) : Inv X pins σ (upd (upd H s.heap.objs.size (.own (s.heap.objs.size + 1))) (s.heap.objs.size + 1) (.ins C s.heap.objs.size []))
    { s with heap := (s.heap.push PySem.W.emptyDict).push (PySem.W.instObj C s.heap.objs.size) } := by
  have e1 : (s.heap.push PySem.W.emptyDict).get? s.heap.objs.size = some PySem.W.emptyDict := Heap.get?_push_size s.heap rfl
  have e2 : ((s.heap.push PySem.W.emptyDict).push (PySem.W.instObj C s.heap.objs.size)).get? (s.heap.objs.size + 1) = some (PySem.W.instObj C s.heap.objs.size) := by
    have := Heap.get?_push_size (s.heap.push PySem.W.emptyDict) (o := PySem.W.instObj C s.heap.objs.size) rfl
    rwa [Heap.size_push] at this
  have e3 : (s.heap.push PySem.W.emptyDict).Ns s.heap.objs.size (fun _ => none) := ⟨PySem.W.emptyDict,#[],_,e1,rfl,(fun e he => absurd he (by simp)),fun _ => rfl⟩
  have I1 := I.laid (a := s.heap.objs.size) (o := .own (s.heap.objs.size + 1)) (h' := s.heap.push PySem.W.emptyDict) (t' := s.toks) (fun b u q => Heap.get?_push_of_some _ q) (Nat.le_refl _) ⟨_,e1⟩
  refine I1.laid (a := s.heap.objs.size + 1) (o := .ins C s.heap.objs.size []) (t' := s.toks) (fun b u q => Heap.get?_push_of_some _ q) (Nat.le_of_eq (Heap.size_push _ _)) ?_
  have ne : s.heap.objs.size≠s.heap.objs.size + 1 := Nat.ne_of_lt (Nat.lt_succ_self _)
  refine ⟨by rw [zaa ne,zab],Nat.zero_le _,ne,e2,fun _ => none,(Heap.Ns1.of_empty e3).at fun o q => Heap.get?_push_of_some _ q,fun _ => True.intro,fun y hy => absurd rfl hy⟩
theorem zf3 {prog : Program} {w : World} {env : Env} {e : Expr} {f : Str} {pos : Pos} {s : Shared} {Q : Value→Shared→Prop} (hb : attributeBase e f env (eval e env) = eval e env)
    (h : wpAny (model prog w) A (eval e env) (fun o s₁ => wpAny (model prog w) A (getAttr o f true) Q E s₁) E s) : wpAny (model prog w) A (eval (.Attribute e f pos) env) Q E s :=
  Attribute_any_ h (by rw [arm_eval_Attribute,hb])
end
section
variable {X : Cx} {o e value : Expr} {f : Str} {pos pos' tpos : Pos} {ta tv : TE}
end
section
variable {X : Cx} {pins : List (Addr × Obj)} {σ : St} {H : Hp} {s : Shared} {A : Around} {E : Value → Shared → Prop} {Q : Value → Shared → Prop} {c : Value} {b : Bool}
inductive TyOf (K : PySem.W.Frag) (H : Hp) : V→Value→Prop where
  | non : TyOf K H .non (.type "NoneType")
  | bl (x : Bool) : TyOf K H (.bl x) (.type "bool")
  | int (i : Int) : TyOf K H (.int i) (.type "int")
  | str (x : Str) : TyOf K H (.str x) (.type "str")
  | flt (x : UInt64) : TyOf K H (.flt x) (.type "float")
  | lst {a : Addr} {xs : List V} (e : H a = some (.lst xs)) : TyOf K H (.ref a) (.type "list")
  | frz {a : Addr} {o : Obj} {xs : List V} (e : H a = some (.frz o (.lst xs))) : TyOf K H (.ref a) (.type "list")
  | tup {a : Addr} {xs : List V} (e : H a = some (.tup xs)) : TyOf K H (.ref a) (.type "tuple")
  | dK {a : Addr} {kvs : List (Key × V)} (e : H a = some (.dK kvs)) : TyOf K H (.ref a) (.type "dict")
  | dT {a : Addr} {kvs : List (List Key × V)} (e : H a = some (.dT kvs)) : TyOf K H (.ref a) (.type "dict")
  | ins {a C dx : Addr} {fs : List (Str × V)} (e : H a = some (.ins C dx fs)) (cl : Cls K C) (ha : PySem.W.findIn K (.ref C) "__class__" = some (some (.builtin "object.__class__")))
      (hn : PySem.W.specialIn K (.builtin "object.__class__") "__get__" = some (some (.builtin "getset_descriptor.__get__"))) (htk : PySem.W.takesIn K (.builtin "object.__class__") = some true)
      (hm : PySem.W.mroIn K C (.type "object") = some true) : TyOf K H (.ref a) (.ref C)
end
end L2
namespace L2
open PySem PySem.Spec PyProof.Rows
structure Room (k : Nat) (A : Around) : Prop where
  hd : A.handled = none
  dp : A.depth + 3 * k + 5 < recursionLimit
  un : A.units + 16 * k + 200 < cLine
  gd : A.guards = some []
theorem Room.mono {j k : Nat} {A : Around} (r : Room k A) (h : j≤k) : Room j A := ⟨r.hd,by have := r.dp; omega,by have := r.un; omega,r.gd⟩
theorem Room.deeper {k : Nat} {A : Around} (r : Room (k + 1) A) (env : Env) : Room k (A.deeper env) :=
  ⟨r.hd,by have := r.dp; show A.depth + 1 + 3 * k + 5 < _; omega,by have := r.un; show A.units + 3 + 16 * k + 200 < _; omega,r.gd⟩
theorem Room.in1 {k : Nat} {A : Around} (r : Room (k + 1) A) : Room k A.in1 :=
  ⟨r.hd,by have := r.dp; show A.depth + 3 * k + 5 < _; omega,by have := r.un; show A.units + 1 + 16 * k + 200 < _; omega,r.gd⟩
theorem zdc {A : Around} {C : Addr} {us : List Value} {kw : List (Str × Value)} : (A.under (.builtin "type.__call__" ⟨.ref C::us,kw⟩)).depth = A.depth + 1 := by
  first | rfl | simp [Around.under,Code.weight,Code.isCreation,Code.isGuard,Code.isCaller,Code.frames,Code.isFrame,guardIds]
theorem zdb {A : Around} {C : Addr} {us : List Value} {kw : List (Str × Value)} : (A.under (.builtin "type.__call__" ⟨.ref C::us,kw⟩)).units = A.units + 1 := by
  first | rfl | simp [Around.under,Code.cUnits,Code.frames,Code.isFrame]
theorem Room.make {k : Nat} {A : Around} (r : Room (k + 1) A) (C : Addr) (us : List Value) (kw : List (Str × Value)) : Room k (A.under (.builtin "type.__call__" ⟨.ref C::us,kw⟩)) :=
  ⟨r.hd,by have := r.dp; rw [zdc]; omega,by have := r.un; rw [zdb]; omega,(by have := r.gd; first | exact this | (simp [Around.under,Code.isGuard,guardIds]; exact this))⟩
theorem Room.depth {k : Nat} {A : Around} (r : Room k A) : A.depth < recursionLimit := by have := r.dp; omega
theorem Room.units {k : Nat} {A : Around} (r : Room k A) : A.units + 64 < cLine := by have := r.un; omega
noncomputable def tNil : TA := fun _ H Q => Q [] H
noncomputable def zdm (ta : TE) (tr : TA) : TA := fun σ H Q => ta σ H fun x H1 => tr σ H1 fun xs H2 => Q (x::xs) H2
section
variable {X : Cx} {e : Expr} {es : List Expr} {te : TE} {t : TA} {pos : Pos}
theorem za1 : PA X [] tNil := fun _ _ _ _ H Q I h => Calls.spliced_nil ⟨[],H,I,.nil,h⟩
theorem zam (ha : PE X e te) (hr : PA X es t) (hs : starEach (e::es) X.env = (false,eval e X.env)::starEach es X.env := by rfl) : PA X (e::es) (zdm te t) := by
  intro pos pins s σ H Q I h
  rw [hs]
  show wpAny _ _ (spliced ((false,eval e X.env)::backTo pos (starEach es X.env))) _ _ s
  refine Calls.spliced_cons (thn (ha pins s σ H _ I h) fun u s1 ⟨x,H1,I1,r1,q1⟩ => ?_)
  exact thn (hr pos pins s1 σ H1 _ I1 q1) fun us s2 ⟨xs,H2,I2,r2,q2⟩ => ⟨x::xs,H2,I2,.cons r1 r2,q2⟩
noncomputable def tTup (t : TA) : TE := fun σ H Q => t σ H fun xs H1 => xs.length≤sizeLine∧∀ p,H1 p = none→Q (.ref p) (upd H1 p (.tup xs))
noncomputable def tLst (t : TA) : TE := fun σ H Q => t σ H fun xs H1 => xs.length≤sizeLine∧∀ p,H1 p = none→Q (.ref p) (upd H1 p (.lst xs))
theorem zgI {x1} (h : PA X es t) : PE X (.Tuple es x1 pos) (tTup t) := by
  intro pins s σ H Q I hq
  refine wpAny_Tuple_spliced (thn (h pos pins s σ H _ I hq) fun us s1 ⟨xs,H1,I1,r,z,q⟩ => ⟨by rw [← r.length]; exact z,?_⟩)
  have hf : H1 s1.heap.objs.size = none := I1.hok.fresh (Nat.le_refl _)
  refine ⟨.ref s1.heap.objs.size,upd H1 s1.heap.objs.size (.tup xs),I1.laid (t' := s1.toks) (fun b u e => Heap.get?_push_of_some _ e) (Nat.le_refl _) ?_,rfl,q _ hf⟩
  exact ⟨z,us,r,⟨_,Heap.get?_push_size _ rfl,rfl,_,rfl⟩,_,Heap.get?_push_size _ rfl,rfl⟩
theorem zgL (h : PA X es t) : PE X (.List es pos) (tLst t) := by
  intro pins s σ H Q I hq
  refine wpAny_List_spliced (thn (h pos pins s σ H _ I hq) fun us s1 ⟨xs,H1,I1,r,z,q⟩ => ⟨by rw [← r.length]; exact z,?_⟩)
  have hf : H1 s1.heap.objs.size = none := I1.hok.fresh (Nat.le_refl _)
  refine ⟨.ref s1.heap.objs.size,upd H1 s1.heap.objs.size (.lst xs),I1.laid (t' := s1.toks) (fun b u e => Heap.get?_push_of_some _ e) (Nat.le_refl _) ?_,rfl,q _ hf⟩
  exact ⟨z,us,0,r,Heap.get?_push_size _ rfl⟩
end
noncomputable abbrev Sp := List V→Hp→VK→XK→Prop
noncomputable abbrev CXT := List Env→Hp→Shared→XK→Value→Shared→Prop
structure Env0 (P : Program) (w : World) (K : PySem.W.Frag) (mg : Str→Option Value) (base : Heap) (A : Around) (outer : List Env) (s : Shared) (H : Hp) : Prop where
  frames : A.frames = some outer
  mod : Mod K mg base
  bs : ∀ b o,base.get? b = some o→s.heap.get? b = some o∧H b = none
  bsz : base.objs.size≤s.heap.objs.size
  funs : s.heap.FunFrames base outer
  frf : ∀ b∈frs outer,H b = none
  hok : HOk P w H s.heap
  bare : AllBare s.gens
noncomputable def CE (outer : List Env) (P : Program) (w : World) (H : Hp) (s : Shared) (Q : VK) (u : Value) (s' : Shared) : Prop :=
  ∃ v H',s'.os = s.os∧AllBare s'.gens∧Un (frs outer) [] H H' s.heap s'.heap∧HOk P w H' s'.heap∧RelV v u∧Q v H'
noncomputable def CR (CX : CXT) (outer : List Env) (P : Program) (w : World) (H : Hp) (s : Shared) (Q : VK) (E : XK) (r : Result) (s' : Shared) : Prop :=
  match r with
  | .ok (.ret u) => CE outer P w H s Q u s'
  | .ok _ => False
  | .error e => CX outer H s E e s'
structure FnOk (P : Program) (w : World) (K : PySem.W.Frag) (mg : Str→Option Value) (base : Heap) (CX : CXT) (k : Nat) (f : Addr) (fd : FuncData) (ps : List Str) (sp : Sp) : Prop where
  len : ∀ vs H Q E,sp vs H Q E→vs.length = ps.length
  run : ∀ (A : Around) (outer : List Env) (s : Shared) (H : Hp) (args : Args) (us : List Value) (vs : List V) (Q : VK) (E : XK),Room k A→Env0 P w K mg base A outer s H→BindsTo s fd args (ps.zip us)→Vals vs us→sp vs H Q E →
    codeAny (model P w) A (.call (.ref f) args) (CR CX outer P w H s Q E) s
theorem FnOk.mono {P : Program} {w : World} {K : PySem.W.Frag} {mg : Str→Option Value} {base : Heap} {CX : CXT} {j k : Nat} {f : Addr} {fd : FuncData} {ps : List Str} {sp : Sp} (F : FnOk P w K mg base CX j f fd ps sp) (h : j≤k) :
    FnOk P w K mg base CX k f fd ps sp := ⟨F.len,fun A outer s H args us vs Q E hr => F.run A outer s H args us vs Q E (hr.mono h)⟩
theorem FnOk.imp {P : Program} {w : World} {K : PySem.W.Frag} {mg : Str→Option Value} {base : Heap} {CX : CXT} {k : Nat} {f : Addr} {fd : FuncData} {ps : List Str} {sp sp' : Sp} (F : FnOk P w K mg base CX k f fd ps sp)
    (h : ∀ vs H Q E,sp' vs H Q E→sp vs H Q E) : FnOk P w K mg base CX k f fd ps sp' :=
  ⟨fun vs H Q E q => F.len vs H Q E (h _ _ _ _ q),fun A outer s H args us vs Q E hr he hb hv hs => F.run A outer s H args us vs Q E hr he hb hv (h _ _ _ _ hs)⟩
theorem Env0.make {P : Program} {w : World} {K : PySem.W.Frag} {mg : Str→Option Value} {base : Heap} {A : Around} {outer : List Env} {s : Shared} {H : Hp} (e : Env0 P w K mg base A outer s H) (C : Addr) (us : List Value) (kw : List (Str × Value)) :
    Env0 P w K mg base (A.under (.builtin "type.__call__" ⟨.ref C::us,kw⟩)) outer s H := ⟨by first | exact e.frames | (simpa [Around.under,Code.envs,Code.isFrame,pushEnvs] using e.frames),e.mod,e.bs,e.bsz,e.funs,e.frf,e.hok,e.bare⟩
theorem Env0.in1 {P : Program} {w : World} {K : PySem.W.Frag} {mg : Str→Option Value} {base : Heap} {A : Around} {outer : List Env} {s : Shared} {H : Hp} (e : Env0 P w K mg base A outer s H) :
    Env0 P w K mg base A.in1 outer s H := ⟨e.frames,e.mod,e.bs,e.bsz,e.funs,e.frf,e.hok,e.bare⟩
section
variable {X : Cx} {pins : List (Addr × Obj)} {σ : St} {H : Hp} {s s' : Shared}
theorem Inv.env0 (I : Inv X pins σ H s) : Env0 X.prog X.w X.K X.mg X.base X.A X.stack s H :=
  ⟨I.ok.frames,I.ok.mod,I.bs,Nat.le_trans I.ok.bsz I.sz,I.stack,I.stkFree,I.hok,I.bare⟩
theorem Inv.after {Q : VK} {u : Value} (I : Inv X pins σ H s) (h : CE X.stack X.prog X.w H s Q u s') : EP X pins σ Q u s' := by
  obtain ⟨v,H',os,bare,un,hok,r,q⟩ := h
  obtain ⟨hh,g,d,t,os'⟩ := s'
  obtain rfl : os' = s.os := os
  exact ⟨v,H',I.call (h' := hh) (g' := g) (d' := d) (t' := t) (ch := []) un hok bare (fun b z => absurd z (by simp)),r,q⟩
end
noncomputable def zhI (sp : Sp) (dvs : List V) (E : XK) (t : TA) : TE := fun σ H Q => t σ H fun vs H1 => sp (vs++dvs) H1 Q E
noncomputable def zbw (K : PySem.W.Frag) (fd : FuncData) (ps : List Str) (ds : List Value) : Prop :=
  ∀ (s : Shared) (us : List Value),K.In s.heap→(us++ds).length = ps.length→BindsTo s fd ⟨us,[]⟩ (ps.zip (us++ds))
theorem zbw.all {K : PySem.W.Frag} {fd : FuncData} {ps : List Str} (h : ∀ us : List Value,us.length = ps.length→bindArgs fd ⟨us,[]⟩ = pure (ps.zip us)) : zbw K fd ps [] := fun s us _ hl => by
  rw [List.append_nil] at hl ⊢
  exact .of_eq (h us hl)
noncomputable def zec (CX : CXT) (X : Cx) (E : XK) : Prop := ∀ (pins : List (Addr × Obj)) (σ : St) (H : Hp) (s : Shared) (e : Value) (s' : Shared),Inv X pins σ H s→CX X.stack H s E e s'→X.xe e s'
section
variable {X : Cx} {CX : CXT} {k : Nat} {f C : Addr} {fd : FuncData} {ps : List Str} {sp : Sp} {dvs : List V} {ds : List Value} {E : XK} {x m : Str} {p pos apos : Pos} {e o : Expr} {es : List Expr} {ta : TE} {t : TA}
theorem zgs {pins : List (Addr × Obj)} {σ : St} {H : Hp} {s : Shared} {Q : VK} {us : List Value} {vs : List V} (F : FnOk X.prog X.w X.K X.mg X.base CX k f fd ps sp) (hr : Room k X.A) (hb : zbw X.K fd ps ds) (hd : Vals dvs ds) (hx : zec CX X E)
    (I : Inv X pins σ H s) (r : Vals vs us) (h : sp (vs++dvs) H Q E) : wpAny (model X.prog X.w) X.A (call (.ref f) us) (EP X pins σ Q) X.xe s := by
  have r2 : Vals (vs++dvs) (us++ds) := r.append hd
  have hl : (us++ds).length = ps.length := by rw [← r2.length]; exact F.len _ _ _ _ h
  refine wpAny_call (codeAny_mono (F.run X.A X.stack s H ⟨us,[]⟩ (us++ds) (vs++dvs) Q E hr I.env0 (hb s us I.kIn hl) r2 h) fun r s' hq => ?_)
  cases r with
  | error e => exact hx pins σ H s e s' I hq
  | ok fl =>
    cases fl with
    | ret u => exact I.after hq
    | next => exact False.elim hq
    | brk => exact False.elim hq
    | cont => exact False.elim hq
theorem zft (F : FnOk X.prog X.w X.K X.mg X.base CX k f fd ps sp) (hr : Room k X.A) (hg : Gl X x) (hm : X.mg x = some (.ref f)) (hk : PySem.W.keepIn X.K (.ref f) = true) (hb : zbw X.K fd ps ds) (hd : Vals dvs ds) (hx : zec CX X E)
    (ha : PA X (e::es) t) (hdb : (x == ("__debug__" : Str)) = false := by decide) (he : starEach (e::es) X.env = (false,eval e X.env)::starEach es X.env := by rfl) (hpl : (backTo pos (starEach es X.env)).any (·.1) = false := by rfl) :
    PE X (.Call (.Name x p) (e::es) [] pos) (zhI sp dvs E t) := by
  intro pins s σ H Q I h
  refine wpAny_Call_Name_kw (zbF I hg hm ?_ hdb)
  refine PySem.W.callWith_K (h₀ := X.base) I.ok.mod.kin hk (thn (ha pos pins s σ H _ I h) fun us s1 ⟨vs,H1,I1,r,q⟩ => ⟨I1.kIn,?_⟩) he hpl
  exact zgs F hr hb hd hx I1 r q
structure Mk (K : PySem.W.Frag) (C f : Addr) : Prop where
  makes : PySem.W.makesIn K C = true
  init : PySem.W.findIn K (.ref C) "__init__" = some (some (.ref f))
  fn : PySem.W.isFn K (.ref f) = true
  kp : PySem.W.keepIn K (.ref C) = true
end
section
variable {X : Cx} {CX : CXT} {k : Nat} {f C : Addr} {fd : FuncData} {ps ks : List Str} {sp : Sp} {E : XK} {x m : Str} {p pos apos kpos : Pos} {e o : Expr} {es : List Expr} {kws : List Keyword} {te ta : TE} {t tk : TA} {nm : Option Str}
structure KBinds (K : PySem.W.Frag) (fd : FuncData) (ps ks : List Str) (g : List Value→List Value→List Value) (gV : List V→List V→List V) : Prop where
  to : ∀ (s : Shared) (us ws : List Value),K.In s.heap→(g us ws).length = ps.length→BindsTo s fd ⟨us,ks.zip ws⟩ (ps.zip (g us ws))
  rel : ∀ {vs : List V} {us : List Value} {zs : List V} {ws : List Value},Vals vs us→Vals zs ws→Vals (gV vs zs) (g us ws)
variable {g : List Value → List Value → List Value} {gV : List V → List V → List V}
end
structure FnScope (N P : List Str) (sc : Scope) : Prop where
  kind : sc.kind = .function
  co : sc.isCoroutine = false
  gen : sc.isGenerator = false
  nd : N.Nodup
  pre : N.take P.length = P
  par : ∀ x∈P,sc.names.lookup x = some .local∨sc.names.lookup x = some .cell
  nofree : ∀ y∈sc.names,y.2≠.free
theorem zch {kindOf : Str→Option NameKind} {x : Str} : ∀ {binds : List (Str × Value)} {m : Str→Option Value},(∀ v,(x,v)∉binds)→bindL kindOf binds m x = m x
  | [],_,_ => rfl
  | (n,v)::r,m,h => by
    unfold bindL
    rw [zch fun w hw => h w (List.mem_cons_of_mem _ hw)]
    split
    · have : x≠n := by rintro rfl; exact h v List.mem_cons_self
      simp [this]
    · rfl
theorem zcj {kindOf : Str→Option NameKind} {x : Str} : ∀ {binds : List (Str × Value)} {m : Str→Option Value},(∀ v,(x,v)∉binds)→bindC kindOf binds m x = m x
  | [],_,_ => rfl
  | (n,v)::r,m,h => by
    unfold bindC
    rw [zcj fun w hw => h w (List.mem_cons_of_mem _ hw)]
    split
    · rfl
    · have : x≠n := by rintro rfl; exact h v List.mem_cons_self
      simp [this]
theorem zci {kindOf : Str→Option NameKind} {x : Str} {v : Value} : ∀ {P : List Str} {vs : List Value} {i : Nat} {m : Str→Option Value},P.Nodup→P[i]? = some x→vs[i]? = some v→kindOf x = some .local →
    bindL kindOf (P.zip vs) m x = some v
  | [],_,_,_,_,h,_,_ => by simp at h
  | _::_,[],_,_,_,_,h,_ => by simp at h
  | p::P,w::vs,0,m,nd,h1,h2,hk => by
    simp at h1 h2; subst h1; subst h2
    show bindL kindOf ((p,w)::P.zip vs) m p = _
    unfold bindL
    rw [zch fun v hv => (List.nodup_cons.mp nd).1 (List.of_mem_zip hv).1,if_pos hk]
    simp
  | p::P,w::vs,i + 1,m,nd,h1,h2,hk => by
    show bindL kindOf ((p,w)::P.zip vs) m x = _
    unfold bindL
    exact zci (i := i) (List.nodup_cons.mp nd).2 (by simpa using h1) (by simpa using h2) hk
theorem zck {kindOf : Str→Option NameKind} {x : Str} {v : Value} : ∀ {P : List Str} {vs : List Value} {i : Nat} {m : Str→Option Value},P.Nodup→P[i]? = some x→vs[i]? = some v→kindOf x≠some .local →
    bindC kindOf (P.zip vs) m x = some v
  | [],_,_,_,_,h,_,_ => by simp at h
  | _::_,[],_,_,_,_,h,_ => by simp at h
  | p::P,w::vs,0,m,nd,h1,h2,hk => by
    simp at h1 h2; subst h1; subst h2
    show bindC kindOf ((p,w)::P.zip vs) m p = _
    unfold bindC
    rw [zcj fun v hv => (List.nodup_cons.mp nd).1 (List.of_mem_zip hv).1,if_neg hk]
    simp
  | p::P,w::vs,i + 1,m,nd,h1,h2,hk => by
    show bindC kindOf ((p,w)::P.zip vs) m x = _
    unfold bindC
    exact zck (i := i) (List.nodup_cons.mp nd).2 (by simpa using h1) (by simpa using h2) hk
noncomputable def start (N : List Str) (vs : List V) : St := vs.map some++List.replicate (N.length - vs.length) none
noncomputable def cxOf (CX : CXT) (P : Program) (w : World) (K : PySem.W.Frag) (mg : Str→Option Value) (base : Heap) (N : List Str) (qual : Str) (scope : Scope) (f : Addr) (cd : Value) (A : Around) (outer : List Env) (s : Shared) (H : Hp) (E : XK) : Cx where
  prog := P
  w := w
  K := K
  mg := mg
  base := base
  A := A.deeper (envOfC qual scope s.heap.objs.size f cd)
  N := N
  s₀ := s
  H₀ := H
  env := envOfC qual scope s.heap.objs.size f cd
  outer := outer
  stack := envOfC qual scope s.heap.objs.size f cd::outer
  ex := []
  calm := true
  fn := fun _ => true
  pn := []
  xe := fun e s' => wpAny (model P w) (A.deeper (envOfC qual scope s.heap.objs.size f cd)) (leaving (envOfC qual scope s.heap.objs.size f cd) e) (fun _ s'' => CX outer H s E e s'') (fun e' s'' => CX outer H s E e' s'') s'
theorem zc1 {sc : Scope} {n : Nat} {x : Str} (h : sc.names.lookup x = some .cell) : ∃ c,(cellsFrom n sc.names []).lookup x = some c := by
  have q := PySem.W.cellsFrom_some sc.names n [] (.inl h)
  exact Option.isSome_iff_exists.mp q
theorem zdO {CX : CXT} {P : Program} {w : World} {K : PySem.W.Frag} {mg : Str→Option Value} {base : Heap} {N ps : List Str} {qual : Str} {scope : Scope} {f : Addr} {cd : Value} {A : Around} {outer : List Env} {s s1 : Shared} {H : Hp} {E : XK} {us : List Value} {vs : List V}
    (S : FnScope N ps scope) (hd : A.handled = none) (e0 : Env0 P w K mg base A outer s H) (hl : vs.length = ps.length) (r : Vals vs us)
    (x : InCallC s s.heap.objs.size (bindL (envOfC qual scope s.heap.objs.size f cd).kindOf (ps.zip us) fun _ => none) (cellsFrom (s.heap.objs.size + 1) scope.names []) (bindC (envOfC qual scope s.heap.objs.size f cd).kindOf (ps.zip us) fun _ => none) s1) :
    Inv (cxOf CX P w K mg base N qual scope f cd A outer s H E) [] (start N vs) H s1 := by
  have hpl : ps.length≤N.length := by have := congrArg List.length S.pre; rw [List.length_take] at this; omega
  obtain ⟨h1,tk,rfl,hk⟩ := x.done
  have noA : ∀ b : Addr,b∉(cxOf CX P w K mg base N qual scope f cd A outer s H E).ex := fun b z => absurd (show b∈([] : List Addr) from z) (by simp)
  refine ⟨⟨e0.mod,S.kind,rfl,rfl,Nat.le_refl _,fun y z c h1 h2 => ?_,fun y hy => ?_,fun y c _ h => ?_,fun _ => hd,Around.frames_deeper e0.frames,.inr ⟨rfl,rfl⟩,fun b z => absurd z (noA b),e0.bs,e0.bsz,fun b _ _ => noA b,fun b z => absurd z (noA b),e0.funs,e0.frf⟩,
    rfl,e0.bare,Un.kept hk,⟨_,x.toInCall.ns,fun i y v h1 h2 h3 => ?_⟩,fun y c h => ⟨_,x.cell y c h⟩,e0.hok.fresh (Nat.le_refl _),fun y c h => ?_,fun p hp => absurd (show p∈([] : List (Addr × Obj)) from hp) (by simp),e0.hok.kept hk,?_⟩
  · exact name_of_addr x.apart (PySem.mem_of_lookup h1) (PySem.mem_of_lookup h2)
  · have hy : scope.names.lookup y = some .cell∨scope.names.lookup y = some .free := hy
    rcases hy with hy | hy
    · exact zc1 hy
    · exact absurd rfl (S.nofree _ (PySem.mem_of_lookup hy))
  · exact Nat.le_of_lt (x.above y c (PySem.mem_of_lookup h))
  · have hi : i < vs.length := by
      unfold start at h2
      by_cases hi : i < vs.length
      · exact hi
      · rw [List.getElem?_append_right (by simpa using hi)] at h2
        rw [List.getElem?_replicate] at h2
        split at h2 <;> cases h2
    have ha : vs[i]? = some v := by
      unfold start at h2
      rw [List.getElem?_append_left (by simpa using hi),List.getElem?_map] at h2
      cases e : vs[i]? with
      | none => rw [e] at h2; cases h2
      | some a => rw [e] at h2; cases h2; rfl
    obtain ⟨u,hu,rv⟩ := r.get ha
    have hp : ps[i]? = some y := by
      rw [← S.pre,List.getElem?_take_of_lt (by omega)]; exact h1
    have ndP : ps.Nodup := by rw [← S.pre]; exact S.nd.sublist (List.take_sublist _ _)
    refine ⟨u,rv,?_⟩
    rcases S.par y (List.mem_of_getElem? hp) with k | k
    · exact .inl ⟨k,zci ndP hp hu k⟩
    · obtain ⟨c,e⟩ := zc1 (n := s.heap.objs.size + 1) k
      refine .inr ⟨.inl k,c,e,?_⟩
      have q := x.cell y c e
      rw [zck ndP hp hu (by show scope.names.lookup y≠_; rw [k]; decide)] at q
      exact q
  · exact e0.hok.fresh (Nat.le_of_lt (x.above y c (PySem.mem_of_lookup h)))
  · unfold start
    show _ = N.length
    rw [List.length_append,List.length_map,List.length_replicate]
    omega
theorem zii {CX : CXT} {P : Program} {w : World} {K : PySem.W.Frag} {mg : Str→Option Value} {base : Heap} {k : Nat} {f : Addr} {name qual : Str} {params : Arguments} {body : List Stmt} {scope : Scope} {dV kV doc pm cdv ct oc : Value} {an od : Option Addr}
    {osl : Array (Option Value)} {N ps : List Str} {sp : Sp} (lk : K.lookup f = some ⟨oc,od,.func (PySem.W.fnOf name qual params body scope dV kV doc pm an cdv ct),osl⟩) (hcd : PySem.W.codeIn K cdv qual = true) (S : FnScope N ps scope)
    (len : ∀ vs H Q E,sp vs H Q E→vs.length = ps.length)
    (hbody : ∀ (A : Around) (outer : List Env) (s : Shared) (H : Hp) (vs : List V) (Q : VK) (E : XK),Room k (A.deeper (envOfC qual scope s.heap.objs.size f cdv))→sp vs H Q E →
      ∃ t,PSs (cxOf CX P w K mg base N qual scope f cdv A outer s H E) body t∧t { nx := fun _ H' => Q .non H',rt := Q } (start N vs) H) :
    FnOk P w K mg base CX (k + 1) f (PySem.W.fnOf name qual params body scope dV kV doc pm an cdv ct) ps sp := by
  refine ⟨len,fun A outer s H args us vs Q E hr e0 hb r hsp => ?_⟩
  have hl := len _ _ _ _ hsp
  have KX : K.In s.heap := e0.mod.kin.keeps fun b o e => (e0.bs b o e).1
  have lim : s.heap.NoLimit := e0.mod.nolimit.keeps fun b o e => (e0.bs b o e).1
  have hkind : ∀ y∈ps.zip us,scope.names.lookup y.1 = some .local∨(scope.names.lookup y.1 = some .cell∧((cellsFrom (s.heap.objs.size + 1) scope.names []).lookup y.1).isSome = true) := fun ⟨n,v⟩ hy => by
    rcases S.par n (List.of_mem_zip hy).1 with q | q
    · exact .inl q
    · exact .inr ⟨q,PySem.W.cellsFrom_some _ _ _ (.inl q)⟩
  refine codeAny_call_function hr.depth (KX _ _ lk) rfl S.co S.gen rfl (PySem.W.codeRec_of KX hcd) (hb _ _ _ _ ?_)
  refine wpAny_newFunctionEnv_cells S.kind hkind fun env he s1 x => ?_
  subst he
  refine ⟨lim.keeps x.toInCall.keep,codeAny_func ?_⟩
  obtain ⟨t,ht,hq⟩ := hbody A outer s H vs Q E (hr.deeper _) hsp
  have I : Inv (cxOf CX P w K mg base N qual scope f cdv A outer s H E) [] (start N vs) H s1 := zdO S hr.hd e0 hl r x
  refine wpAny_mono (ht [] s1 (start N vs) H _ I hq) (fun fl s' hs => ?_) fun e s' hs => hs
  have fin : ∀ {σ' : St} {H' : Hp} {v : V} {u : Value},Inv (cxOf CX P w K mg base N qual scope f cdv A outer s H E) [] σ' H' s'→RelV v u→Q v H'→CE outer P w H s Q u s' :=
    fun {σ' H' v u} J rv q => ⟨v,H',J.os,J.bare,J.base,J.hok,rv,q⟩
  cases fl with
  | ret u =>
    obtain ⟨v,σ',H',J,rv,q⟩ := hs
    exact fin J rv q
  | next =>
    obtain ⟨σ',H',J,q⟩ := hs
    exact fin (v := V.non) (u := Value.none) J rfl q
  | brk =>
    obtain ⟨_,_,_,q⟩ := hs
    exact False.elim q
  | cont =>
    obtain ⟨_,_,_,q⟩ := hs
    exact False.elim q
end L2
namespace L2
open PySem PySem.Spec PyProof.Rows
section
variable {X : Cx} {x : Str} {p pos : Pos} {e : Expr} {es : List Expr} {t : TA} {id T : String} {r : List V → Hp → VK → Prop}
noncomputable def tCB (r : List V→Hp→VK→Prop) (t : TA) : TE := fun σ H Q => t σ H fun vs H1 => r vs H1 Q
theorem zcM (hc : zb1 X (.builtin id) r) (hg : Gl X x) (hm : X.mg x = none) (hv : bootBuiltins x = some (.builtin id)) (ha : PA X (e::es) t) (hn : x≠"__name__" := by decide) (hdb : (x == ("__debug__" : Str)) = false := by decide)
    (he : starEach (e::es) X.env = (false,eval e X.env)::starEach es X.env := by rfl) (hpl : (backTo pos (starEach es X.env)).any (·.1) = false := by rfl) : PE X (.Call (.Name x p) (e::es) [] pos) (tCB r t) := by
  intro pins s σ H Q I h
  refine wpAny_Call_Name_kw (zcT I hg hm hv ?_ hn hdb)
  exact PyProof.Rows.callWith_builtin1 (thn (ha pos pins s σ H _ I h) fun us s1 ⟨vs,H1,I1,r1,q1⟩ => hc pins s1 σ H1 vs us Q I1 r1 q1) he hpl
end
end L2
namespace HT
open PySem PyProof.Rows
section
open PySem.SeqAt
open PySem.AutoSeq1 (wpAny_loadPart')
open PySem.MeetsSeq PySem.MeetsSeq2 PySem.MeetsSeq3
end
section
variable {prog : Program} {w : World} {A : Around} {E : Value → Shared → Prop} {s : Shared}
theorem cat_tup {t b : Addr} {vs ws : List Value} {Q : Value→Shared→Prop} (ht : IsTup s.heap t vs.toArray) (hb : IsTup s.heap b ws.toArray) (hv : vs≠[])
    (h1 : ws = []→Q (.ref t) s) (h2 : ws≠[]→Q (.ref s.heap.objs.size) { s with heap := s.heap.push { cls := .type "tuple",data := .seq (vs++ws).toArray } })
    (hsz : vs.length + ws.length≤sizeLine) : wpAny (model prog w) A (binaryOp .Add (.ref t) (.ref b)) Q E s := by
  obtain ⟨⟨cls,dd,data,sl⟩,ho,hc,n,hd⟩ := id ht
  obtain ⟨⟨cls2,dd2,data2,sl2⟩,ho2,hc2,n2,hd2⟩ := id hb
  simp only at hc hd hc2 hd2
  subst hc hd hc2 hd2
  have e : vs.toArray++ws.toArray = (vs++ws).toArray := by simp
  by_cases hw : ws = []
  · exact concat_meets ⟨_,ho,rfl⟩ ⟨_,ho2,rfl⟩ noFill_tuple_add seq_tuple_add PySem.F.slot_tuple_add PySem.F.entry_tuple_add (PySem.F.args_tuple_add_2 _ _)
      (tuple_addW1 t b vs.toArray ws.toArray n n2 dd dd2 sl sl2 (by simpa using hv) (by simp [hw])) ⟨ho,ho2,h1 hw⟩
  · refine concat_meets ⟨_,ho,rfl⟩ ⟨_,ho2,rfl⟩ noFill_tuple_add seq_tuple_add PySem.F.slot_tuple_add PySem.F.entry_tuple_add (PySem.F.args_tuple_add_2 _ _)
      (tuple_addW2 t b vs.toArray ws.toArray n n2 dd dd2 sl sl2 (by simpa using hv) (by simpa using hw) (by rw [List.size_toArray,List.size_toArray]; exact hsz)) ⟨ho,ho2,?_⟩
    rw [e]
    exact h2 hw
noncomputable def sIx (n d : Nat) : Option Int→Nat
  | none => d
  | some v => if v < 0 then (v + (n : Int)).toNat else min v.toNat n
end
end HT
namespace L2
open PySem PySem.Spec PyProof.Rows
noncomputable abbrev TO := St→Hp→(Option Int→Hp→Prop)→Prop
noncomputable def PO (X : Cx) (e : Option Expr) (t : TO) : Prop :=
  ∀ (pins : List (Addr × Obj)) (s : Shared) (σ : St) (H : Hp) (Q : Option Int→Hp→Prop),Inv X pins σ H s→t σ H Q →
    wpAny (model X.prog X.w) X.A (evalPart e X.env) (fun u s' => ∃ o H',Inv X pins σ H' s'∧IsPart u o∧Q o H') X.xe s
section
variable {X : Cx} {e : Expr} {te : TE} {lo hi : Option Expr} {tl th : TO} {pos p2 : Pos}
noncomputable def SlR (X : Cx) (r : V→Option Int→Option Int→Hp→VK→Prop) : Prop :=
  ∀ (pins : List (Addr × Obj)) (s : Shared) (σ : St) (H : Hp) (x : V) (v vl vu : Value) (lo hi : Option Int) (sl : Addr) (Q : VK),Inv X pins σ H s→RelV x v→s.heap.IsSliceOf sl vl vu .none→IsPart vl lo→IsPart vu hi→r x lo hi H Q →
    ∃ T id,typeLookup (.type T) "__getitem__" = pure (some (.builtin id))∧s.TypeIs v T∧wpAny (model X.prog X.w) X.A (getItem v (.ref sl)) (EP X pins σ Q) X.xe s
theorem SlR.or {r r' : V→Option Int→Option Int→Hp→VK→Prop} (h : SlR X r) (h' : SlR X r') : SlR X (fun x lo hi H Q => r x lo hi H Q∨r' x lo hi H Q) := by
  intro pins s σ H x v vl vu lo hi sl Q I rx hs pl pu q
  rcases q with q | q
  · exact h pins s σ H x v vl vu lo hi sl Q I rx hs pl pu q
  · exact h' pins s σ H x v vl vu lo hi sl Q I rx hs pl pu q
noncomputable def zgw (K : PySem.W.Frag) : R2 := fun x y H Q => ∃ a b xs ys,x = .ref a∧y = .ref b∧SqT K H a xs∧SqT K H b ys∧xs≠[]∧xs.length + ys.length≤sizeLine ∧
  (ys = []→Q (.ref a) H)∧(ys≠[]→∀ p,H p = none→Q (.ref p) (upd H p (.tup (xs++ys))))
theorem Vals.nil_iff {xs : List V} {us : List Value} (r : Vals xs us) : us = []↔xs = [] := by
  cases r with
  | nil => simp
  | cons _ _ => simp
theorem zfx : OpR X (binaryOp .Add) (zgw X.K) := by
  intro pins s σ H x y v u Q I rx ry h
  obtain ⟨a,b,xs,ys,rfl,rfl,ha,hb,hx,hz,q1,q2⟩ := h
  cases rx
  cases ry
  obtain ⟨its,r1,p1,_⟩ := I.tuple ha
  obtain ⟨its2,r2,p2,_⟩ := I.tuple hb
  refine HT.cat_tup p1 p2 (fun z => hx (r1.nil_iff.mp z)) (fun z => ⟨.ref a,H,I,rfl,q1 (r2.nil_iff.mp z)⟩) (fun z => ?_) (by rw [← r1.length,← r2.length]; exact hz)
  refine ⟨.ref s.heap.objs.size,_,I.laid (t' := s.toks) (o := .tup (xs++ys)) (fun b ob q => Heap.get?_push_of_some _ q) (Nat.le_refl _) ?_,rfl,q2 (fun w => z (r2.nil_iff.mpr w)) _ (I.hok.fresh (Nat.le_refl _))⟩
  exact ⟨by rw [List.length_append]; exact hz,_,r1.append r2,IsTup.new _ _,_,Heap.get?_push_size _ rfl,rfl⟩
end
end L2
namespace L2
open PySem PySem.Spec PyProof.Rows
noncomputable def ixN (n : Nat) (i : Int) : Option Nat := if 0≤i then (if i < n then some i.toNat else none) else if -(n : Int)≤i then some (i + n).toNat else none
noncomputable def atI {α : Type} (xs : List α) (i : Int) : Option α := (ixN xs.length i).bind fun j => xs[j]?
theorem zfJ {n : Nat} {i : Int} {j : Nat} (h : ixN n i = some j) : seqIndex? i n = some j∧j < n∧-(n : Int)≤i∧i < n := by
  unfold ixN at h
  by_cases h0 : 0≤i
  · rw [if_pos h0] at h
    by_cases h1 : i < n
    · rw [if_pos h1] at h
      have e : i.toNat = j := Option.some.inj h
      exact ⟨by rw [seqIndex_of h0 h1,e],by omega,by omega,h1⟩
    · rw [if_neg h1] at h; cases h
  · rw [if_neg h0] at h
    by_cases h1 : -(n : Int)≤i
    · rw [if_pos h1] at h
      have e : (i + n).toNat = j := Option.some.inj h
      exact ⟨by rw [seqIndex_neg (by omega) h1,e],by omega,h1,by omega⟩
    · rw [if_neg h1] at h; cases h
theorem zcE {α : Type} {xs : List α} {i : Int} {v : α} (h : atI xs i = some v) : ∃ j,seqIndex? i xs.length = some j∧xs[j]? = some v∧j < xs.length∧-(xs.length : Int)≤i∧i < xs.length := by
  unfold atI at h
  cases e : ixN xs.length i with
  | none => rw [e] at h; cases h
  | some j =>
    rw [e] at h
    obtain ⟨h1,h2,h3,h4⟩ := zfJ e
    exact ⟨j,h1,h,h2,h3,h4⟩
noncomputable def zeb (b : Expr) : Prop := ∀ o i,subscripted b false o i = operate [o,i] (getItem o i)
noncomputable def IxR (X : Cx) (r : R2) : Prop :=
  ∀ (value slice : Expr) (pins : List (Addr × Obj)) (s : Shared) (σ : St) (H : Hp) (x y : V) (v u : Value) (Q : VK),Inv X pins σ H s→RelV x v→RelV y u→r x y H Q →
    subscripted slice false v u = operate [v,u] (getItem v u)→wpAny (model X.prog X.w) X.A (subscriptTail value slice v u) (EP X pins σ Q) X.xe s
noncomputable def MtR (X : Cx) (id : String) (r : V→List V→Hp→VK→Prop) : Prop :=
  ∀ (pins : List (Addr × Obj)) (s : Shared) (σ : St) (H : Hp) (x : V) (xs : List V) (v : Value) (us : List Value) (Q : VK),Inv X pins σ H s→RelV x v→Vals xs us→r x xs H Q →
    wpAny (model X.prog X.w) X.A (call (.builtin id) (v::us)) (EP X pins σ Q) X.xe s
section
variable {X : Cx} {a b : Expr} {ta tb : TE} {pos : Pos}
theorem IxR.or {r r' : R2} (h : IxR X r) (h' : IxR X r') : IxR X (fun x y H Q => r x y H Q∨r' x y H Q) := by
  intro value slice pins s σ H x y v u Q I rx ry q hs
  rcases q with q | q
  · exact h value slice pins s σ H x y v u Q I rx ry q hs
  · exact h' value slice pins s σ H x y v u Q I rx ry q hs
theorem MtR.or {id : String} {r r' : V→List V→Hp→VK→Prop} (h : MtR X id r) (h' : MtR X id r') : MtR X id (fun x xs H Q => r x xs H Q∨r' x xs H Q) := by
  intro pins s σ H x xs v us Q I rx rs q
  rcases q with q | q
  · exact h pins s σ H x xs v us Q I rx rs q
  · exact h' pins s σ H x xs v us Q I rx rs q
theorem zhW {r : R2} (hr : IxR X r) (ha : PE X a ta) (hb : PE X b tb) (hs : zeb b) : PE X (.Subscript a b pos) (tOp r ta tb) := by
  intro pins s σ H Q I h
  exact Subscript_ (binT ha hb I h fun v u s2 x y H2 I2 rx ry q => hr a b pins s2 σ H2 x y v u Q I2 rx ry q (hs _ _))
noncomputable def rIxL (K : PySem.W.Frag) : R2 := fun x y H Q => ∃ p xs i v,x = .ref p∧y = .int i∧SqL K H p xs∧atI xs i = some v∧Q v H
noncomputable def rIxT (K : PySem.W.Frag) : R2 := fun x y H Q => ∃ p xs i v,x = .ref p∧y = .int i∧SqT K H p xs∧atI xs i = some v∧Q v H
noncomputable def rIxS : R2 := fun x y H Q => ∃ z i c,x = .str z∧y = .int i∧z.length≤sizeLine∧atI z.cps.toList i = some c∧Q (.str ⟨#[c]⟩) H
theorem zfI : IxR X (rIxL X.K) := by
  intro value slice pins s σ H x y v u Q I rx ry h hs
  obtain ⟨p,xs,i,z,rfl,rfl,hq,he,q⟩ := h
  cases rx
  obtain ⟨t,rfl⟩ := ry
  obtain ⟨its,r,pl,hz⟩ := I.list hq
  obtain ⟨j,h1,h2,h3,h4,h5⟩ := zcE he
  obtain ⟨w,ew,rw'⟩ := r.get h2
  have hl := r.length
  have hn := zcR
  have fin : EP X pins σ Q w s := ⟨z,H,I,rw',q⟩
  by_cases h0 : 0≤i
  · have hj : i.toNat = j := by
      rw [seqIndex_of h0 h5] at h1
      exact Option.some.inj h1
    exact item_listR pl.isList h0 (by omega) (by rw [hj]; simpa using ew) fin hs
  · have hj : (i + (its.toArray.size : Int)).toNat = j := by
      rw [seqIndex_neg (by omega) h4] at h1
      rw [List.size_toArray,← hl]
      exact Option.some.inj h1
    exact subscriptTail_builtinR (x := w) pl.isList.typeIs slot_list_getitem.lookup
      (wpAny_getItem_list_neg (Q := fun r s' => r = w∧EP X pins σ Q r s') pl.isList (by omega) (by rw [List.size_toArray] <;> omega) (by omega) (by rw [hj]; simpa using ew) ⟨rfl,fin⟩) hs
theorem zg9 : IxR X (rIxT X.K) := by
  intro value slice pins s σ H x y v u Q I rx ry h hs
  obtain ⟨p,xs,i,z,rfl,rfl,hq,he,q⟩ := h
  cases rx
  obtain ⟨t,rfl⟩ := ry
  obtain ⟨its,r,pl,hz⟩ := I.tuple hq
  obtain ⟨j,h1,h2,h3,h4,h5⟩ := zcE he
  obtain ⟨w,ew,rw'⟩ := r.get h2
  have hl := r.length
  have hn := zcR
  have fin : EP X pins σ Q w s := ⟨z,H,I,rw',q⟩
  exact subscriptTail_builtinR (x := w) pl.typeIs slot_tuple_getitem.lookup
    (getItem_tuple (j := j) (Q := fun r s' => r = w∧EP X pins σ Q r s') pl (by omega) (by omega) (by rw [List.size_toArray,← hl]; exact h1) (by simpa using ew) ⟨rfl,fin⟩) hs
theorem zha : IxR X rIxS := by
  intro value slice pins s σ H x y v u Q I rx ry h hs
  obtain ⟨z,i,c,rfl,rfl,hz,he,q⟩ := h
  obtain ⟨t,rfl⟩ := rx
  obtain ⟨t',rfl⟩ := ry
  obtain ⟨j,h1,h2,h3,h4,h5⟩ := zcE he
  have hl : z.cps.toList.length = z.length := by simp [Str.length]
  rw [hl] at h1 h4 h5
  have hn := zcR
  exact tail_any (typeIs_str s z t) slot_str_getitem.lookup (getItem_str (c := c) (by
    have e1 : decide (i < -(2 ^ 63 : Int)) = false := decide_eq_false (by omega)
    have e2 : decide (i ≥ 2 ^ 63) = false := decide_eq_false (by omega)
    rw [e1,e2,Bool.or_false]) (by rw [h1]; simpa using h2) ⟨.str ⟨#[c]⟩,H,I.tok _,⟨_,rfl⟩,q⟩) hs
noncomputable def rIx (K : PySem.W.Frag) : R2 := fun x y H Q => rIxL K x y H Q∨rIxT K x y H Q∨rIxS x y H Q
theorem zhb : IxR X (rIx X.K) := zfI.or (zg9.or zha)
theorem Inv.lst {pins : List (Addr × Obj)} {σ : St} {H : Hp} {s : Shared} {p : Addr} {xs : List V} (I : Inv X pins σ H s) (h : H p = some (.lst xs)) :
    ∃ (its : List Value) (n : Nat),Vals xs its∧s.heap.get? p = some { cls := .type "list",data := .seq its.toArray n }∧xs.length≤sizeLine := by
  obtain ⟨z,its,n,r,e⟩ := I.hok p _ h
  exact ⟨its,n,r,e,z⟩
noncomputable def zbN : V→Bool
  | .non => true
  | .bl _ => true
  | .int _ => true
  | .str _ => true
  | _ => false
noncomputable def eqV : V→V→Bool
  | .non,.non => true
  | .bl a,.bl b => a == b
  | .bl a,.int b => (if a then 1 else 0) == b
  | .int a,.bl b => a == (if b then 1 else 0)
  | .int a,.int b => a == b
  | .str a,.str b => a == b
  | _,_ => false
theorem zht {A : Around} {s : Shared} {y x : V} {u v : Value} (ry : RelV y u) (rx : RelV x v) (fy : zbN y = true) (fx : zbN x = true) : SeqAt.EqAt A s u v (eqV y x) := by
  cases y with
  | non =>
    cases ry
    cases x with
    | non => cases rx; exact SeqAt.EqAt.same _
    | bl b => cases rx; exact SeqAt.EqAt.none_bool b
    | int b => obtain ⟨t,rfl⟩ := rx; exact SeqAt.EqAt.none_int b t
    | str b => obtain ⟨t,rfl⟩ := rx; exact SeqAt.EqAt.none_str b t
    | _ => exact absurd (show false = true from fx) Bool.false_ne_true
  | bl a =>
    cases ry
    cases x with
    | non => cases rx; exact SeqAt.EqAt.bool_none a
    | bl b => cases rx; exact SeqAt.EqAt.bool_bool a b
    | int b => obtain ⟨t,rfl⟩ := rx; exact SeqAt.EqAt.bool_int a b t
    | str b => obtain ⟨t,rfl⟩ := rx; exact SeqAt.EqAt.bool_str a b t
    | _ => exact absurd (show false = true from fx) Bool.false_ne_true
  | int a =>
    obtain ⟨t',rfl⟩ := ry
    cases x with
    | non => cases rx; exact SeqAt.EqAt.int_none a t'
    | bl b => cases rx; exact SeqAt.EqAt.int_bool a t' b
    | int b => obtain ⟨t,rfl⟩ := rx; exact SeqAt.EqAt.int_int a t' b t
    | str b => obtain ⟨t,rfl⟩ := rx; exact SeqAt.EqAt.int_str a t' b t
    | _ => exact absurd (show false = true from fx) Bool.false_ne_true
  | str a =>
    obtain ⟨t',rfl⟩ := ry
    cases x with
    | non => cases rx; exact SeqAt.EqAt.str_none a t'
    | bl b => cases rx; exact SeqAt.EqAt.str_bool a t' b
    | int b => obtain ⟨t,rfl⟩ := rx; exact SeqAt.EqAt.str_int a t' b t
    | str b => obtain ⟨t,rfl⟩ := rx; exact SeqAt.EqAt.str_str a t' b t
    | _ => exact absurd (show false = true from fx) Bool.false_ne_true
  | _ => exact absurd (show false = true from fy) Bool.false_ne_true
noncomputable def eqU (x : V) (u : Value) : Bool := match u with
  | .none => eqV .non x
  | .bool b => eqV (.bl b) x
  | .int i _ => eqV (.int i) x
  | .str z _ => eqV (.str z) x
  | _ => false
theorem ze5 {x y : V} {u : Value} (r : RelV y u) (f : zbN y = true) : eqU x u = eqV y x := by
  cases y with
  | non => cases r; rfl
  | bl b => cases r; rfl
  | int i => obtain ⟨t,rfl⟩ := r; rfl
  | str z => obtain ⟨t,rfl⟩ := r; rfl
  | _ => exact absurd (show false = true from f) Bool.false_ne_true
theorem zcF {x : V} : ∀ {xs : List V} {us : List Value},Vals xs us→xs.all zbN = true→us.any (eqU x) = xs.any fun y => eqV y x
  | _,_,.nil,_ => rfl
  | y::xs,u::us,.cons r t,f => by
    rw [List.all_cons,Bool.and_eq_true] at f
    rw [List.any_cons,List.any_cons,ze5 r f.1,zcF t f.2]
theorem zbW {A : Around} {s : Shared} {x : V} {v : Value} (rx : RelV x v) (fx : zbN x = true) : ∀ {xs : List V} {us : List Value},Vals xs us→xs.all zbN = true→∀ u∈us,SeqAt.EqAt A s u v (eqU x u)
  | _,_,.nil,_ => fun u hu => by cases hu
  | y::xs,u::us,.cons r t,f => fun u' hu => by
    rw [List.all_cons,Bool.and_eq_true] at f
    rcases List.mem_cons.mp hu with rfl | hu
    · rw [ze5 r f.1]; exact zht r rx f.1 fx
    · exact zbW rx fx t f.2 u' hu
noncomputable def inV (x : V) (xs : List V) : Bool := xs.any fun y => eqV y x
noncomputable def rIn (K : PySem.W.Frag) (neg : Bool) : R2 := fun x y H Q => ∃ p xs,y = .ref p∧(SqL K H p xs∨SqT K H p xs)∧zbN x = true∧xs.all zbN = true∧Q (.bl (if neg then ! inV x xs else inV x xs)) H
theorem zdE : OpR X (compareOp .In) (rIn X.K false) := by
  intro pins s σ H x y v u Q I rx ry h
  obtain ⟨p,xs,rfl,hq,fx,fs,q⟩ := h
  cases ry
  rcases hq with hq | hq
  · obtain ⟨its,r,pl,hz⟩ := I.list hq
    refine SeqAt.in_listAt (eqU x) pl.isList (fun w hw => zbW rx fx r fs w (by simpa using hw)) ⟨.bl _,H,I,rfl,?_⟩
    rw [show its.toArray.any (eqU x) = its.any (eqU x) by simp,zcF r fs]
    exact q
  · obtain ⟨its,r,pl,hz⟩ := I.tuple hq
    refine SeqAt.in_tupleAt (eqU x) pl (fun w hw => zbW rx fx r fs w (by simpa using hw)) ⟨.bl _,H,I,rfl,?_⟩
    rw [show its.toArray.any (eqU x) = its.any (eqU x) by simp,zcF r fs]
    exact q
theorem zb1.or {f : Value} {r r' : List V→Hp→VK→Prop} (h : zb1 X f r) (h' : zb1 X f r') : zb1 X f (fun xs H Q => r xs H Q∨r' xs H Q) := by
  intro pins s σ H xs us Q I rs q
  rcases q with q | q
  · exact h pins s σ H xs us Q I rs q
  · exact h' pins s σ H xs us Q I rs q
variable {o e : Expr} {es : List Expr} {to : TE} {t : TA} {name : Str} {apos cpos : Pos} {T id : String} {r : V → List V → Hp → VK → Prop}
end
end L2
namespace L2
open PySem PySem.Spec PyProof.Rows
noncomputable def MtM (X : Cx) (id : String) (r : V→List V→Hp→VK→Prop) : Prop :=
  ∀ (pins : List (Addr × Obj)) (s : Shared) (σ : St) (H : Hp) (x : V) (xs : List V) (v : Value) (us : List Value) (Q : VK),Inv X pins σ H s→RelV x v→Vals xs us→r x xs H Q →
    wpAny (model X.prog X.w) X.A (call (.builtin id) (v::us)) (EP X pins σ Q) X.xe s
theorem Vals.one {x : V} {us : List Value} (h : Vals [x] us) : ∃ u,us = [u]∧RelV x u := by
  cases h with
  | cons r t => cases t; exact ⟨_,rfl,r⟩
theorem Vals.zero : ∀ {us : List Value},Vals [] us→us = []
  | _,.nil => rfl
theorem Vals.eraseIdx : ∀ {xs : List V} {us : List Value} (i : Nat),Vals xs us→Vals (xs.eraseIdx i) (us.eraseIdx i)
  | _,_,_,.nil => .nil
  | _,_,0,.cons _ t => t
  | _,_,i + 1,.cons r t => .cons r (Vals.eraseIdx i t)
theorem Vals.reverse {xs : List V} {us : List Value} (h : Vals xs us) : Vals xs.reverse us.reverse := by
  induction h with
  | nil => exact .nil
  | cons r t ih => rw [List.reverse_cons,List.reverse_cons]; exact Vals.append ih (.cons r .nil)
section
variable {X : Cx} {pins : List (Addr × Obj)} {σ : St} {H : Hp} {s : Shared} {l b : Addr} {xs ys zs : List V}
theorem Inv.lset {its its' : List Value} {n : Nat} {f : Array Value→Array Value} {t' : Nat} (I : Inv X pins σ H s) (hH : H l = some (.lst xs))
    (e : s.heap.get? l = some { cls := .type "list",data := .seq its.toArray n }) (hf : f its.toArray = its'.toArray) (hv : Vals ys its') (hz : ys.length≤sizeLine) :
    Inv X pins σ (upd H l (.lst ys)) { s with heap := s.heap.update l (Obj.mapSeq f),toks := t' } := by
  have q := PySem.IsL.update e f
  rw [hf] at q
  refine I.write (x := l) (e := l) (by rw [hH]; exact trivial) (.inl rfl) (fun b' u hb hu => (Heap.get?_update_other s.heap (Obj.mapSeq f) (Ne.symm hb)).trans hu) ⟨_,q⟩ ?_
  exact ⟨hz,its',_,hv,q⟩
theorem Inv.lnew {its : List Value} {t' : Nat} (I : Inv X pins σ H s) (hv : Vals ys its) (hz : ys.length≤sizeLine) :
    Inv X pins σ (upd H s.heap.objs.size (.lst ys)) { s with heap := s.heap.push { cls := .type "list",data := .seq its.toArray },toks := t' } :=
  I.laid (fun _ _ q => Heap.get?_push_of_some _ q) (Nat.le_refl _) ⟨hz,its,0,hv,Heap.get?_push_size _ rfl⟩
theorem Inv.fresh (I : Inv X pins σ H s) : H s.heap.objs.size = none := I.hok.fresh (Nat.le_refl _)
theorem Inv.lstM (I : Inv X pins σ H s) (hH : H l = some (.lst xs)) : xs.length≤sizeLine∧∃ (its : List Value) (n : Nat),Vals xs its∧xs.length = its.length∧s.heap.get? l = some { cls := .type "list",data := .seq its.toArray n } := by
  obtain ⟨z,its,n,r,e⟩ := I.hok l _ hH
  exact ⟨z,its,n,r,r.length,e⟩
end
section
variable {X : Cx}
noncomputable def zfi : V→List V→Hp→VK→Prop := fun x vs H Q => ∃ l xs y,x = .ref l∧vs = [y]∧H l = some (.lst xs)∧xs.length < sizeLine∧Q .non (upd H l (.lst (xs++[y])))
theorem zdG : MtM X "list.append" zfi := by
  intro pins s σ H x vs v us Q I rx rv h
  obtain ⟨l,xs,y,rfl,rfl,hH,hz,q⟩ := h
  cases rx
  obtain ⟨u,rfl,ru⟩ := rv.one
  obtain ⟨z,its,n,r,hl,e⟩ := I.lstM hH
  refine call_meets F.slot_list_append ⟨_,e,rfl⟩ F.entry_list_append (F.args_list_append_2 _ _) (PySem.list_append l its.toArray n u (by rw [List.size_toArray]; omega)) ⟨e,?_⟩
  refine ⟨.non,_,I.lset (its' := its++[u]) hH e (by simp) (r.append (.cons ru .nil)) ?_,rfl,q⟩
  rw [List.length_append,List.length_singleton]
  omega
end
section
variable {prog : Program} {w : World} {A : Around} {E : Value → Shared → Prop} {s : Shared}
end
section
variable {X : Cx}
end
end L2
namespace L2
open PySem PySem.Spec PyProof.Rows
section
variable {κ : Type} [DecidableEq κ]
noncomputable def valV (kvs : List (κ × V)) (k : κ) : Option V := (kvs.find? fun kv => decide (kv.1 = k)).map (·.2)
noncomputable def putK (kvs : List (κ × V)) (k : κ) (v : V) : List (κ × V) :=
  if (kvs.any fun kv => decide (kv.1 = k)) = true then kvs.map (fun kv => if kv.1 = k then (kv.1,v) else kv) else kvs++[(k,v)]
noncomputable def zhu (kvs : List (κ × V)) (k : κ) : List (κ × V) := kvs.filter fun kv => decide (kv.1≠k)
theorem zbx {p : κ × V} {r : List (κ × V)} {k : κ} (e : p.1 = k) : valV (p::r) k = some p.2 := by simp [valV,List.find?_cons,e]
theorem zbc {p : κ × V} {r : List (κ × V)} {k : κ} (e : ¬ p.1 = k) : valV (p::r) k = valV r k := by simp [valV,List.find?_cons,e]
theorem zcG (k : κ) : ∀ kvs : List (κ × V),(kvs.any fun kv => decide (kv.1 = k)) = (valV kvs k).isSome
  | [] => rfl
  | p::r => by
    rw [List.any_cons]
    by_cases e : p.1 = k
    · simp only [zbx e,decide_eq_true e,Bool.true_or,Option.isSome_some]
    · rw [zbc e,decide_eq_false e,Bool.false_or]; exact zcG k r
theorem RelO.isSome_eq {o : Option V} {u : Option Value} (r : RelO o u) : o.isSome = u.isSome := by
  cases o with
  | none => cases u with
    | none => rfl
    | some _ => exact (show False from r).elim
  | some _ => cases u with
    | none => exact (show False from r).elim
    | some _ => rfl
theorem RelO.getD {o : Option V} {u : Option Value} {d : V} {d' : Value} (r : RelO o u) (rd : RelV d d') : RelV (o.getD d) (u.getD d') := by
  cases o with
  | none => cases u with
    | none => exact rd
    | some _ => exact (show False from r).elim
  | some _ => cases u with
    | none => exact (show False from r).elim
    | some _ => exact r
theorem KV.val {kvs : List (κ × V)} {vs : List (κ × Value)} (r : KV kvs vs) (k : κ) : RelO (valV kvs k) (valueAt vs k) := by
  unfold KV at r
  induction r with
  | nil => exact True.intro
  | @cons p q ps qs h t ih =>
    obtain ⟨h1,h2⟩ := h
    by_cases e : p.1 = k
    · have e' : q.1 = k := h1.symm.trans e
      have b : valueAt (q::qs) k = some q.2 := by simp [valueAt,List.find?_cons,e']
      rw [zbx e,b]; exact h2
    · have e' : ¬ q.1 = k := fun z => e (h1.trans z)
      have b : valueAt (q::qs) k = valueAt qs k := by simp [valueAt,List.find?_cons,e']
      rw [zbc e,b]; exact ih
theorem KV.any {kvs : List (κ × V)} {vs : List (κ × Value)} (r : KV kvs vs) (k : κ) : (kvs.any fun kv => decide (kv.1 = k)) = vs.any fun kv => decide (kv.1 = k) := by
  unfold KV at r
  induction r with
  | nil => rfl
  | cons h t ih => rw [List.any_cons,List.any_cons,ih,h.1]
theorem KV.repl {kvs : List (κ × V)} {vs : List (κ × Value)} (r : KV kvs vs) (k : κ) {y : V} {u : Value} (ry : RelV y u) :
    KV (kvs.map fun kv => if kv.1 = k then (kv.1,y) else kv) (vs.map fun kv => if kv.1 = k then (kv.1,u) else kv) := by
  unfold KV at r ⊢
  induction r with
  | nil => exact .nil
  | @cons p q ps qs h t ih =>
    rw [List.map_cons,List.map_cons]
    refine .cons ?_ ih
    obtain ⟨h1,h2⟩ := h
    by_cases e : p.1 = k
    · rw [if_pos e,if_pos (h1.symm.trans e)]; exact ⟨h1,ry⟩
    · rw [if_neg e,if_neg (fun z => e (h1.trans z))]; exact ⟨h1,h2⟩
theorem KV.put {kvs : List (κ × V)} {vs : List (κ × Value)} (r : KV kvs vs) (k : κ) {y : V} {u : Value} (ry : RelV y u) : KV (putK kvs k y) (stored vs k u) := by
  unfold putK stored
  rw [r.any k]
  by_cases e : (vs.any fun kv => decide (kv.1 = k)) = true
  · rw [if_pos e,if_pos e]; exact r.repl k ry
  · rw [if_neg e,if_neg e]; exact Paired.snoc r ⟨rfl,ry⟩
theorem KV.drop {kvs : List (κ × V)} {vs : List (κ × Value)} (r : KV kvs vs) (k : κ) : KV (zhu kvs k) (without vs k) := by
  unfold KV at r ⊢
  unfold zhu without
  induction r with
  | nil => exact .nil
  | @cons p q ps qs h t ih =>
    obtain ⟨h1,h2⟩ := h
    rw [List.filter_cons,List.filter_cons]
    by_cases e : p.1 = k
    · have a : ¬ decide (p.1≠k) = true := by simp [e]
      have b : ¬ decide (q.1≠k) = true := by simp [h1.symm.trans e]
      rw [if_neg a,if_neg b]; exact ih
    · have e' : ¬ q.1 = k := fun z => e (h1.trans z)
      have a : decide (p.1≠k) = true := by simp [e]
      have b : decide (q.1≠k) = true := by simp [e']
      rw [if_pos a,if_pos b]; exact .cons ⟨h1,h2⟩ ih
theorem KV.length {kvs : List (κ × V)} {vs : List (κ × Value)} (r : KV kvs vs) : kvs.length = vs.length := Paired.length r
end
theorem zfG {P : Program} {w : World} {k : Key} {u : Value} (r : RelV (kV k) u) : (zaL P w).is k u = true := by
  cases k with
  | inl i => obtain ⟨t,e⟩ := (show ∃ t,u = Value.int i t from r); subst e; exact zcz P w i t
  | inr x => obtain ⟨t,e⟩ := (show ∃ t,u = Value.str x t from r); subst e; exact zcy P w x t
theorem zcc {P : Program} {w : World} : ∀ {ks : List Key} {us : List Value},Vals (ks.map kV) us→ItemsAre (zaL P w) ks us
  | [],_,r => by rw [List.map_nil] at r; cases r; exact .nil
  | k::ks,_,r => by
    rw [List.map_cons] at r
    cases r with
    | cons h t => exact .cons (zfG h) (zcc t)
noncomputable abbrev KT (H : Hp) : List (List Key × V)→List (List Key × Addr × Value)→Prop := Paired fun p q => p.1 = q.1∧H q.2.1 = some (.tup (p.1.map kV))∧RelV p.2 q.2.2
theorem KT.val {H : Hp} {kvs : List (List Key × V)} {xs : List (List Key × Addr × Value)} (r : KT H kvs xs) (k : List Key) : RelO (valV kvs k) ((atKey xs k).map (·.2)) := by
  induction r with
  | nil => exact True.intro
  | @cons p q ps qs h t ih =>
    obtain ⟨h1,_,h2⟩ := h
    by_cases e : p.1 = k
    · have e' : q.1 = k := h1.symm.trans e
      have b : atKey (q::qs) k = some q.2 := by simp [atKey,List.find?_cons,e']
      rw [zbx e,b]; exact h2
    · have e' : ¬ q.1 = k := fun z => e (h1.trans z)
      have b : atKey (q::qs) k = atKey qs k := by simp [atKey,List.find?_cons,e']
      rw [zbc e,b]; exact ih
theorem KT.repl {H : Hp} {kvs : List (List Key × V)} {xs : List (List Key × Addr × Value)} (r : KT H kvs xs) (k : List Key) {y : V} {u : Value} (ry : RelV y u) :
    KT H (kvs.map fun kv => if kv.1 = k then (kv.1,y) else kv) (xs.map (putAt k u)) := by
  induction r with
  | nil => exact .nil
  | @cons p q ps qs h t ih =>
    rw [List.map_cons,List.map_cons]
    refine .cons ?_ ih
    obtain ⟨h1,h2,h3⟩ := h
    unfold putAt
    by_cases e : p.1 = k
    · rw [if_pos e,if_pos (h1.symm.trans e)]; exact ⟨h1,h2,ry⟩
    · rw [if_neg e,if_neg (fun z => e (h1.trans z))]; exact ⟨h1,h2,h3⟩
theorem KT.put {H : Hp} {kvs : List (List Key × V)} {xs : List (List Key × Addr × Value)} (r : KT H kvs xs) (k : List Key) {b : Addr} {y : V} {u : Value} (hb : H b = some (.tup (k.map kV))) (ry : RelV y u) :
    KT H (putK kvs k y) (storedH xs k b u) := by
  have e : (kvs.any fun kv => decide (kv.1 = k)) = (atKey xs k).isSome := by
    rw [zcG,(r.val k).isSome_eq,Option.isSome_map]
  unfold putK storedH
  rw [e]
  by_cases q : (atKey xs k).isSome = true
  · rw [if_pos q,if_pos q]; exact r.repl k ry
  · rw [if_neg q,if_neg q]; exact Paired.snoc r ⟨rfl,hb,ry⟩
theorem KT.keeps {H H' : Hp} {kvs : List (List Key × V)} {xs : List (List Key × Addr × Value)} (r : KT H kvs xs) (ht : ∀ b ys,H b = some (.tup ys)→H' b = some (.tup ys)) : KT H' kvs xs :=
  Paired.mapP r fun _ _ z => ⟨z.1,ht _ _ z.2.1,z.2.2⟩
section
variable {P : Program} {w : World} {H : Hp} {h : Heap} {a : Addr}
theorem zgv {u : HO} (ok : HOk P w H h) (e : Rd H a u) : zaz P w H h a u := e.ok ok
theorem zeJ {kvs : List (Key × V)} (ok : HOk P w H h) (e : Rd H a (.dK kvs)) : kvs.length≤sizeLine∧(a == sysModules) = false∧∃ vs,KV kvs vs∧h.DictOf (zaL P w) a vs :=
  show zaz P w H h a (.dK kvs) from zgv ok e
theorem zdL {ks : List Key} (ok : HOk P w H h) (e : H a = some (.tup (ks.map kV))) : (tupleKind (zaL P w)).is h ks a := by
  obtain ⟨_,its,r,⟨o,h1,h2,n,h3⟩,_⟩ := (show zaz P w H h a (.tup (ks.map kV)) from ok a _ e)
  exact ⟨o,its.toArray,n,h1,h2,h3,by simpa using zcc r⟩
theorem zfV {kvs : List (List Key × V)} (ok : HOk P w H h) (e : Rd H a (.dT kvs)) : kvs.length≤sizeLine∧(a == sysModules) = false ∧
    ∃ xs,KT H kvs xs∧h.DictOfH (tupleKind (zaL P w)) a xs := by
  obtain ⟨z,y,xs,r,o,es,ep,h1,h2,h3,h4,h5⟩ := (show zaz P w H h a (.dT kvs) from zgv ok e)
  refine ⟨z,y,xs,r,o,es,ep,h1,h2,h3,h4,fun x hx => ?_,h5⟩
  have all : ∀ {l : List (List Key × V)} {m : List (List Key × Addr × Value)},KT H l m→∀ x∈m,(tupleKind (zaL P w)).is h x.1 x.2.1 := by
    intro l m q
    induction q with
    | nil => intro x hx; exact nomatch hx
    | @cons p q ps qs hq t ih =>
      intro x hx
      rcases List.mem_cons.mp hx with e | hx
      · subst e
        exact zdL ok (by rw [← hq.1]; exact hq.2.1)
      · exact ih x hx
  exact all r x hx
end
noncomputable def DGet (H : Hp) (a : Addr) (y : V) (r : Option V) : Prop :=
  (∃ kvs k,Rd H a (.dK kvs)∧y = kV k∧r = valV kvs k)∨∃ kvs k b,Rd H a (.dT kvs)∧y = .ref b∧H b = some (.tup (k.map kV))∧r = valV kvs k
noncomputable def DPut (H : Hp) (a : Addr) (y v : V) (H' : Hp) : Prop :=
  (∃ kvs k,H a = some (.dK kvs)∧y = kV k∧kvs.length < sizeLine∧H' = upd H a (.dK (putK kvs k v))) ∨
  ∃ kvs k b,H a = some (.dT kvs)∧y = .ref b∧H b = some (.tup (k.map kV))∧kvs.length < sizeLine∧H' = upd H a (.dT (putK kvs k v))
theorem DGet.k {H : Hp} {a : Addr} {kvs : List (Key × V)} {k : Key} (e : H a = some (.dK kvs)) : DGet H a (kV k) (valV kvs k) := .inl ⟨kvs,k,.inl e,rfl,rfl⟩
theorem DGet.t {H : Hp} {a b : Addr} {kvs : List (List Key × V)} {k : List Key} (e : H a = some (.dT kvs)) (eb : H b = some (.tup (k.map kV))) : DGet H a (.ref b) (valV kvs k) := .inr ⟨kvs,k,b,.inl e,rfl,eb,rfl⟩
theorem DPut.k {H : Hp} {a : Addr} {kvs : List (Key × V)} {k : Key} {v : V} (e : H a = some (.dK kvs)) (hl : kvs.length < sizeLine) : DPut H a (kV k) v (upd H a (.dK (putK kvs k v))) := .inl ⟨kvs,k,e,rfl,hl,rfl⟩
theorem DPut.t {H : Hp} {a b : Addr} {kvs : List (List Key × V)} {k : List Key} {v : V} (e : H a = some (.dT kvs)) (eb : H b = some (.tup (k.map kV))) (hl : kvs.length < sizeLine) :
    DPut H a (.ref b) v (upd H a (.dT (putK kvs k v))) := .inr ⟨kvs,k,b,e,rfl,eb,hl,rfl⟩
section
variable {X : Cx} {pins : List (Addr × Obj)} {σ : St} {H : Hp} {s : Shared} {a : Addr} {y v : V} {u r : Value} {o : Option V} {A : Around} {E : Value → Shared → Prop}
theorem zdZ {Q : Value→Shared→Prop} (hu : A.units + 1 < cLine) (I : Inv X pins σ H s) (g : DGet H a y (some v)) (ry : RelV y u) (h : ∀ w' s',Inv X pins σ H s'→RelV v w'→Q w' s') :
    wpAny (model X.prog X.w) A (getItem (.ref a) u) Q E s := by
  rcases g with ⟨kvs,k,e,ey,l⟩ | ⟨kvs,k,b,e,ey,eb,l⟩
  · subst ey
    obtain ⟨z,hd,vs,rel,dd⟩ := zeJ I.hok e
    obtain ⟨w',hw,rw'⟩ := RelO.some_of (v := v) (o := valueAt vs k) (by rw [l]; exact rel.val k)
    exact wpAny_getItem_of (zfG ry) dd.mapOf hw (h w' _ (I.tok _) rw')
  · subst ey
    cases (show u = Value.ref b from ry)
    obtain ⟨z,hd,xs,rel,dd⟩ := zfV I.hok e
    obtain ⟨w',hw,rw'⟩ := RelO.some_of (v := v) (o := (atKey xs k).map (·.2)) (by rw [l]; exact rel.val k)
    obtain ⟨p,hp,hp2⟩ := Option.map_eq_some_iff.mp hw
    refine wpAny_getItem_heap (tupleKind_room_in1 hu) (zdL I.hok eb) dd hp ?_
    rw [hp2]
    exact h w' _ (I.tok _) rw'
theorem d_in {Q : Value→Shared→Prop} (hu : A.units + 1 < cLine) (I : Inv X pins σ H s) (g : DGet H a y o) (ry : RelV y u) (h : ∀ s',Inv X pins σ H s'→Q (.bool o.isSome) s') :
    wpAny (model X.prog X.w) A (compareOp .In u (.ref a)) Q E s := by
  rcases g with ⟨kvs,k,e,ey,l⟩ | ⟨kvs,k,b,e,ey,eb,l⟩
  · subst ey
    obtain ⟨z,hd,vs,rel,dd⟩ := zeJ I.hok e
    refine wpAny_in_of (zfG ry) hd dd.mapOf ?_
    rw [← (rel.val k).isSome_eq,← l]
    exact h _ (I.tok _)
  · subst ey
    cases (show u = Value.ref b from ry)
    obtain ⟨z,hd,xs,rel,dd⟩ := zfV I.hok e
    refine wpAny_in_heap (tupleKind_room_in1 hu) (zdL I.hok eb) hd dd ?_
    have q := (rel.val k).isSome_eq
    rw [Option.isSome_map] at q
    rw [← q,← l]
    exact h _ (I.tok _)
end
section
variable {X : Cx} {pins : List (Addr × Obj)} {σ : St} {H : Hp} {s : Shared} {a : Addr} {kvs : List (Key × V)} {k : Key} {u : Value} {A : Around} {E : Value → Shared → Prop}
theorem zin {Q : Value→Shared→Prop} (I : Inv X pins σ H s) (e : Rd H a (.dK kvs)) (h : ∀ t s',Inv X pins σ H s'→Q (.int kvs.length t) s') : wpAny (model X.prog X.w) A (call (.builtin "len") [.ref a]) Q E s := by
  obtain ⟨z,hd,vs,rel,dd⟩ := zeJ I.hok e
  refine call_len_dict hd dd (by rw [← rel.length]; rw [sizeLine_eq] at z; omega) ?_
  rw [← rel.length]
  exact h _ _ (I.tok _)
end
theorem zcB {X : Cx} {pins : List (Addr × Obj)} {σ : St} {H : Hp} {s : Shared} {a : Addr} {y : V} {o : Option V} (I : Inv X pins σ H s) (g : DGet H a y o) : s.TypeIs (.ref a) "dict" := by
  rcases g with ⟨kvs,k,e,_,_⟩ | ⟨kvs,k,b,e,_,_,_⟩
  · obtain ⟨_,_,vs,_,dd⟩ := zeJ I.hok e
    exact dd.typeIs
  · obtain ⟨_,_,xs,_,dd⟩ := zfV I.hok e
    exact dd.typeIs
section
variable {X : Cx} {o i e value : Expr} {pos pos' tpos : Pos} {td ty tv : TE}
end
section
variable {X : Cx} {pos : Pos}
end
structure M1 (X : Cx) (o : Expr) (m : Str) (apos : Pos) (e : Expr) (cpos : Pos) : Prop where
  base : attributeBase o m X.env (eval o X.env) = eval o X.env
  few : ((backTo cpos (starEach [e] X.env)).all (fun x => ! x.1) && (backToKw cpos (keywordEach [] X.env)).all (fun x => x.1.isSome)
    && decide (([e] : List Expr).length + ([] : List Keyword).length + (if ([] : List Keyword).isEmpty then 0 else 1) < 30)) = true
  line : (apos.endLine == cpos.line) = true
  trees : backTo cpos (starEach [e] X.env) = [(false,eval e X.env)]
structure M2 (X : Cx) (o : Expr) (m : Str) (apos : Pos) (e f : Expr) (cpos : Pos) : Prop where
  base : attributeBase o m X.env (eval o X.env) = eval o X.env
  few : ((backTo cpos (starEach [e,f] X.env)).all (fun x => ! x.1) && (backToKw cpos (keywordEach [] X.env)).all (fun x => x.1.isSome)
    && decide (([e,f] : List Expr).length + ([] : List Keyword).length + (if ([] : List Keyword).isEmpty then 0 else 1) < 30)) = true
  line : (apos.endLine == cpos.line) = true
  trees : backTo cpos (starEach [e,f] X.env) = [(false,eval e X.env),(false,eval f X.env)]
section
variable {X : Cx} {pins : List (Addr × Obj)} {σ : St} {H : Hp} {s : Shared} {a : Addr} {y d : V} {u r : Value} {o : Option V} {A : Around} {E : Value → Shared → Prop}
end
section
variable {X : Cx} {o e f : Expr} {apos cpos : Pos} {td ty tx : TE}
end
section
variable {X : Cx} {pins : List (Addr × Obj)} {σ : St} {H : Hp} {s : Shared} {a : Addr} {kvs : List (Key × V)} {A : Around} {E : Value → Shared → Prop}
end
section
variable {X : Cx} {pins : List (Addr × Obj)} {σ : St} {H : Hp} {s : Shared} {a : Addr} {y : V} {u : Value} {A : Around} {E : Value → Shared → Prop}
end
end L2
namespace Att
open PySem PySem.W PySem.Calls PyProof.Rows
theorem zbG {P : Params} {h : Heap} : ∀ (ns : List Int) (vs : List Value),WellAll P h vs (ns.map WData.int)→IntsAre vs ns := by
  intro ns
  induction ns with
  | nil =>
    intro vs w
    rw [List.map_nil] at w
    cases w
    exact .nil
  | cons n ns ih =>
    intro vs w
    rw [List.map_cons] at w
    cases w with
    | cons a b =>
      cases a
      exact .cons _ _ (ih _ b)
theorem zdo {l : OpenLaw} {n : Nat} (hn : l.most = some n) {P : Params} {h : Heap} {args : List WData} {vals : List Value}
    (hpre : l.row.toRowW.claim.pre args = true) (hwl : WellAll P h vals args) :
    ∃ a vs ns,vals = [Value.ref a]∧args = [WData.list (ns.map WData.int)]∧h.get? a = some { cls := .type "list",data := .seq vs.toArray }∧IntsAre vs ns∧ns.length≤n := by
  have hsh : WShape.hasAll [] args [.list .int] = true := (pre_splitW hpre).1
  have hc : l.pre.holds [] { args := args } = true := (pre_splitW hpre).2
  obtain ⟨d,r,rfl,h1,h2⟩ := hasAllW_cons hsh
  obtain rfl := hasAllW_nil h2
  obtain ⟨xs,rfl,h3⟩ := hasW_list h1
  obtain ⟨ns,rfl⟩ := items_int h3
  have hlen : ns.length≤n := by
    unfold OpenLaw.pre at hc
    have h4 : (WTm.not (.lt (.lit (.int (n : Int))) (.len (.arg 0)))).holds [] { args := [.list (ns.map .int)] } = true := by
      have h4 := (holds_andW hc).1
      rw [hn] at h4
      exact h4
    have h5 := condW_of h4 (w_not (w_lt w_lit (w_len_list (w_arg rfl))))
    rw [List.length_map] at h5
    refine Nat.le_of_not_lt fun q => ?_
    have q' : (n : Int) < ((ns.length : Nat) : Int) := by omega
    first
      | (rw [decide_eq_true q'] at h5; exact absurd h5 (by decide))
      | (simp at h5; omega)
  cases hwl with
  | cons w1 w2 =>
    cases w2
    cases w1 with
    | list ho hall => exact ⟨_,_,ns,rfl,rfl,ho,zbG ns _ hall,hlen⟩
theorem zdu (l : OpenLaw) (args : List WData) : l.row.toRowW.claim.post args (.bool true) args = true :=
  postW_of (r := l.row.toRowW) (X := (true == true))
    (show WShape.has [] (.bool true) .bool = true by first | rfl | decide | simp [WShape.has,WShape.arms,WShape.armsAll])
    (show (WTm.eq .res (.lit (.bool true))).value [] { args := args,res := some (.bool true),after := args } = some (.bool (true == true)) from w_eq_bool (w_res rfl) w_lit) rfl
theorem attach_call {l : OpenLaw} {n : Nat} {q : Program} {loose : List Str} {XP : (Str→Option Value)→Heap→Prop} {YP : World→Heap→Prop} {d : DefRec}
    (hn : l.most = some n) (hdf : d.params.defaults = [])
    (call : ∀ (w : World) (s₀ s₁ : Shared) (mg mb : Str→Option Value) (fa : Addr) (o : Obj) (pm cd doc : Value) (a : Addr) (vs : List Value) (ns : List Int),
      Ground q loose [] XP w s₀ mg mb s₁.heap→YP w s₁.heap →
      s₁.heap.get? fa = some o→o.data = .func (docDef d.name d.params d.body d.scope pm cd doc)→s₁.heap.CodeRec cd d.name→mg d.name = some (.ref fa) →
      s₁.heap.get? a = some { cls := .type "list",data := .seq vs.toArray }→IntsAre vs ns→ns.length≤n→s₁.gens = #[] →
      codeAny (model l.prog w) callerA (.call (.ref fa) ⟨[.ref a],[]⟩) (fun r s' => r = .ok (.ret (.bool true))∧OldK s₁.heap s'.heap∧s'.os = s₁.os∧AllBare s'.gens) s₁) :
    WalkO q loose XP YP l.row.toRowW d [] (fun f vs => PySem.call f vs) := by
  intro w s₀ s₁ mg mb G Y fa o pm cd doc dV kV ho hd hcd hD hmg hg args vals as hpre hlay hrd hwl hlo
  obtain rfl : dV = .none := Dflts.none hD hdf
  obtain rfl : kV = .none := Dflts.noKw hD
  obtain ⟨a,vs,ns,rfl,rfl,hobj,hints,hlen⟩ := zdo hn hpre hwl
  refine enter_call (codeAny_mono (call w s₀ s₁ mg mb fa o pm cd doc a vs ns G Y ho (fd_plain hd) hcd hmg hobj hints hlen hg) fun r s' hq => ?_)
  obtain ⟨rfl,h2,h3,h4⟩ := hq
  exact ⟨.inl ⟨.bool true,.bool true,[],rfl,fun _ => rfl,.bool true,zdu l _,fun _ => ⟨List.Pairwise.nil,fun _ hm => (nomatch hm)⟩⟩,h2,h3,h4⟩
section
variable {prog : Program} {w : World} {A : Around} {E : Value → Shared → Prop} {s : Shared} {K : Frag}
end
end Att
namespace L2
open PySem PySem.Spec PyProof.Rows
theorem zb2 : ∀ {vs : List Value} {ns : List Int},IntsAre vs ns→Vals (ns.map V.int) vs
  | _,_,.nil => .nil
  | _,_,.cons n t h => .cons ⟨t,rfl⟩ (zb2 h)
noncomputable def Only (H : Hp) : Prop := ∀ b,H b = none∨∃ o xs,H b = some (.frz o (.lst xs))
theorem zew {P : Program} {w : World} {K : PySem.W.Frag} {mg mb : Str→Option Value} {CX : CXT} {k : Nat} {fa a : Addr} {fd : FuncData} {x : Str} {sp : Sp} {s₁ : Shared} {vs : List Value} {ns : List Int}
    (KX : K.In s₁.heap) (hns : s₁.heap.Ns mainGlobals mg) (hb : s₁.heap.Ns builtinsNs mb) (hbb : ∀ x : Str,x≠"__name__"→mb x = bootBuiltins x) (hlim : s₁.heap.NoLimit) (hg : s₁.gens = #[])
    (ha : s₁.heap.get? a = some { cls := .type "list",data := .seq vs.toArray }) (hi : IntsAre vs ns) (hl : ns.length≤sizeLine) (hr : Room k callerA)
    (F : ∀ base : Heap,K.In base→base.Ns mainGlobals mg→FnOk P w K mg base CX k fa fd [x] sp) (hbind : ∀ (s : Shared) (u : Value),BindsTo s fd ⟨[u],[]⟩ [(x,u)])
    (hsp : ∀ H : Hp,Only H→SqL K H a (ns.map V.int)→sp [.ref a] H (fun v _ => v = .bl true) fun _ _ _ => False)
    (hCX : ∀ H e s',CX [] H s₁ (fun _ _ _ => False) e s'→False) :
    codeAny (model P w) callerA (.call (.ref fa) ⟨[.ref a],[]⟩) (fun r s' => r = .ok (.ret (.bool true))∧OldK s₁.heap s'.heap∧s'.os = s₁.os∧AllBare s'.gens) s₁ := by
  have rv := zb2 hi
  have lenV := hi.length
  have core : ∀ H : Hp,Only H→SqL K H a (ns.map V.int)→HOk P w H s₁.heap→(∀ b,H b≠none→b = a)→(H a≠none→K.lookup a = none) →
      codeAny (model P w) callerA (.call (.ref fa) ⟨[.ref a],[]⟩) (fun r s' => r = .ok (.ret (.bool true))∧OldK s₁.heap s'.heap∧s'.os = s₁.os∧AllBare s'.gens) s₁ := by
    intro H hO hS hok hA hK
    have base_of : ∀ {b : Addr} {o : Obj},s₁.heap.get? b = some o→H b = none→(hidT s₁.heap H).get? b = some o := fun e n => zeB e n
    have noA : ∀ {b : Addr} {o : Obj} {es : Array DictEntry} {ep : Nat},s₁.heap.get? b = some o→o.data = .dict es ep→H b = none := fun {b o es ep} e d => by
      cases q : H b with
      | none => rfl
      | some u =>
        have e' : b = a := hA b (by rw [q]; simp)
        subst e'
        rw [ha] at e; cases e
        have d' : Data.seq vs.toArray _ = Data.dict es ep := d
        cases d'
    have nsK : ∀ {b : Addr} {m : Str→Option Value},s₁.heap.Ns b m→(hidT s₁.heap H).Ns b m := fun {b m} ⟨o,es,ep,e,d,r⟩ => ⟨o,es,ep,base_of e (noA e d),d,r⟩
    have hKb : K.In (hidT s₁.heap H) := fun b o e => base_of (KX b o e) (by
      cases q : H b with
      | none => rfl
      | some u =>
        have e' : b = a := hA b (by rw [q]; simp)
        subst e'
        rw [hK (by rw [q]; simp)] at e; cases e)
    have hM : Mod K mg (hidT s₁.heap H) := ⟨hKb,nsK hns,⟨mb,nsK hb,hbb⟩,let ⟨mc,h1,h2⟩ := hlim; ⟨mc,nsK h1,h2⟩⟩
    have e0 : Env0 P w K mg (hidT s₁.heap H) callerA [] s₁ H := ⟨rfl,hM,fun b o e => zfz e,Nat.le_of_eq (zdP _ _),trivial,fun b hb => absurd (show b∈([] : List Addr) from hb) (by simp),hok,.of_eq hg⟩
    refine codeAny_mono ((F _ hKb (nsK hns)).run callerA [] s₁ H ⟨[.ref a],[]⟩ [.ref a] [.ref a] _ _ hr e0 (hbind s₁ (.ref a)) (.cons rfl .nil) (hsp H hO hS)) fun r s' h => ?_
    cases r with
    | error e => exact (hCX H e s' h).elim
    | ok fl =>
      cases fl with
      | next => exact False.elim h
      | brk => exact False.elim h
      | cont => exact False.elim h
      | ret u =>
        obtain ⟨v,H',os,bare,un,hok',r',q⟩ := h
        have q' : v = .bl true := q
        subst q'
        obtain rfl : u = Value.bool true := r'
        refine ⟨rfl,OldK.of_keep fun b o e => ?_,os,bare⟩
        cases q : H b with
        | none => exact un.keep b o e q (by intro z; exact absurd (show b∈([] : List Addr) from z) (by simp)) (by simp)
        | some u =>
          rcases hO b with z | ⟨ob,xs,z⟩
          · rw [q] at z; cases z
          · have z2 := un.frzs b ob _ z
            obtain ⟨e1,_⟩ := hok b _ z
            obtain ⟨e2,_⟩ := hok' b _ z2
            rw [e] at e1; cases e1
            exact e2
  cases hk : K.lookup a with
  | some o =>
    have e := KX a o hk
    rw [ha] at e
    cases e
    refine core (fun _ => none) (fun _ => .inl rfl) (.inr ⟨_,vs.toArray,_,hk,rfl,rfl,rfl,by rw [List.size_toArray,lenV]; exact hl,by simpa using rv⟩) (fun b u z => by have z' : (none : Option HO) = some u := z; cases z') (fun b z => absurd rfl z) fun z => absurd rfl z
  | none =>
    refine core (fun b => if b = a then some (.frz { cls := .type "list",data := .seq vs.toArray } (.lst (ns.map V.int))) else none) (fun b => ?_) (.inl (.inr ⟨{ cls := .type "list",data := .seq vs.toArray },if_pos rfl⟩)) (fun b u z => ?_) (fun b z => ?_) fun _ => hk
    · by_cases hb : b = a
      · exact .inr ⟨_,_,if_pos hb⟩
      · exact .inl (if_neg hb)
    · by_cases hb : b = a
      · have z' := (if_pos hb).symm.trans z
        cases z'
        subst hb
        exact ⟨ha,by rw [List.length_map]; exact hl,vs,_,rv,ha⟩
      · have z' := (if_neg hb).symm.trans z
        cases z'
    · by_cases hb : b = a
      · exact hb
      · exact absurd (if_neg hb) z
end L2
namespace L2
open PySem PySem.Spec PyProof.Rows
noncomputable abbrev KOf {K : PySem.W.Frag} {h : Heap} (_ : K.In h) : PySem.W.Frag := K
theorem walk_of {l : PySem.W.OpenLaw} {n k : Nat} {q : Program} {loose : List Str} {XP : (Str→Option Value)→Heap→Prop} {YP : World→Heap→Prop} {d : DefRec} {K : Params→PySem.W.Frag} {CX : World→CXT} {sp : World→Sp} {x : Str}
    (hn : l.most = some n) (hn2 : n≤sizeLine) (hdf : d.params.defaults = []) (hr : Room k callerA)
    (hY : ∀ (w : World) (h : Heap),YP w h→(K w.params).In h)
    (F : ∀ (w : World) (mg : Str→Option Value) (fa : Addr) (h : Heap),(K w.params).In h→h.Ns mainGlobals mg→mg d.name = some (.ref fa) →
      ∃ fd : FuncData,(∀ (s : Shared) (u : Value),BindsTo s fd ⟨[u],[]⟩ [(x,u)]) ∧
        ∀ base : Heap,(K w.params).In base→base.Ns mainGlobals mg→FnOk l.prog w (K w.params) mg base (CX w) k fa fd [x] (sp w))
    (hsp : ∀ (w : World) (H : Hp) (a : Addr) (ns : List Int),ns.length≤n→Only H→SqL (K w.params) H a (ns.map V.int)→sp w [.ref a] H (fun v _ => v = .bl true) fun _ _ _ => False)
    (hCX : ∀ (w : World) (H : Hp) (s : Shared) (e : Value) (s' : Shared),CX w [] H s (fun _ _ _ => False) e s'→False) :
    PySem.W.WalkO q loose XP YP l.row.toRowW d [] (fun f vs => PySem.call f vs) := by
  refine Att.attach_call hn hdf fun w s₀ s₁ mg mb fa o pm cd doc a vs ns G Y ho hd hcd hmg hobj hints hlen hg => ?_
  have KX := hY w _ Y
  obtain ⟨fd,hb,hF⟩ := F w mg fa _ KX G.T.g hmg
  exact zew KX G.T.g G.T.b G.T.builtins G.T.nolimit hg hobj hints (Nat.le_trans hlen hn2) hr hF hb (fun H hO hS => hsp w H a ns hlen hO hS) fun H e s' => hCX w H s₁ e s'
end L2
namespace L2
open PySem PySem.Spec PyProof.Rows
noncomputable def defArgs (s : Stmt) : Arguments := match s with
  | .FunctionDef _ a _ _ _ _ _ _ _ _ => a
  | _ => { posonlyargs := [],args := [],vararg := none,kwonlyargs := [],kw_defaults := [],kwarg := none,defaults := [] }
noncomputable def defBody (s : Stmt) : List Stmt := match s with
  | .FunctionDef _ _ b _ _ _ _ _ _ _ => b
  | _ => []
noncomputable def defScope (s : Stmt) : Scope := match s with
  | .FunctionDef _ _ _ _ _ _ sc _ _ _ => sc
  | _ => { kind := .function,names := [],isGenerator := false,isCoroutine := false }
noncomputable abbrev CX0 : CXT := fun _ _ _ _ _ _ => False
noncomputable abbrev E0 : XK := fun _ _ _ => False
theorem zhY {X : Cx} : zec CX0 X E0 := fun _ _ _ _ _ _ _ h => h.elim
structure Fun (K : PySem.W.Frag) (x qual : Str) (st : Stmt) (f : Addr) (fd : FuncData) : Prop where
  ex : ∃ (oc : Value) (od : Option Addr) (kV doc pm : Value) (an : Option Addr) (cdv ct : Value) (osl : Array (Option Value)),
    fd = PySem.W.fnOf x qual (defArgs st) (defBody st) (defScope st) .none kV doc pm an cdv ct∧K.lookup f = some ⟨oc,od,.func fd,osl⟩∧PySem.W.codeIn K cdv qual = true
  kp : PySem.W.keepIn K (.ref f) = true
section
variable {P : Program} {w : World} {K : PySem.W.Frag} {mg : Str → Option Value} {base : Heap}
theorem Fun.ok {x qual : Str} {st : Stmt} {f : Addr} {fd : FuncData} {N ps : List Str} {k : Nat} {sp : Sp} (F : Fun K x qual st f fd) (S : FnScope N ps (defScope st)) (len : ∀ vs H Q E,sp vs H Q E→vs.length = ps.length)
    (hbody : ∀ (cdv : Value) (A : Around) (outer : List Env) (s : Shared) (H : Hp) (vs : List V) (Q : VK) (E : XK),Room k (A.deeper (envOfC qual (defScope st) s.heap.objs.size f cdv))→sp vs H Q E →
      ∃ t,PSs (cxOf CX0 P w K mg base N qual (defScope st) f cdv A outer s H E).nox (defBody st) t∧t { nx := fun _ H' => Q .non H',rt := Q } (start N vs) H) : FnOk P w K mg base CX0 (k + 1) f fd ps sp := by
  obtain ⟨oc,od,kV,doc,pm,an,cdv,ct,osl,rfl,lk,hcd⟩ := F.ex
  refine zii lk hcd S len fun A outer s H vs Q E hr hsp => ?_
  obtain ⟨t,h,q⟩ := hbody cdv A outer s H vs Q E hr hsp
  exact ⟨t,h.nox,q⟩
theorem Fun.binds {x qual : Str} {st : Stmt} {f : Addr} {fd : FuncData} {ps : List Str} (F : Fun K x qual st f fd)
    (h : ∀ (kV doc pm : Value) (an : Option Addr) (cdv ct : Value) (us : List Value),us.length = ps.length→bindArgs (PySem.W.fnOf x qual (defArgs st) (defBody st) (defScope st) .none kV doc pm an cdv ct) ⟨us,[]⟩ = pure (ps.zip us)) : zbw K fd ps [] := by
  obtain ⟨oc,od,kV,doc,pm,an,cdv,ct,osl,rfl,lk,hcd⟩ := F.ex
  exact .all (h kV doc pm an cdv ct)
theorem fun_mk {x qual : Str} {st : Stmt} {f : Addr} {oc : Value} {od an : Option Addr} {osl : Array (Option Value)} {kV doc pm cdv ct : Value} (l : K.lookup f = some ⟨oc,od,.func (PySem.W.fnOf x qual (defArgs st) (defBody st) (defScope st) .none kV doc pm an cdv ct),osl⟩)
    (c : PySem.W.codeIn K cdv qual = true) (k : PySem.W.keepIn K (.ref f) = true) : Fun K x qual st f (PySem.W.fnOf x qual (defArgs st) (defBody st) (defScope st) .none kV doc pm an cdv ct) := ⟨⟨oc,od,kV,doc,pm,an,cdv,ct,osl,rfl,l,c⟩,k⟩
end
theorem zfN {A : Around} {k : Nat} (hr : Room k A) : A.units + 1 < cLine := Nat.lt_of_le_of_lt (Nat.add_le_add_left (by decide : 1≤64) _) hr.units
section
variable {X : Cx}
theorem zd6 : zb1 X (.builtin "len") (fun xs H Q => ∃ a kvs,xs = [V.ref a]∧Rd H a (.dK kvs)∧Q (.int kvs.length) H) := by
  intro pins s σ H xs us Q I r h
  obtain ⟨a,kvs,rfl,ha,q⟩ := h
  obtain ⟨u,rfl,ru⟩ := zgf r
  cases ru
  exact zin I ha fun t s' I' => ⟨.int kvs.length,H,I',⟨t,rfl⟩,q⟩
end
noncomputable def Same (H H' : Hp) : Prop := ∀ b o,H b = some o→H' b = some o
theorem Same.refl (H : Hp) : Same H H := fun _ _ h => h
theorem Same.trans {H H1 H2 : Hp} (a : Same H H1) (b : Same H1 H2) : Same H H2 := fun c o h => b c o (a c o h)
theorem Same.free {H H' : Hp} (e : Same H H') {l : Addr} (h : H' l = Option.none) : H l = Option.none := by
  cases q : H l with
  | none => rfl
  | some o =>
    rw [e l o q] at h
    cases h
theorem Same.seq {K : PySem.W.Frag} {H H' : Hp} {a : Addr} {xs : List V} (e : Same H H') (h : SqL K H a xs) : SqL K H' a xs := by
  rcases h with (h | ⟨o,h⟩) | h
  · exact .inl (.inl (e _ _ h))
  · exact .inl (.inr ⟨o,e _ _ h⟩)
  · exact .inr h
section
variable {κ : Type} [DecidableEq κ]
end
end L2
end
section
namespace DL
open PySem
open PySem.SeqAt
open PySem.AutoSeq1 (wpAny_loadPart')
open PySem.MeetsSeq PySem.MeetsSeq2 PySem.MeetsSeq3
end DL
end
section
namespace DL
open PySem PyProof.Rows
section
variable {prog : Program} {w : World} {A : Around} {E : Value → Shared → Prop} {s : Shared}
end
end DL
end
section
namespace DL
open PySem PyProof.Rows PySem.W
noncomputable def zeY {α : Type} (c : Nat→Nat→Bool) : KasT α→α
  | .ret a => a
  | .ask i j k => zeY c (k (c i j))
inductive Asks (n : Nat) {α : Type} (P : α→Prop) : KasT α→Prop where
  | ret {a : α} : P a→Asks n P (.ret a)
  | ask {i j : Nat} {k : Bool→KasT α} : i < n→j < n→(∀ b,Asks n P (k b))→Asks n P (.ask i j k)
theorem Asks.bind {n : Nat} {α β : Type} {P : α→Prop} {P' : β→Prop} {t : KasT α} {f : α→KasT β} (h : Asks n P t) (hf : ∀ a,P a→Asks n P' (f a)) : Asks n P' (t.bind f) := by
  induction h with
  | ret h => exact hf _ h
  | ask h1 h2 _ ih => exact .ask h1 h2 ih
theorem Asks.run {n : Nat} {α : Type} {P : α→Prop} {t : KasT α} (h : Asks n P t) (c : Nat→Nat→Bool) : P (zeY c t) := by
  induction h with
  | ret h => exact h
  | ask _ _ _ ih => exact ih _
theorem Asks.mono {n : Nat} {α : Type} {P P' : α→Prop} {t : KasT α} (h : Asks n P t) (hp : ∀ a,P a→P' a) : Asks n P' t := by
  induction h with
  | ret h => exact .ret (hp _ h)
  | ask h1 h2 _ ih => exact .ask h1 h2 ih
noncomputable def zf8 (n : Nat) (p : Array Nat) : Prop := p.toList.Perm (List.range n)
theorem zf8.rev {n : Nat} {p : Array Nat} (h : zf8 n p) (i j : Nat) : zf8 n (kas_rev p i j) := (Array.perm_iff_toList_perm.mp (mirror_perm p i j ((j - i) / 2))).trans h
section
variable {n : Nat} (hn : 0 < n)
include hn
end
end DL
end
section
namespace DL
open PySem PyProof.Rows PySem.W PySem.Calls
section
variable {prog : Program} {w : World} {A : Around} {E : Value → Shared → Prop} {s : Shared}
end
end DL
end
section
namespace DL
open PySem PySem.Spec PyProof.Rows L2 PySem.W PySem.Calls
structure Lft (fr : List Addr) (a : Addr) (oe : Obj) (vs : Array Value) (T : Option Addr) (v : Value) (h h' : Heap) : Prop where
  keep : ∀ b o,b∉fr→b≠a→T≠some b→h.get? b = some o→h'.get? b = some o
  slot : ∀ b o,h.get? b = some o→(∀ vs : Array Value,o.data≠Data.fields vs)→∃ sl,h'.get? b = some { cls := o.cls,dict := o.dict,data := o.data,slots := sl }
  obj : ∃ tb ot ts,(h.get? tb = none∨T = some tb)∧tb≠a∧h'.get? a = some { cls := oe.cls,dict := oe.dict,data := .fields (vs.setIfInBounds 1 (.ref tb)),slots := oe.slots }∧h'.get? tb = some ot∧ot.data = .fields ts∧ts[3]? = some v
section
variable {M : Model} {A : Around} {E : Value → Shared → Prop} {s : Shared} {B : Heap} {env : Env} {outer : List Env} {L a : Addr} {oe : Obj} {vs : Array Value} {Q : Unit → Shared → Prop}
end
end DL
end
section
namespace DL
open PySem PySem.Spec PyProof.Rows L2 PySem.W PySem.Calls
noncomputable def zis (h B : Heap) (a : Addr) (cls : Value) (od L : Option Addr) : Prop :=
  ∃ oe vs,h.get? a = some oe∧oe.cls = cls∧(∀ dx,od = some dx→oe.dict = some dx)∧oe.data = .fields vs ∧
    (vs[1]? = some Value.none∨(∃ T oT ts,vs[1]? = some (.ref T)∧B.get? T = none∧T≠a∧h.get? T = some oT∧oT.data = .fields ts∧ts[3]? = some Value.none) ∨
      ∃ l T oT ts,L = some l∧vs[1]? = some (.ref T)∧B.get? T = none∧T≠a∧h.get? T = some oT∧oT.data = .fields ts∧ts[3]? = some (rawInt ↑l))
noncomputable def topF (st : List Env) : Option Addr := st.head?.bind (·.frame)
structure Fly (P : Program) (w : World) (st : List Env) (H : Hp) (s : Shared) (H' : Hp) (a : Addr) (cls : Value) (od : Option Addr) (s' : Shared) : Prop where
  os : s'.os = s.os
  bare : AllBare s'.gens
  un : Un (frs st) [] H H' s.heap s'.heap
  hok : HOk P w H' s'.heap
  ex : ∃ B : Heap,B.StaysIn s'.heap∧B.get? a = none∧s'.heap.FunFrames B st∧zis s'.heap B a cls od (topF st) ∧
    (∀ b o,s.heap.get? b = some o→b∉frs st→∃ o',B.get? b = some o')∧∀ b u,H' b = some u→∃ o',B.get? b = some o'
section
variable {X : Cx} {pins : List (Addr × Obj)} {σ : L2.St} {H H' : Hp} {s s' : Shared} {a : Addr} {cls : Value} {od : Option Addr} {M : Model} {E : Value → Shared → Prop}
end
noncomputable def CXR (P : Program) (w : World) : CXT := fun outer H s E e s' => ∃ a cls H' od,e = .ref a∧Fly P w outer H s H' a cls od s'∧E cls od H'
end DL
end
section
namespace DL
open PySem PySem.Spec PyProof.Rows L2 PySem.W PySem.Calls
theorem zcO {P : Program} {w : World} {H : Hp} {h : Heap} {a : Addr} {o : HO} (x : zaz P w H h a o) : ∃ u,h.get? a = some u := by
  cases o with
  | lst xs => obtain ⟨_,_,_,_,e⟩ := x; exact ⟨_,e⟩
  | tup xs => obtain ⟨_,_,_,_,o,e,_⟩ := x; exact ⟨_,e⟩
  | dK kvs => obtain ⟨_,_,_,_,o,_,_,e,_⟩ := x; exact ⟨_,e⟩
  | dT kvs => obtain ⟨_,_,_,_,o,_,_,e,_⟩ := x; exact ⟨_,e⟩
  | set S n => obtain ⟨o,_,_,_,e,_⟩ := x; exact ⟨_,e⟩
  | ins C dx fs => obtain ⟨_,_,_,e,_⟩ := x; exact ⟨_,e⟩
  | own y => exact x
  | xd fs => obtain ⟨_,⟨_,_,_,e,_⟩,_⟩ := x; exact ⟨_,e⟩
  | rng lo hi => obtain ⟨_,_,_,e⟩ := x; exact ⟨_,e⟩
  | frz ob u => obtain ⟨e,_⟩ := x; exact ⟨_,e⟩
  | tbl ps => exact ⟨_,(show h.get? a = some _ from x)⟩
  | met f y => exact ⟨_,(show h.get? a = some _ from x)⟩
  | ext φ => exact x.2.1
noncomputable abbrev vErr : List Value := [Value.type "ValueError",Value.type "Exception",Value.type "BaseException",Value.type "object"]
theorem zef {h : Heap} {bmB bm : List Value} {v : Value} (t : OwnTail h bmB bm) (hb : bmB.contains v = true) : bm.contains v = true := by
  induction t with
  | base => exact hb
  | own _ _ _ _ ih => rw [List.contains_cons,ih,Bool.or_true]
theorem zfT {K : PySem.W.Frag} {h : Heap} {C : Addr} {bmB : List Value} {newId : String} (k : K.In h) (e : excIn K C bmB newId = true) : ∃ bm N nm q bs hdct sn sub ab col dd k0 k1 k2 k3 k5 mN,
    h.get? C = some (excClassObj nm q C N bs bm hdct sn sub ab col dd k0 k1 k2 k3 k5 newId)∧h.Ns N mN∧mN (Str.ofString "__init__") = none∧OwnTail h bmB bm := by
  unfold excIn at e
  split at e
  · rename_i dict cd sl hk
    split at e
    · rename_i C' bm k0 k1 k2 k3 n k5 hm hs
      simp only [Bool.and_eq_true,beq_iff_eq,Bool.not_eq_true'] at e
      obtain ⟨⟨⟨⟨⟨rfl,rfl⟩,hd⟩,ht⟩,hn⟩,hi⟩ := e
      have hns := isNs_of_in k hn
      obtain ⟨nm,bs,mro,ns,q,hdct,sn,sub,ab,col,hdel⟩ := cd
      have e1 : mro = Value.ref C'::bm := hm
      have e2 : hdel = false := hd
      subst e1 e2
      have e3 : sl = #[k0,k1,k2,k3,some (Value.builtin n),k5] := by
        cases sl with
        | mk l => exact congrArg Array.mk hs
      subst e3
      exact ⟨bm,ns,nm,q,bs,hdct,sn,sub,ab,col,dict,k0,k1,k2,k3,k5,h.nsMap ns,k _ _ hk,Heap.Ns.of_isNs hns,nsMap_none_of_in k hn hi,tail_of_in k ht⟩
    · cases e
  · cases e
structure XC (K : PySem.W.Frag) (mg : Str→Option Value) (x : Str) (C : Addr) : Prop where
  bound : mg x = some (.ref C)
  exc : excIn K C vErr "ValueError.__new__" = true
section
variable {X : Cx} {pins : List (Addr × Obj)} {σ : L2.St} {H : Hp} {s : Shared} {x : Str} {C : Addr} {np cpos pos : Pos} {e₀ : Expr} {rest : List Expr} {t : TA}
theorem Fly.made {h' : Heap} {e : Addr} {cls : Value} {vs : List Value} (I : Inv X pins σ H s) (m : s.heap.MadeExcOf h' e cls vs) : Fly X.prog X.w X.stack H s H e cls none { heap := h',gens := s.gens,drawn := s.drawn,toks := s.toks,os := s.os } := by
  obtain ⟨t,m1,m2,m3⟩ := m.there
  have hst : ∀ b o,(hideAll s.heap (frs X.stack)).get? b = some o→h'.get? b = some o := fun b o e => m.keeps b o (of_hideAll _ e)
  refine ⟨rfl,I.bare,Un.kept m.keeps,I.hok.kept m.keeps,hideAll s.heap (frs X.stack),hst,?_,?_,⟨_,_,m1,rfl,(fun _ e => nomatch e),rfl,.inl rfl⟩,fun b o e n => ⟨o,hideAll_get _ e n⟩,fun b u e => ?_⟩
  · cases q : (hideAll s.heap (frs X.stack)).get? e with
    | none => rfl
    | some o => have := of_hideAll _ q; rw [m.new] at this; cases this
  · have ff := I.stack
    have key : ∀ l : List Env,(∀ b∈frs l,b∈frs X.stack)→s.heap.FunFrames X.base l→h'.FunFrames (hideAll s.heap (frs X.stack)) l := by
      intro l
      induction l with
      | nil => intro _ _; unfold Heap.FunFrames; trivial
      | cons env l ih =>
        intro hs hf
        unfold Heap.FunFrames at hf ⊢
        obtain ⟨f1,⟨L,o,f2,f3,f4,f5⟩,f6⟩ := hf
        refine ⟨f1,⟨L,o,f2,hideAll_none _ (hs L ?_),m.keeps _ _ f4,f5⟩,ih (fun b hb => hs b ?_) f6⟩
        · unfold frs; rw [List.filterMap_cons,f2]; exact List.mem_cons_self
        · unfold frs; rw [List.filterMap_cons,f2]; exact List.mem_cons_of_mem _ hb
    exact key X.stack (fun _ hb => hb) ff
  · obtain ⟨o,eo⟩ := zcO (I.hok b u e)
    exact ⟨o,hideAll_get _ eo fun z => by rw [I.stkFree b z] at e; cases e⟩
end
end DL
end
section
namespace DL
open PySem PySem.Spec PyProof.Rows L2
inductive D where
  | non | bl (b : Bool) | int (i : Int) | str (x : Str)
  | tup (ds : List D) | lst (ds : List D)
  | dic (kvs : List (Key × D))
  | obj (c : Nat) (fs : List (Str × D))
instance : Inhabited D := ⟨.non⟩
inductive Res (α : Type) where
  | ok (a : α) | exc (x : D) | stuck
noncomputable def Res.bind {α β : Type} (r : Res α) (f : α→Res β) : Res β := match r with
  | .ok a => f a
  | .exc x => .exc x
  | .stuck => .stuck
@[simp] theorem bind_ok {α β : Type} (a : α) (f : α→Res β) : (Res.ok a).bind f = f a := rfl
@[simp] theorem bind_exc {α β : Type} (x : D) (f : α→Res β) : (Res.exc x : Res α).bind f = .exc x := rfl
@[simp] theorem bind_stuck {α β : Type} (f : α→Res β) : (Res.stuck : Res α).bind f = .stuck := rfl
noncomputable def fin {α : Type} (r : Res α) (q : α→Prop) (x : D→Prop) : Prop := match r with
  | .ok a => q a
  | .exc e => x e
  | .stuck => False
theorem zac {α : Type} {r : Res α} {q q' : α→Prop} {x : D→Prop} (h : fin r q x) (hq : ∀ a,q a→q' a) : fin r q' x := by
  cases r with
  | ok a => exact hq a h
  | exc e => exact h
  | stuck => exact h
theorem zad {α β : Type} {r : Res α} {f : α→Res β} {q : β→Prop} {x : D→Prop} (h : fin (r.bind f) q x) : fin r (fun a => fin (f a) q x) x := by
  cases r with
  | ok a => exact h
  | exc e => exact h
  | stuck => exact h
noncomputable abbrev GH := Addr→Option D
inductive Scl : V→D→Prop where
  | non : Scl .non .non
  | bl (b : Bool) : Scl (.bl b) (.bl b)
  | int (i : Int) : Scl (.int i) (.int i)
  | str (x : Str) : Scl (.str x) (.str x)
inductive KC (K : PySem.W.Frag) (a : Addr) : D→Prop where
  | lst {xs : List V} {ds : List D} : SqL K (fun _ => none) a xs→Paired Scl xs ds→KC K a (.lst ds)
  | tup {xs : List V} {ds : List D} : SqT K (fun _ => none) a xs→Paired Scl xs ds→(∃ o,K.lookup a = some o∧o.cls = .type "tuple"∧o.dict = none)→KC K a (.tup ds)
inductive RG (K : PySem.W.Frag) (G : GH) : V→D→Prop where
  | scl {v : V} {d : D} : Scl v d→RG K G v d
  | ref {a : Addr} {d : D} : G a = some d→RG K G (.ref a) d
  | kc {a : Addr} {d : D} : KC K a d→RG K G (.ref a) d
noncomputable abbrev RGs (K : PySem.W.Frag) (G : GH) : List V→List D→Prop := Paired (RG K G)
noncomputable abbrev RKs (K : PySem.W.Frag) (G : GH) : List (Key × V)→List (Key × D)→Prop := Paired fun p q => p.1 = q.1∧RG K G p.2 q.2
noncomputable abbrev xD (nm : Str) (ds : List (Str × D)) : D := .obj 0 (("__class__",.str nm)::ds)
noncomputable def XN (K : PySem.W.Frag) (nm : Str) (C : Addr) : Prop := ∃ o cd,K.lookup C = some o∧o.data = Data.cls cd∧cd.name = nm
noncomputable def XcO (a C : Addr) (od : Option Addr) : Heap→Prop := fun h => ∃ oe vs,h.get? a = some oe∧oe.cls = .ref C∧(∀ dx,od = some dx→oe.dict = some dx)∧oe.data = .fields vs
noncomputable def XF (G : GH) (od : Option Addr) (ds : List (Str × D)) : Prop := match od with
  | none => ds = []
  | some dx => G dx = some (.obj 1 ds)
theorem XF.mono {G G' : GH} {od : Option Addr} {ds : List (Str × D)} (h : XF G od ds) (ge : ∀ a d,G a = some d→G' a = some d) : XF G' od ds := by
  cases od with
  | none => exact h
  | some dx => exact ge _ _ h
noncomputable abbrev RFs (K : PySem.W.Frag) (G : GH) : List (Str × V)→List (Str × D)→Prop := Paired fun p q => p.1 = q.1∧RG K G p.2 q.2
inductive OB (K : PySem.W.Frag) (G : GH) (H : Hp) (a : Addr) : D→Prop where
  | lst {xs : List V} {ds : List D} : Rd H a (.lst xs)→RGs K G xs ds→OB K G H a (.lst ds)
  | tup {xs : List V} {ds : List D} : Rd H a (.tup xs)→RGs K G xs ds→OB K G H a (.tup ds)
  | dic {ob : Obj} {ps : List (Key × V)} {kvs : List (Key × D)} : H a = some (.frz ob (.dK ps))→RKs K G ps kvs→OB K G H a (.dic kvs)
  | exc {nm : Str} {C : Addr} {od : Option Addr} {ds : List (Str × D)} : H a = some (.ext (XcO a C od))→XN K nm C→XF G od ds→OB K G H a (xD nm ds)
  | fld {fs : List (Str × V)} {ds : List (Str × D)} : H a = some (.xd fs)→RFs K G fs ds→OB K G H a (.obj 1 ds)
noncomputable def GOk (K : PySem.W.Frag) (G : GH) (H : Hp) : Prop := ∀ a d,G a = some d→OB K G H a d
inductive OwnO (K : PySem.W.Frag) (G : GH) (H : Hp) (a : Addr) : D→Prop where
  | lst {xs : List V} {ds : List D} : H a = some (.lst xs)→RGs K G xs ds→OwnO K G H a (.lst ds)
  | dic {ps : List (Key × V)} {kvs : List (Key × D)} : H a = some (.dK ps)→RKs K G ps kvs→OwnO K G H a (.dic kvs)
structure Own (K : PySem.W.Frag) (G : GH) (H : Hp) (a : Addr) (d : D) : Prop where
  un : G a = none
  ob : OwnO K G H a d
structure Grow (K : PySem.W.Frag) (G : GH) (H : Hp) (G' : GH) (H' : Hp) : Prop where
  ok : GOk K G' H'
  he : ∀ a o,H a = some o→H' a = some o
  ge : ∀ a d,G a = some d→G' a = some d
  gf : ∀ a,H a≠none→G' a = G a
section
variable {K : PySem.W.Frag} {G G' G1 G2 : GH} {H H' H1 H2 : Hp} {a p : Addr} {d : D} {v : V}
theorem Rd.mono {u : HO} (h : Rd H a u) (he : ∀ a o,H a = some o→H' a = some o) : Rd H' a u := by
  rcases h with h | ⟨o,h⟩
  · exact .inl (he _ _ h)
  · exact .inr ⟨o,he _ _ h⟩
theorem Rd.isS {u : HO} (h : Rd H a u) : H a≠none := by
  rcases h with h | ⟨o,h⟩ <;> rw [h] <;> simp
theorem RG.mono (h : RG K G v d) (ge : ∀ a d,G a = some d→G' a = some d) : RG K G' v d := by
  cases h with
  | scl s => exact .scl s
  | ref e => exact .ref (ge _ _ e)
  | kc k => exact .kc k
theorem RGs.mono {xs : List V} {ds : List D} (h : RGs K G xs ds) (ge : ∀ a d,G a = some d→G' a = some d) : RGs K G' xs ds := Paired.mono (fun _ _ r => r.mono ge) h
theorem RKs.mono {xs : List (Key × V)} {ds : List (Key × D)} (h : RKs K G xs ds) (ge : ∀ a d,G a = some d→G' a = some d) : RKs K G' xs ds := Paired.mono (fun _ _ r => ⟨r.1,r.2.mono ge⟩) h
theorem OB.mono (h : OB K G H a d) (ge : ∀ a d,G a = some d→G' a = some d) (he : ∀ o,H a = some o→H' a = some o) : OB K G' H' a d := by
  have rd : ∀ {u : HO},Rd H a u→Rd H' a u := fun r => by
    rcases r with r | ⟨o,r⟩
    · exact .inl (he _ r)
    · exact .inr ⟨o,he _ r⟩
  cases h with
  | lst r s => exact .lst (rd r) (s.mono ge)
  | tup r s => exact .tup (rd r) (s.mono ge)
  | dic r s => exact .dic (he _ r) (RKs.mono s ge)
  | exc r n f => exact .exc (he _ r) n (f.mono ge)
  | fld r s => exact .fld (he _ r) (Paired.mono (fun _ _ r => ⟨r.1,r.2.mono ge⟩) s)
theorem OB.isS (h : OB K G H a d) : H a≠none := by
  cases h with
  | lst r s => exact Rd.isS r
  | tup r s => exact Rd.isS r
  | dic r s => rw [r]; simp
  | exc r n f => rw [r]; simp
  | fld r s => rw [r]; simp
theorem GOk.isN (g : GOk K G H) (h : H p = none) : G p = none := by
  cases e : G p with
  | none => rfl
  | some d => exact absurd h (g p d e).isS
theorem OwnO.isS (h : OwnO K G H a d) : H a≠none := by
  cases h with
  | lst r s => rw [r]; simp
  | dic r s => rw [r]; simp
theorem OwnO.mono (h : OwnO K G H a d) (ge : ∀ a d,G a = some d→G' a = some d) (he : ∀ o,H a = some o→H' a = some o) : OwnO K G' H' a d := by
  cases h with
  | lst r s => exact .lst (he _ r) (s.mono ge)
  | dic r s => exact .dic (he _ r) (RKs.mono s ge)
theorem Own.mono (h : Own K G H a d) (w : Grow K G H G' H') : Own K G' H' a d :=
  ⟨by rw [w.gf a h.ob.isS]; exact h.un,h.ob.mono w.ge fun o e => w.he _ _ e⟩
noncomputable def fz (H : Hp) (a : Addr) (ob : Obj) : Hp := match H a with
  | some (.dK ps) => upd H a (.frz ob (.dK ps))
  | _ => H
theorem zdR {b : Addr} {ob : Obj} (h : b≠a) : fz H a ob b = H b := by
  unfold fz
  cases e : H a with
  | none => rfl
  | some u => cases u <;> first | rfl | exact zaa h
theorem zhl {xs : List V} {ob : Obj} (h : H a = some (.lst xs)) : fz H a ob = H := by
  unfold fz
  rw [h]
theorem zhm {ps : List (Key × V)} {ob : Obj} (h : H a = some (.dK ps)) : fz H a ob a = some (.frz ob (.dK ps)) := by
  unfold fz
  rw [h]; exact zab
theorem OwnO.fast (h : OwnO K G H a d) (ob : Obj) : OB K G (fz H a ob) a d := by
  cases h with
  | lst r s => rw [zhl r]; exact .lst (.inl r) s
  | dic r s => exact .dic (zhm r) s
theorem GOk.fast (g : GOk K G H) (hn : G a = none) (ob : Obj) : GOk K G (fz H a ob) := fun b d e => by
  have hb : b≠a := by rintro rfl; rw [hn] at e; cases e
  exact (g b d e).mono (fun _ _ z => z) fun o z => by rw [zdR hb]; exact z
theorem Grow.refl (g : GOk K G H) : Grow K G H G H := ⟨g,fun _ _ e => e,fun _ _ e => e,fun _ _ => rfl⟩
theorem Grow.trans (x : Grow K G H G1 H1) (y : Grow K G1 H1 G2 H2) : Grow K G H G2 H2 :=
  ⟨y.ok,fun a o e => y.he _ _ (x.he _ _ e),fun a d e => y.ge _ _ (x.ge _ _ e),fun a h => by
    have h1 : H1 a≠Option.none := by
      cases e : H a with
      | none => exact absurd e h
      | some o => rw [x.he _ _ e]; simp
    rw [y.gf a h1,x.gf a h]⟩
noncomputable def gset (G : GH) (a : Addr) (d : D) : GH := fun b => if b = a then some d else G b
theorem zag : gset G a d a = some d := if_pos rfl
theorem zap {b : Addr} (h : b≠a) : gset G a d b = G b := if_neg h
theorem zan (hn : G a = none) : ∀ b e,G b = some e→gset G a d b = some e := fun b e h => by
  have : b≠a := by rintro rfl; rw [hn] at h; cases h
  rw [zap this]; exact h
theorem GOk.gset (g : GOk K G H) (hn : G a = none) (o : OB K G H a d) : GOk K (gset G a d) H := fun b e h => by
  by_cases hb : b = a
  · subst hb; rw [zag] at h; cases h
    exact o.mono (zan hn) fun _ q => q
  · rw [zap hb] at h
    exact (g b e h).mono (zan hn) fun _ q => q
theorem zdl (hn : H p = none) {o : HO} : ∀ a u,H a = some u→upd H p o a = some u := fun a u e => by
  rw [zaa (zat e hn)]; exact e
theorem Grow.new (g : GOk K G H) (hn : H p = none) (o : HO) : Grow K G H G (upd H p o) :=
  ⟨fun a d e => (g a d e).mono (fun _ _ q => q) fun u q => zdl hn _ _ q,fun a u e => zdl hn _ _ e,fun _ _ e => e,fun _ _ => rfl⟩
theorem Grow.newF (g : GOk K G H) (hn : H p = none) {o : HO} (ob : OB K G (upd H p o) p d) : Grow K G H (gset G p d) (upd H p o) := by
  have w := Grow.new g hn o
  have gn := g.isN hn
  exact ⟨w.ok.gset gn ob,w.he,fun a e h => zan gn a e h,fun a h => zap (by rintro rfl; exact h hn)⟩
theorem Grow.frz (w : Grow K G H G' H') (hn : H a = none) (o : Own K G' H' a d) (ob : Obj) : Grow K G H (gset G' a d) (fz H' a ob) :=
  ⟨(w.ok.fast o.un ob).gset o.un (o.ob.fast ob),fun b u e => by rw [zdR (by rintro rfl; rw [hn] at e; cases e)]; exact w.he b u e,fun b e h => zan o.un b e (w.ge b e h),fun b h => by rw [zap (by rintro rfl; exact h hn)]; exact w.gf b h⟩
theorem RG.lst {ds : List D} (g : GOk K G H) (h : RG K G v (.lst ds)) : ∃ a xs,v = .ref a∧SqL K H a xs∧RGs K G xs ds := by
  cases h with
  | scl s => cases s
  | ref e =>
    cases g _ _ e with
    | lst r s => exact ⟨_,_,rfl,.inl r,s⟩
  | kc k =>
    cases k with
    | lst r s =>
      refine ⟨_,_,rfl,?_,Paired.mono (fun _ _ z => .scl z) s⟩
      rcases r with (r | ⟨o,r⟩) | r
      · cases r
      · cases r
      · exact .inr r
theorem RG.tup {ds : List D} (g : GOk K G H) (h : RG K G v (.tup ds)) : ∃ a xs,v = .ref a∧SqT K H a xs∧RGs K G xs ds := by
  cases h with
  | scl s => cases s
  | ref e =>
    cases g _ _ e with
    | tup r s => exact ⟨_,_,rfl,.inl r,s⟩
  | kc k =>
    cases k with
    | tup r s _ =>
      refine ⟨_,_,rfl,?_,Paired.mono (fun _ _ z => .scl z) s⟩
      rcases r with (r | ⟨o,r⟩) | r
      · cases r
      · cases r
      · exact .inr r
theorem RG.dic {kvs : List (Key × D)} (g : GOk K G H) (h : RG K G v (.dic kvs)) : ∃ a ps,v = .ref a∧Rd H a (.dK ps)∧RKs K G ps kvs := by
  cases h with
  | scl s => cases s
  | ref e =>
    cases g _ _ e with
    | dic r s => exact ⟨_,_,rfl,.inr ⟨_,r⟩,s⟩
  | kc k => cases k
theorem RG.int {i : Int} (g : GOk K G H) (h : RG K G v (.int i)) : v = .int i := by
  cases h with
  | scl s => cases s; rfl
  | ref e => cases g _ _ e
  | kc k => cases k
theorem RG.str {x : Str} (g : GOk K G H) (h : RG K G v (.str x)) : v = .str x := by
  cases h with
  | scl s => cases s; rfl
  | ref e => cases g _ _ e
  | kc k => cases k
theorem RG.bl {b : Bool} (g : GOk K G H) (h : RG K G v (.bl b)) : v = .bl b := by
  cases h with
  | scl s => cases s; rfl
  | ref e => cases g _ _ e
  | kc k => cases k
theorem RG.non (g : GOk K G H) (h : RG K G v .non) : v = .non := by
  cases h with
  | scl s => cases s; rfl
  | ref e => cases g _ _ e
  | kc k => cases k
noncomputable def RB (K : PySem.W.Frag) (G : GH) (H : Hp) (v : V) (d : D) : Prop := RG K G v d∨∃ a,v = .ref a∧Own K G H a d
theorem RG.rb (h : RG K G v d) : RB K G H v d := .inl h
theorem RB.mono (h : RB K G H v d) (w : Grow K G H G' H') : RB K G' H' v d := by
  rcases h with h | ⟨a,e,h⟩
  · exact .inl (h.mono w.ge)
  · exact .inr ⟨a,e,h.mono w⟩
theorem RB.lst {ds : List D} (g : GOk K G H) (h : RB K G H v (.lst ds)) : ∃ a xs,v = .ref a∧SqL K H a xs∧RGs K G xs ds := by
  rcases h with h | ⟨a,e,h⟩
  · exact h.lst g
  · cases h.ob with
    | lst r s => exact ⟨a,_,e,SqL.of r,s⟩
theorem RB.tup {ds : List D} (g : GOk K G H) (h : RB K G H v (.tup ds)) : ∃ a xs,v = .ref a∧SqT K H a xs∧RGs K G xs ds := by
  rcases h with h | ⟨a,e,h⟩
  · exact h.tup g
  · cases h.ob
theorem RB.dic {kvs : List (Key × D)} (g : GOk K G H) (h : RB K G H v (.dic kvs)) : ∃ a ps,v = .ref a∧Rd H a (.dK ps)∧RKs K G ps kvs := by
  rcases h with h | ⟨a,e,h⟩
  · exact h.dic g
  · cases h.ob with
    | dic r s => exact ⟨a,_,e,.inl r,s⟩
theorem RB.int {i : Int} (g : GOk K G H) (h : RB K G H v (.int i)) : v = .int i := by
  rcases h with h | ⟨a,e,h⟩
  · exact h.int g
  · cases h.ob
theorem RB.str {x : Str} (g : GOk K G H) (h : RB K G H v (.str x)) : v = .str x := by
  rcases h with h | ⟨a,e,h⟩
  · exact h.str g
  · cases h.ob
theorem RB.bl {b : Bool} (g : GOk K G H) (h : RB K G H v (.bl b)) : v = .bl b := by
  rcases h with h | ⟨a,e,h⟩
  · exact h.bl g
  · cases h.ob
theorem RB.non (g : GOk K G H) (h : RB K G H v .non) : v = .non := by
  rcases h with h | ⟨a,e,h⟩
  · exact h.non g
  · cases h.ob
theorem Paired.get {α β : Type} {F : α→β→Prop} : ∀ {l : List α} {r : List β} {i : Nat} {b : β},Paired F l r→r[i]? = some b→∃ a,l[i]? = some a∧F a b
  | _,_,_,_,.nil,e => by simp at e
  | _,_,0,_,.cons h _,e => by simp at e; subst e; exact ⟨_,rfl,h⟩
  | _,_,i + 1,b,.cons _ t,e => by
    obtain ⟨a,h1,h2⟩ := Paired.get (i := i) t (by simpa using e)
    exact ⟨a,by simpa using h1,h2⟩
theorem Paired.app {α β : Type} {F : α→β→Prop} {l l' : List α} {r r' : List β} (h : Paired F l r) (q : Paired F l' r') : Paired F (l++l') (r++r') := by
  induction h with
  | nil => exact q
  | cons h _ ih => exact .cons h ih
theorem Paired.tk {α β : Type} {F : α→β→Prop} {l : List α} {r : List β} (n : Nat) (h : Paired F l r) : Paired F (l.take n) (r.take n) := by
  induction h generalizing n with
  | nil => cases n <;> exact .nil
  | cons h _ ih => cases n with
    | zero => exact .nil
    | succ n => exact .cons h (ih n)
theorem Paired.dr {α β : Type} {F : α→β→Prop} {l : List α} {r : List β} (n : Nat) (h : Paired F l r) : Paired F (l.drop n) (r.drop n) := by
  induction h generalizing n with
  | nil => cases n <;> exact .nil
  | cons h t ih => cases n with
    | zero => exact .cons h t
    | succ n => exact ih n
theorem Paired.st {α β : Type} {F : α→β→Prop} {a : α} {b : β} (h : F a b) {l : List α} {r : List β} (n : Nat) (p : Paired F l r) : Paired F (l.set n a) (r.set n b) := by
  induction p generalizing n with
  | nil => exact .nil
  | cons q t ih => cases n with
    | zero => exact .cons h t
    | succ n => exact .cons q (ih n)
theorem Paired.er {α β : Type} {F : α→β→Prop} {l : List α} {r : List β} (n : Nat) (p : Paired F l r) : Paired F (l.eraseIdx n) (r.eraseIdx n) := by
  induction p generalizing n with
  | nil => exact .nil
  | cons q t ih => cases n with
    | zero => exact t
    | succ n => exact .cons q (ih n)
end
inductive Md where
  | sh | ow | bw
  deriving DecidableEq
noncomputable abbrev Rho := List (Option D)
structure GE where
  gh : GH
  h0 : Hp
  hd : Nat→Option (Option V × Option D)
noncomputable def Bw (K : PySem.W.Frag) (h0 : Hp) (G : GH) (H : Hp) (v : V) (d : D) : Prop := RG K G v d∨∃ a,v = V.ref a∧Own K G H a d∧h0 a≠none
theorem Bw.grow {K : PySem.W.Frag} {h0 : Hp} {G G' : GH} {H H' : Hp} {v : V} {d : D} (h : Bw K h0 G H v d) (w : Grow K G H G' H') : Bw K h0 G' H' v d := by
  rcases h with h | ⟨a,e,h1,h2⟩
  · exact .inl (h.mono w.ge)
  · exact .inr ⟨a,e,h1.mono w,h2⟩
theorem Bw.rb {K : PySem.W.Frag} {h0 : Hp} {G : GH} {H : Hp} {v : V} {d : D} (h : Bw K h0 G H v d) : RB K G H v d := by
  rcases h with h | ⟨a,e,h1,h2⟩
  · exact .inl h
  · exact .inr ⟨a,e,h1⟩
noncomputable def Lk (r : Rho) (st : L2.St) (i : Nat) (o : Option V × Option D) : Prop := st[i]? = some o.1∧∀ d,r[i]? = some (some d)→o.2 = some d
structure SI (X : Cx) (g : GE) (m : List Md) (r : Rho) (G : GH) (st : L2.St) (H : Hp) : Prop where
  gok : GOk X.K G H
  old : ∀ a o,g.h0 a = some o→H a = some o
  ge : ∀ a d,g.gh a = some d→G a = some d
  gf : ∀ a,g.h0 a≠none→G a = g.gh a
  lm : m.length = st.length
  lr : r.length = st.length
  sh : ∀ (i : Nat) d,r[i]? = some (some d)→m[i]? = some .sh→∃ v,st[i]? = some (some v)∧RG X.K G v d
  ow : ∀ (i : Nat) d,r[i]? = some (some d)→m[i]? = some .ow→∃ a,st[i]? = some (some (V.ref a))∧Own X.K G H a d∧g.h0 a = none
  bw : ∀ (i : Nat) d,r[i]? = some (some d)→m[i]? = some .bw→∃ v,st[i]? = some (some v)∧Bw X.K g.h0 G H v d
  dis : ∀ (i j : Nat) a d e,i≠j→r[i]? = some (some d)→r[j]? = some (some e)→m[i]? = some .ow→m[j]? = some .ow→st[i]? = some (some (V.ref a))→st[j]? = some (some (V.ref a))→False
  lk : ∀ (i : Nat) o,g.hd i = some o→m[i]? = some .bw→Lk r st i o
section
variable {X : Cx} {g : GE} {m : List Md} {r : Rho} {G G' : GH} {st : L2.St} {H H' : Hp}
theorem SI.grow (s : SI X g m r G st H) (w : Grow X.K G H G' H') : SI X g m r G' st H' where
  gok := w.ok
  old := fun a o e => w.he _ _ (s.old a o e)
  ge := fun a d e => w.ge _ _ (s.ge a d e)
  gf := fun a h => by
    have h1 : H a≠none := by
      cases e : g.h0 a with
      | none => exact absurd e h
      | some o => rw [s.old _ _ e]; simp
    rw [w.gf a h1,s.gf a h]
  lm := s.lm
  lr := s.lr
  sh := fun i d h1 h2 => by obtain ⟨v,h3,h4⟩ := s.sh i d h1 h2; exact ⟨v,h3,h4.mono w.ge⟩
  ow := fun i d h1 h2 => by obtain ⟨a,h3,h4,h5⟩ := s.ow i d h1 h2; exact ⟨a,h3,h4.mono w,h5⟩
  bw := fun i d h1 h2 => by obtain ⟨v,h3,h4⟩ := s.bw i d h1 h2; exact ⟨v,h3,h4.grow w⟩
  dis := s.dis
  lk := s.lk
theorem SI.grown (s : SI X g m r G st H) : Grow X.K g.gh g.h0 G H := ⟨s.gok,s.old,s.ge,s.gf⟩
theorem SI.frz (s : SI X g m r G st H) (i : Nat) (hi : m[i]? = some .ow) : (∃ G',(∀ a d,G a = some d→G' a = some d)∧SI X g (m.set i .sh) r G' st H)∨∃ a,∀ ob,∃ G',(∀ a d,G a = some d→G' a = some d)∧SI X g (m.set i .sh) r G' st (fz H a ob) := by
  have hlt : i < m.length := (List.getElem?_eq_some_iff.mp hi).1
  by_cases hb : ∃ d,r[i]? = some (some d)
  · obtain ⟨d,hd⟩ := hb
    obtain ⟨a,h1,h2,h3⟩ := s.ow i d hd hi
    refine .inr ⟨a,fun ob => ⟨gset G a d,zan h2.un,(s.gok.fast h2.un ob).gset h2.un (h2.ob.fast ob),fun b o e => by rw [zdR (by rintro rfl; rw [h3] at e; cases e)]; exact s.old b o e,fun b e h => zan h2.un b e (s.ge b e h),fun b h => ?_,by simpa using s.lm,s.lr,?_,?_,?_,?_,fun j o hj hm => ?_⟩⟩
    · rw [zap (by rintro rfl; exact h h3)]; exact s.gf b h
    · intro j e hj hm
      by_cases hij : i = j
      · subst hij
        rw [hd] at hj; cases hj
        exact ⟨_,h1,.ref zag⟩
      · rw [List.getElem?_set_ne hij] at hm
        obtain ⟨v,q1,q2⟩ := s.sh j e hj hm
        exact ⟨v,q1,q2.mono (zan h2.un)⟩
    · intro j e hj hm
      by_cases hij : i = j
      · subst hij
        rw [List.getElem?_set_self hlt] at hm; cases hm
      · rw [List.getElem?_set_ne hij] at hm
        obtain ⟨b,q1,q2,q3⟩ := s.ow j e hj hm
        have hba : b≠a := by
          rintro rfl
          exact s.dis i j b d e hij hd hj hi hm h1 q1
        exact ⟨b,q1,⟨by rw [zap hba]; exact q2.un,q2.ob.mono (zan h2.un) fun _ z => by rw [zdR hba]; exact z⟩,q3⟩
    · intro j e hj hm
      by_cases hij : i = j
      · subst hij
        rw [List.getElem?_set_self hlt] at hm; cases hm
      · rw [List.getElem?_set_ne hij] at hm
        obtain ⟨v,q1,q2⟩ := s.bw j e hj hm
        refine ⟨v,q1,?_⟩
        rcases q2 with q2 | ⟨b,rfl,q2,q3⟩
        · exact .inl (q2.mono (zan h2.un))
        · have hba : b≠a := by rintro rfl; exact q3 h3
          exact .inr ⟨b,rfl,⟨by rw [zap hba]; exact q2.un,q2.ob.mono (zan h2.un) fun _ z => by rw [zdR hba]; exact z⟩,q3⟩
    · intro j k b e e' hjk hj hk hm hm' q1 q2
      have hij : i≠j := by
        rintro rfl
        rw [List.getElem?_set_self hlt] at hm; cases hm
      have hik : i≠k := by
        rintro rfl
        rw [List.getElem?_set_self hlt] at hm'; cases hm'
      rw [List.getElem?_set_ne hij] at hm
      rw [List.getElem?_set_ne hik] at hm'
      exact s.dis j k b e e' hjk hj hk hm hm' q1 q2
    · refine s.lk j o hj ?_
      by_cases hij : i = j
      · subst hij; rw [List.getElem?_set_self hlt] at hm; cases hm
      · rw [List.getElem?_set_ne hij] at hm; exact hm
  · refine .inl ⟨G,fun _ _ z => z,s.gok,s.old,s.ge,s.gf,by simpa using s.lm,s.lr,?_,?_,?_,?_,fun j o hj hm => ?_⟩
    · intro j e hj hm
      have hij : i≠j := by rintro rfl; exact hb ⟨e,hj⟩
      rw [List.getElem?_set_ne hij] at hm
      exact s.sh j e hj hm
    · intro j e hj hm
      have hij : i≠j := by rintro rfl; exact hb ⟨e,hj⟩
      rw [List.getElem?_set_ne hij] at hm
      exact s.ow j e hj hm
    · intro j e hj hm
      have hij : i≠j := by rintro rfl; exact hb ⟨e,hj⟩
      rw [List.getElem?_set_ne hij] at hm
      exact s.bw j e hj hm
    · intro j k b e e' hjk hj hk hm hm' q1 q2
      have hij : i≠j := by rintro rfl; exact hb ⟨e,hj⟩
      have hik : i≠k := by rintro rfl; exact hb ⟨e',hk⟩
      rw [List.getElem?_set_ne hij] at hm
      rw [List.getElem?_set_ne hik] at hm'
      exact s.dis j k b e e' hjk hj hk hm hm' q1 q2
    · refine s.lk j o hj ?_
      by_cases hij : i = j
      · subst hij; rw [List.getElem?_set_self hlt] at hm; cases hm
      · rw [List.getElem?_set_ne hij] at hm; exact hm
end
end DL
end
section
namespace DL
open PySem PySem.Spec PyProof.Rows L2
theorem PE.imp {X : Cx} {e : Expr} {t t' : TE} (h : PE X e t) (i : ∀ σ H Q,t' σ H Q→t σ H Q) : PE X e t' := fun pins s σ H Q I q => h pins s σ H Q I (i σ H Q q)
theorem PT.imp {X : Cx} {e : Expr} {t t' : TT} (h : PT X e t) (i : ∀ σ H Q,t' σ H Q→t σ H Q) : PT X e t' := fun pins s σ H Q I q => h pins s σ H Q I (i σ H Q q)
theorem PW.imp {X : Cx} {e : Expr} {t t' : TT} (h : PW X e t) (i : ∀ σ H Q,t' σ H Q→t σ H Q) : PW X e t' := fun whole pins s σ H Q I q => h whole pins s σ H Q I (i σ H Q q)
theorem PA.imp {X : Cx} {e : List Expr} {t t' : TA} (h : PA X e t) (i : ∀ σ H Q,t' σ H Q→t σ H Q) : PA X e t' := fun pos pins s σ H Q I q => h pos pins s σ H Q I (i σ H Q q)
theorem PS.imp {X : Cx} {e : Stmt} {t t' : TS} (h : PS X e t) (i : ∀ D σ H,t' D σ H→t D σ H) : PS X e t' := fun pins s σ H D I q => h pins s σ H D I (i D σ H q)
theorem PSs.imp {X : Cx} {e : List Stmt} {t t' : TS} (h : PSs X e t) (i : ∀ D σ H,t' D σ H→t D σ H) : PSs X e t' := fun pins s σ H D I q => h pins s σ H D I (i D σ H q)
noncomputable def ExV (X : Cx) (σ : L2.St) (G : GH) (H' : Hp) (e : Value) (x : D) (s' : Shared) : Prop :=
  ∃ pins s H1 a C od nm ds,e = .ref a∧x = xD nm ds∧XN X.K nm C∧XF G od ds∧Inv X pins σ H1 s∧Fly X.prog X.w X.stack H1 s H' a (.ref C) od s'
noncomputable def XW (X : Cx) (σ : L2.St) (G : GH) (H : Hp) (x : D) : Prop := ∀ pins e s' G' H',Grow X.K G H G' H'→Inv X pins σ H' s'→ExV X σ G' H' e x s'→X.xe e s'
theorem XW.grow {X : Cx} {σ : L2.St} {G G1 : GH} {H H1 : Hp} {x : D} (h : XW X σ G H x) (w : Grow X.K G H G1 H1) : XW X σ G1 H1 x := fun pins e s' G' H' w' I q => h pins e s' G' H' (w.trans w') I q
noncomputable abbrev FE := Rho→Res D
noncomputable def tE (X : Cx) (g : GE) (m : List Md) (f : FE) : TE := fun σ H Q => ∃ r G,SI X g m r G σ H∧fin (f r) (fun d => ∀ v G' H',Grow X.K G H G' H'→RG X.K G' v d→Q v H') (XW X σ G H)
noncomputable def tB (X : Cx) (g : GE) (m : List Md) (f : FE) : TE := fun σ H Q => ∃ r G,SI X g m r G σ H∧fin (f r) (fun d => ∀ v G' H',Grow X.K G H G' H'→RB X.K G' H' v d→Q v H') (XW X σ G H)
noncomputable def tO (X : Cx) (g : GE) (m : List Md) (f : FE) : TE := fun σ H Q => ∃ r G,SI X g m r G σ H∧fin (f r) (fun d => ∀ a G' H',Grow X.K G H G' H'→H a = none→Own X.K G' H' a d→Q (.ref a) H') (XW X σ G H)
noncomputable def tQ (X : Cx) (g : GE) (m : List Md) (f : Rho→Res Bool) : TT := fun σ H Q => ∃ r G,SI X g m r G σ H∧fin (f r) (fun b => ∀ G' H',Grow X.K G H G' H'→Q b H') (XW X σ G H)
noncomputable def tL (X : Cx) (g : GE) (m : List Md) (f : Rho→Res (List D)) : TA := fun σ H Q => ∃ r G,SI X g m r G σ H∧fin (f r) (fun ds => ∀ vs G' H',Grow X.K G H G' H'→RGs X.K G' vs ds→Q vs H') (XW X σ G H)
noncomputable def tLB (X : Cx) (g : GE) (m : List Md) (f : Rho→Res (List D)) : TA := fun σ H Q => ∃ r G,SI X g m r G σ H∧fin (f r) (fun ds => ∀ vs G' H',Grow X.K G H G' H'→Paired (RB X.K G' H') vs ds→Q vs H') (XW X σ G H)
noncomputable def SE (X : Cx) (g : GE) (m : List Md) (e : Expr) (f : FE) : Prop := PE X e (tE X g m f)
noncomputable def SB (X : Cx) (g : GE) (m : List Md) (e : Expr) (f : FE) : Prop := PE X e (tB X g m f)
noncomputable def SO (X : Cx) (g : GE) (m : List Md) (e : Expr) (f : FE) : Prop := PE X e (tO X g m f)
noncomputable def SQ (X : Cx) (g : GE) (m : List Md) (e : Expr) (f : Rho→Res Bool) : Prop := PT X e (tQ X g m f)
noncomputable def SW (X : Cx) (g : GE) (m : List Md) (e : Expr) (f : Rho→Res Bool) : Prop := PW X e (tQ X g m f)
noncomputable def SA (X : Cx) (g : GE) (m : List Md) (es : List Expr) (f : Rho→Res (List D)) : Prop := PA X es (tL X g m f)
noncomputable def SAB (X : Cx) (g : GE) (m : List Md) (es : List Expr) (f : Rho→Res (List D)) : Prop := PA X es (tLB X g m f)
section
variable {X : Cx} {g : GE} {m : List Md} {e a b c : Expr} {f fa fb fc : FE} {pos : Pos}
theorem SE.toB (h : SE X g m e f) : SB X g m e f := PE.imp h fun σ H Q ⟨r,G,si,q⟩ => ⟨r,G,si,zac q fun d k v G' H' w z => k v G' H' w z.rb⟩
theorem Inv.fast {pins : List (Addr × Obj)} {σ : L2.St} {H : Hp} {s : Shared} (I : Inv X pins σ H s) (a : Addr) : ∃ ob,Inv X pins σ (fz H a ob) s := by
  cases e : H a with
  | none => exact ⟨{ cls := .none,data := .fields #[] },by unfold fz; rw [e]; exact I⟩
  | some u =>
    cases u with
    | dK ps =>
      obtain ⟨z1,z2,vs,z3,o,es,ep,z4,z5⟩ := (show zaz X.prog X.w H s.heap a (.dK ps) from I.hok a _ e)
      have ef : fz H a o = upd H a (.frz o (.dK ps)) := by unfold fz; rw [e]
      refine ⟨o,?_⟩
      rw [ef]
      exact I.write (t' := s.toks) (h' := s.heap) (x := a) (e := a) (by rw [e]; exact trivial) (.inl rfl) (fun b u _ q => q) ⟨o,z4⟩ (show zaz X.prog X.w _ s.heap a (.frz o (.dK ps)) from ⟨z4,z1,z2,vs,z3,o,es,ep,z4,z5⟩)
    | _ => exact ⟨{ cls := .none,data := .fields #[] },by unfold fz; rw [e]; exact I⟩
theorem SO.toE (h : SO X g m e f) : SE X g m e f := by
  intro pins s σ H Q I ⟨r,G,si,q⟩
  refine thn (h pins s σ H (fun v H' => ∃ a,v = .ref a∧∀ ob,Q v (fz H' a ob)) I ⟨r,G,si,zac q fun d k a G' H' w hn o => ⟨a,rfl,fun ob => k _ _ _ (w.frz hn o ob) (.ref zag)⟩⟩) fun u s' ⟨v,H',I',rv,a,_,z⟩ => ?_
  obtain ⟨ob,I2⟩ := Inv.fast I' a
  exact ⟨v,_,I2,rv,z ob⟩
theorem SO.toB (h : SO X g m e f) : SB X g m e f := h.toE.toB
theorem SE.eq {f' : FE} (h : SE X g m e f) (q : ∀ r,f' r = f r) : SE X g m e f' := by
  have : f' = f := funext q
  rw [this]; exact h
theorem zct {v : V} {d : D} (h : PE X e (tC v)) (s : Scl v d) : SE X g m e fun _ => .ok d :=
  PE.imp h fun σ H Q ⟨r,G,si,q⟩ => q v G H (Grow.refl si.gok) (.scl s)
theorem zal {i : Int} {j} : SE X g m (.Constant (.int i) j pos) fun _ => .ok (.int i) := zct zgM (.int i)
theorem s_bl {i : Bool} {j} : SE X g m (.Constant (.bool i) j pos) fun _ => .ok (.bl i) := zct zhX (.bl i)
theorem zff {i : Str} {j} : SE X g m (.Constant (.str i) j pos) fun _ => .ok (.str i) := zct zdx (.str i)
noncomputable def getV (r : Rho) (i : Nat) : Res D := match r[i]? with
  | some (some d) => .ok d
  | _ => .stuck
theorem zcX {r : Rho} {i : Nat} {q : D→Prop} {x : D→Prop} (h : fin (getV r i) q x) : ∃ d,r[i]? = some (some d)∧q d := by
  unfold getV at h
  split at h
  · rename_i d e; exact ⟨d,e,h⟩
  · exact h.elim
theorem zhM (i : Nat) {x : Str} (hm : m[i]? = some .sh) (hN : X.N[i]? = some x) (hv : Vis X.env.scope x) (hd : (x == ("__debug__" : Str)) = false := by decide) (hcd : (x == ("__classdict__" : Str)) = false := by decide) :
    SE X g m (.Name x pos) fun r => getV r i := by
  refine PE.imp (zao hN hv hd hcd) fun σ H Q ⟨r,G,si,q⟩ => ?_
  obtain ⟨d,e,k⟩ := zcX q
  obtain ⟨v,e1,e2⟩ := si.sh i d e hm
  exact ⟨v,e1,k v G H (Grow.refl si.gok) e2⟩
theorem zgi (i : Nat) {x : Str} (hm : i < m.length) (hN : X.N[i]? = some x) (hv : Vis X.env.scope x) (hd : (x == ("__debug__" : Str)) = false := by decide) (hcd : (x == ("__classdict__" : Str)) = false := by decide) :
    SB X g m (.Name x pos) fun r => getV r i := by
  refine PE.imp (zao hN hv hd hcd) fun σ H Q ⟨r,G,si,q⟩ => ?_
  obtain ⟨d,e,k⟩ := zcX q
  have hm' : m[i]? = some m[i] := List.getElem?_eq_getElem hm
  cases h : m[i] with
  | sh =>
    obtain ⟨v,e1,e2⟩ := si.sh i d e (hm'.trans (by rw [h]))
    exact ⟨v,e1,k v G H (Grow.refl si.gok) e2.rb⟩
  | ow =>
    obtain ⟨v,e1,e2,_⟩ := si.ow i d e (hm'.trans (by rw [h]))
    exact ⟨_,e1,k _ G H (Grow.refl si.gok) (.inr ⟨v,rfl,e2⟩)⟩
  | bw =>
    obtain ⟨v,e1,e2⟩ := si.bw i d e (hm'.trans (by rw [h]))
    exact ⟨_,e1,k _ G H (Grow.refl si.gok) e2.rb⟩
theorem seq2 {β : Type} {k : D→D→Res β} {q : β→Prop} {R : V→V→Hp→Prop} {r : Rho} {G : GH} {σ : L2.St} {H : Hp} (si : SI X g m r G σ H)
    (h : fin ((fa r).bind fun d1 => (fb r).bind fun d2 => k d1 d2) q (XW X σ G H))
    (hk : ∀ d1 d2 v1 v2 G2 H2,Grow X.K G H G2 H2→RB X.K G2 H2 v1 d1→RB X.K G2 H2 v2 d2→fin (k d1 d2) q (XW X σ G H)→R v1 v2 H2) :
    tB X g m fa σ H fun v1 H1 => tB X g m fb σ H1 fun v2 H2 => R v1 v2 H2 := by
  refine ⟨r,G,si,zac (zad h) fun d1 h1 v1 G1 H1 w1 r1 => ⟨r,G1,si.grow w1,?_⟩⟩
  cases e : fb r with
  | ok d2 =>
    rw [e] at h1
    exact fun v2 G2 H2 w2 r2 => hk d1 d2 v1 v2 G2 H2 (w1.trans w2) (r1.mono w2) r2 h1
  | exc x =>
    rw [e] at h1
    exact (show XW X σ G H x from h1).grow w1
  | stuck =>
    rw [e] at h1
    exact h1
noncomputable def opt {α : Type} : Option α→Res α
  | some a => .ok a
  | none => .stuck
@[simp] theorem opt_some {α : Type} (a : α) : opt (some a) = .ok a := rfl
@[simp] theorem opt_none {α : Type} : opt (none : Option α) = .stuck := rfl
theorem zar {α : Type} {o : Option α} {q : α→Prop} {x : D→Prop} (h : fin (opt o) q x) : ∃ a,o = some a∧q a := by
  cases o with
  | none => exact h.elim
  | some a => exact ⟨a,rfl,h⟩
noncomputable def OpD (K : PySem.W.Frag) (r : R2) (k : D→D→Option D) : Prop := ∀ (G : GH) (H : Hp) (v1 v2 : V) (d1 d2 d : D) (Q : VK),GOk K G H→RB K G H v1 d1→RB K G H v2 d2→k d1 d2 = some d →
  (∀ v G' H',Grow K G H G' H'→RG K G' v d→Q v H')→r v1 v2 H Q
noncomputable def f2 (fa fb : FE) (k : D→D→Option D) : FE := fun r => (fa r).bind fun d1 => (fb r).bind fun d2 => opt (k d1 d2)
theorem zfg {R : R2} {k : D→D→Option D} (ho : OpD X.K R k) (h : PE X e (tOp R (tB X g m fa) (tB X g m fb))) : SE X g m e (f2 fa fb k) := by
  refine PE.imp h fun σ H Q ⟨r,G,si,q⟩ => ?_
  refine seq2 si q fun d1 d2 v1 v2 G2 H2 w r1 r2 q2 => ?_
  obtain ⟨d,e,q2⟩ := zar q2
  exact ho G2 H2 v1 v2 d1 d2 d Q w.ok r1 r2 e fun v G' H' w' z => q2 v G' H' (w.trans w') z
theorem zcu {op : Operator} {R : R2} {k : D→D→Option D} (hr : OpR X (binaryOp op) R) (ho : OpD X.K R k) (ha : SB X g m a fa) (hb : SB X g m b fb) : SE X g m (.BinOp a op b pos) (f2 fa fb k) := zfg ho (zhV hr ha hb)
theorem zgp {op : CmpOp} {R : R2} {k : D→D→Option D} (hr : OpR X (compareOp op) R) (ho : OpD X.K R k) (ha : SB X g m a fa) (hb : SB X g m b fb) (hm : behindInMarks op b = false) : SE X g m (.Compare a [op] [b] pos) (f2 fa fb k) := zfg ho (zfs hr ha hb hm)
noncomputable def asB : D→Option Bool
  | .bl b => some b
  | _ => none
noncomputable def zaM (f : FE) : Rho→Res Bool := fun r => (f r).bind fun d => opt (asB d)
theorem zem {op : CmpOp} {R : R2} {k : D→D→Option D} (hr : OpR X (compareOp op) R) (ho : OpD X.K R k) (ha : SB X g m a fa) (hb : SB X g m b fb) (hm : behindInMarks op b = false) : SQ X g m (.Compare a [op] [b] pos) (zaM (f2 fa fb k)) := by
  refine PT.imp (zfl hr ha hb hm) fun σ H Q ⟨r,G,si,q⟩ => ?_
  have e : zaM (f2 fa fb k) r = (fa r).bind fun d1 => (fb r).bind fun d2 => (opt (k d1 d2)).bind fun d => opt (asB d) := by
    unfold zaM f2
    cases fa r with
    | ok d1 => cases fb r <;> rfl
    | exc _ => rfl
    | stuck => rfl
  rw [e] at q
  refine seq2 (R := fun x y H2 => R x y H2 fun x H' => ∃ k,x = V.bl k∧Q k H') si q fun d1 d2 v1 v2 G2 H2 w r1 r2 q3 => ?_
  obtain ⟨d,e,q3⟩ := zar (zad q3)
  obtain ⟨b,eb,q3⟩ := zar q3
  cases d with
  | bl b' =>
    cases eb
    exact ho G2 H2 v1 v2 d1 d2 _ _ w.ok r1 r2 e fun v G' H' w' z => ⟨_,z.bl w'.ok,q3 G' H' (w.trans w')⟩
  | _ => cases eb
end
end DL
end
section
namespace DL
open PySem PySem.Spec PyProof.Rows L2
instance decMul (i j : Int) : Decidable (CMul i j) := by unfold CMul; infer_instance
instance decDiv (i j : Int) : Decidable (CDiv i j) := by unfold CDiv; infer_instance
instance decPow (i j : Int) : Decidable (CPow i j) := by unfold CPow; infer_instance
noncomputable def zde (k : Int→Int→D) : D→D→Option D
  | .int a,.int b => some (k a b)
  | _,_ => none
noncomputable def zcd (C : Int→Int→Prop) [∀ a b,Decidable (C a b)] (k : Int→Int→D) : D→D→Option D
  | .int a,.int b => if C a b then some (k a b) else none
  | _,_ => none
@[simp] theorem ints2_int (k : Int→Int→D) (a b : Int) : zde k (.int a) (.int b) = some (k a b) := rfl
@[simp] theorem intsC_int (C : Int→Int→Prop) [∀ a b,Decidable (C a b)] (k : Int→Int→D) (a b : Int) : zcd C k (.int a) (.int b) = if C a b then some (k a b) else none := rfl
section
variable {K : PySem.W.Frag}
theorem zcw {gv : Int→Int→V} {gd : Int→Int→D} (hs : ∀ i j,Scl (gv i j) (gd i j)) : OpD K (rI0 gv) (zde gd) := by
  intro G H v1 v2 d1 d2 d Q g r1 r2 e q
  unfold zde at e
  split at e
  · cases e
    exact ⟨_,_,r1.int g,r2.int g,q _ G H (Grow.refl g) (.scl (hs _ _))⟩
  · cases e
theorem zbz {C : Int→Int→Prop} [∀ a b,Decidable (C a b)] {gv : Int→Int→V} {gd : Int→Int→D} (hs : ∀ i j,Scl (gv i j) (gd i j)) : OpD K (rI C gv) (zcd C gd) := by
  intro G H v1 v2 d1 d2 d Q g r1 r2 e q
  unfold zcd at e
  split at e
  · split at e
    · rename_i hc
      cases e
      exact ⟨_,_,r1.int g,r2.int g,hc,q _ G H (Grow.refl g) (.scl (hs _ _))⟩
    · cases e
  · cases e
theorem OpD.or {r r' : R2} {k k' : D→D→Option D} (h : OpD K r k) (h' : OpD K r' k') : OpD K (fun x y H Q => r x y H Q∨r' x y H Q) (fun a b => match k a b with | some d => some d | none => k' a b) := by
  intro G H v1 v2 d1 d2 d Q g r1 r2 e q
  cases e1 : k d1 d2 with
  | some d' =>
    simp only [e1] at e
    cases e
    exact .inl (h G H v1 v2 d1 d2 d Q g r1 r2 e1 q)
  | none =>
    simp only [e1] at e
    exact .inr (h' G H v1 v2 d1 d2 d Q g r1 r2 e q)
end
noncomputable abbrev subI : D→D→Option D := zde fun a b => .int (a - b)
noncomputable abbrev mulI : D→D→Option D := zcd CMul fun a b => .int (a * b)
noncomputable abbrev zdV : D→D→Option D := zcd CDiv fun a b => .int (a / b)
noncomputable abbrev modI : D→D→Option D := zcd (fun _ b => 0 < b) fun a b => .int (a % b)
noncomputable abbrev powI : D→D→Option D := zcd CPow fun a b => .int (a ^ b.toNat)
noncomputable abbrev ltI : D→D→Option D := zde fun a b => .bl (decide (a < b))
noncomputable abbrev gtI : D→D→Option D := zde fun a b => .bl (decide (b < a))
section
variable {X : Cx} {g : GE} {m : List Md} {e a b c : Expr} {f fa fb fc : FE} {pos : Pos}
theorem zhN (ha : SB X g m a fa) (hb : SB X g m b fb) : SE X g m (.BinOp a .Sub b pos) (f2 fa fb subI) := zcu zgQ (zcw fun _ _ => .int _) ha hb
theorem zcs (ha : SB X g m a fa) (hb : SB X g m b fb) : SE X g m (.BinOp a .Mult b pos) (f2 fa fb mulI) := zcu zgS (zbz fun _ _ => .int _) ha hb
theorem zgo (ha : SB X g m a fa) (hb : SB X g m b fb) : SE X g m (.BinOp a .FloorDiv b pos) (f2 fa fb zdV) := zcu zfw (zbz fun _ _ => .int _) ha hb
theorem zbM (ha : SB X g m a fa) (hb : SB X g m b fb) : SE X g m (.BinOp a .Mod b pos) (f2 fa fb modI) := zcu zgT (zbz fun _ _ => .int _) ha hb
theorem zhO (ha : SB X g m a fa) (hb : SB X g m b fb) : SE X g m (.BinOp a .Pow b pos) (f2 fa fb powI) := zcu zgR (zbz fun _ _ => .int _) ha hb
theorem q_lt (ha : SB X g m a fa) (hb : SB X g m b fb) : SQ X g m (.Compare a [.Lt] [b] pos) (zaM (f2 fa fb ltI)) := zem zh0 (zcw fun _ _ => .bl _) ha hb (zcb _)
theorem q_gt (ha : SB X g m a fa) (hb : SB X g m b fb) : SQ X g m (.Compare a [.Gt] [b] pos) (zaM (f2 fa fb gtI)) := zem zh1 (zcw fun _ _ => .bl _) ha hb (zcb _)
noncomputable def f1 (fa : FE) (k : D→Option D) : FE := fun r => (fa r).bind fun d => opt (k d)
noncomputable def negI : D→Option D
  | .int a => some (.int (-a))
  | _ => none
@[simp] theorem negI_int (a : Int) : negI (.int a) = some (.int (-a)) := rfl
noncomputable def truD : D→Option Bool
  | .non => some false
  | .bl b => some b
  | .int i => some (i != 0)
  | .str y => if y.length≤sizeLine then some ((y.length : Int) != 0) else none
  | .lst ds => some (! ds.isEmpty)
  | .tup ds => some (! ds.isEmpty)
  | .dic kvs => some (! kvs.isEmpty)
  | .obj _ _ => none
noncomputable def fTru (f : FE) : Rho→Res Bool := fun r => (f r).bind fun d => opt (truD d)
noncomputable abbrev FQ := Rho→Res Bool
noncomputable def fAnd (p q : FQ) : FQ := fun r => (p r).bind fun c => if c = true then q r else .ok false
noncomputable def fOr (p q : FQ) : FQ := fun r => (p r).bind fun c => if c = true then .ok true else q r
noncomputable def fNot (p : FQ) : FQ := fun r => (p r).bind fun c => .ok (! c)
variable {p q : FQ} {rest : List Expr}
theorem zil {α : Type} {r : Res α} {q : α→Prop} {x x' : D→Prop} (h : fin r q x) (hx : ∀ e,x e→x' e) : fin r q x' := by
  cases r with
  | ok a => exact h
  | exc e => exact hx e h
  | stuck => exact h
theorem zaP {α : Type} {r : Res α} {σ : L2.St} {G G1 : GH} {H H1 : Hp} {P P' : α→Prop} (h : fin r P (XW X σ G H)) (w : Grow X.K G H G1 H1) (hp : ∀ a,P a→P' a) : fin r P' (XW X σ G1 H1) := zil (zac h hp) fun _ x => x.grow w
theorem zgz (ha : SQ X g m a p) : SW X g m (.BoolOp .And [a] pos) p := zfj ha
theorem zhR (ha : SQ X g m a p) : SW X g m (.BoolOp .Or [a] pos) p := zgA ha
theorem zhS (ha : SQ X g m a p) (hb : SW X g m (.BoolOp .And (b::rest) pos) q) : SW X g m (.BoolOp .And (a::b::rest) pos) (fAnd p q) := by
  refine PW.imp (zgB ha hb) fun σ H Q ⟨r,G,si,k⟩ => ⟨r,G,si,zac (zad k) fun c k1 G1 H1 w1 => ?_⟩
  cases c with
  | true => rw [if_pos rfl] at k1 ⊢; exact ⟨r,G1,si.grow w1,zaP k1 w1 fun b z G' H' w' => z G' H' (w1.trans w')⟩
  | false => rw [if_neg Bool.false_ne_true] at k1 ⊢; exact k1 G1 H1 w1
theorem q_or (ha : SQ X g m a p) (hb : SW X g m (.BoolOp .Or (b::rest) pos) q) : SW X g m (.BoolOp .Or (a::b::rest) pos) (fOr p q) := by
  refine PW.imp (zhT ha hb) fun σ H Q ⟨r,G,si,k⟩ => ⟨r,G,si,zac (zad k) fun c k1 G1 H1 w1 => ?_⟩
  cases c with
  | true => rw [if_pos rfl] at k1 ⊢; exact k1 G1 H1 w1
  | false => rw [if_neg Bool.false_ne_true] at k1 ⊢; exact ⟨r,G1,si.grow w1,zaP k1 w1 fun b z G' H' w' => z G' H' (w1.trans w')⟩
theorem SW.toQ (h : SW X g m e p) : SQ X g m e p := PW.pt h
noncomputable def vAnd (fa fb : FE) : FE := fun r => (fa r).bind fun d => (opt (asB d)).bind fun c => if c = true then fb r else .ok (.bl false)
noncomputable def vOr (fa fb : FE) : FE := fun r => (fa r).bind fun d => (opt (asB d)).bind fun c => if c = true then .ok (.bl true) else fb r
noncomputable def vNot (fa : FE) : FE := fun r => (fa r).bind fun d => (opt (asB d)).bind fun c => .ok (.bl (! c))
theorem zhP {op} (h : SE X g m a fa) : SE X g m (.BoolOp op [a] pos) fa := zgJ h
theorem zgr (ha : SE X g m a fa) (hb : SE X g m (.BoolOp .And (b::rest) pos) fb) : SE X g m (.BoolOp .And (a::b::rest) pos) (vAnd fa fb) := by
  refine PE.imp (zgP ha hb) fun σ H Q ⟨r,G,si,k⟩ => ⟨r,G,si,zac (zad k) fun d k1 v G1 H1 w1 r1 => ?_⟩
  obtain ⟨c,e,k2⟩ := zar (zad k1)
  cases d with
  | bl c' =>
    cases e
    refine ⟨_,r1.bl w1.ok,?_⟩
    cases c with
    | true => rw [if_pos rfl] at k2 ⊢; exact ⟨r,G1,si.grow w1,zaP k2 w1 fun b z v G' H' w' => z v G' H' (w1.trans w')⟩
    | false => rw [if_neg Bool.false_ne_true] at k2 ⊢; exact k2 _ G1 H1 w1 (.scl (.bl _))
  | _ => cases e
noncomputable def fIf (p : FQ) (fa fb : FE) : FE := fun r => (p r).bind fun c => if c = true then fa r else fb r
variable {es : List Expr} {fl fr : Rho → Res (List D)}
noncomputable def lNil : Rho→Res (List D) := fun _ => .ok []
noncomputable def zae (fa : FE) (fl : Rho→Res (List D)) : Rho→Res (List D) := fun r => (fa r).bind fun d => (fl r).bind fun ds => .ok (d::ds)
theorem zaQ : SA X g m [] lNil := PA.imp za1 fun σ H Q ⟨r,G,si,k⟩ => k [] G H (Grow.refl si.gok) .nil
theorem zaf (ha : SE X g m e fa) (hr : SA X g m es fl) (hs : starEach (e::es) X.env = (false,eval e X.env)::starEach es X.env := by rfl) : SA X g m (e::es) (zae fa fl) := by
  refine PA.imp (zam ha hr hs) fun σ H Q ⟨r,G,si,k⟩ => ⟨r,G,si,zac (zad k) fun d k1 v G1 H1 w1 r1 => ⟨r,G1,si.grow w1,?_⟩⟩
  exact zaP (zad k1) w1 fun ds z vs G2 H2 w2 r2 => z (v::vs) G2 H2 (w1.trans w2) (.cons (r1.mono w2.ge) r2)
theorem zf2 : SAB X g m [] lNil := PA.imp za1 fun σ H Q ⟨r,G,si,k⟩ => k [] G H (Grow.refl si.gok) .nil
theorem zd9 (ha : SB X g m e fa) (hr : SAB X g m es fl) (hs : starEach (e::es) X.env = (false,eval e X.env)::starEach es X.env := by rfl) : SAB X g m (e::es) (zae fa fl) := by
  refine PA.imp (zam ha hr hs) fun σ H Q ⟨r,G,si,k⟩ => ⟨r,G,si,zac (zad k) fun d k1 v G1 H1 w1 r1 => ⟨r,G1,si.grow w1,?_⟩⟩
  exact zaP (zad k1) w1 fun ds z vs G2 H2 w2 r2 => z (v::vs) G2 H2 (w1.trans w2) (.cons (r1.mono w2) r2)
noncomputable def sz (ds : List D) : Option (List D) := if ds.length≤sizeLine then some ds else none
theorem zfe {ds ds' : List D} (h : sz ds = some ds') : ds' = ds∧ds.length≤sizeLine := by
  unfold sz at h; split at h
  · rename_i hl; cases h; exact ⟨rfl,hl⟩
  · cases h
theorem zhK {ds : List D} (h : ds.length≤sizeLine) : sz ds = some ds := if_pos h
noncomputable def mkT (fl : Rho→Res (List D)) : FE := fun r => (fl r).bind fun ds => (opt (sz ds)).bind fun ds => .ok (.tup ds)
noncomputable def mkL (fl : Rho→Res (List D)) : FE := fun r => (fl r).bind fun ds => (opt (sz ds)).bind fun ds => .ok (.lst ds)
theorem zgj {x1} (h : SA X g m es fl) : SE X g m (.Tuple es x1 pos) (mkT fl) := by
  refine PE.imp (zgI h) fun σ H Q ⟨r,G,si,k⟩ => ⟨r,G,si,zac (zad k) fun ds k1 vs G1 H1 w1 r1 => ?_⟩
  obtain ⟨ds',e,k2⟩ := zar (zad k1)
  obtain ⟨rfl,hl⟩ := zfe e
  have hlen := Paired.length r1
  refine ⟨by omega,fun p hp => ?_⟩
  exact k2 _ _ _ (w1.trans (Grow.newF (d := .tup ds') w1.ok hp (.tup (.inl zab) r1))) (.ref zag)
theorem zcx (h : SA X g m es fl) : SO X g m (.List es pos) (mkL fl) := by
  refine PE.imp (zgL h) fun σ H Q ⟨r,G,si,k⟩ => ⟨r,G,si,zac (zad k) fun ds k1 vs G1 H1 w1 r1 => ?_⟩
  obtain ⟨ds',e,k2⟩ := zar (zad k1)
  obtain ⟨rfl,hl⟩ := zfe e
  have hlen := Paired.length r1
  refine ⟨by omega,fun p hp => ?_⟩
  have hn : H p = none := by
    cases q : H p with
    | none => rfl
    | some o => rw [w1.he _ _ q] at hp; cases hp
  exact k2 p G1 _ (w1.trans (Grow.new w1.ok hp _)) hn ⟨w1.ok.isN hp,.lst zab r1⟩
end
end DL
end
section
namespace DL
open PySem PySem.Spec PyProof.Rows L2
noncomputable def zhA (K : PySem.W.Frag) (r : List V→Hp→VK→Prop) (k : List D→Option D) : Prop := ∀ (G : GH) (H : Hp) (vs : List V) (ds : List D) (d : D) (Q : VK),GOk K G H→Paired (RB K G H) vs ds→k ds = some d →
  (∀ v G' H',Grow K G H G' H'→RG K G' v d→Q v H')→r vs H Q
noncomputable def fC (fl : Rho→Res (List D)) (k : List D→Option D) : FE := fun r => (fl r).bind fun ds => opt (k ds)
theorem Grow.back {K : PySem.W.Frag} {G G1 : GH} {H H1 : Hp} (w : Grow K G H G1 H1) {a : Addr} (hn : H1 a = none) : H a = none := by
  cases q : H a with
  | none => rfl
  | some o => rw [w.he _ _ q] at hn; cases hn
section
variable {X : Cx} {g : GE} {m : List Md} {e a b c : Expr} {f fa fb fc : FE} {pos p p2 : Pos} {es : List Expr} {fl : Rho → Res (List D)} {x : Str} {id T : String} {R : List V → Hp → VK → Prop} {k : List D → Option D}
theorem s_cb (hk : zhA X.K R k) (h : PE X e (tCB R (tLB X g m fl))) : SE X g m e (fC fl k) := by
  refine PE.imp h fun σ H Q ⟨r,G,si,q⟩ => ⟨r,G,si,zac (zad q) fun ds q1 vs G1 H1 w1 r1 => ?_⟩
  obtain ⟨d,e,q2⟩ := zar q1
  exact hk G1 H1 vs ds d Q w1.ok r1 e fun v G' H' w' z => q2 v G' H' (w1.trans w') z
noncomputable def lenD : List D→Option D
  | [.str y] => if y.length≤sizeLine then some (.int y.length) else none
  | [.lst ds] => some (.int ds.length)
  | [.tup ds] => some (.int ds.length)
  | [.dic kvs] => some (.int kvs.length)
  | _ => none
theorem zg4 {K : PySem.W.Frag} : zhA K (fun xs H Q => (∃ x n,xs = [x]∧LenV K x H n∧Q (.int n) H)∨∃ a kvs,xs = [V.ref a]∧Rd H a (.dK kvs)∧Q (.int kvs.length) H) lenD := by
  intro G H vs ds d Q gk rs e q
  unfold lenD at e
  split at e
  · split at e
    · cases e
      cases rs with
      | cons r t => cases t; exact .inl ⟨_,_,rfl,by rw [r.str gk]; exact ⟨by assumption,rfl⟩,q _ G H (Grow.refl gk) (.scl (.int _))⟩
    · cases e
  · cases e
    cases rs with
    | cons r t =>
      cases t
      obtain ⟨a,xs,rfl,s,r⟩ := r.lst gk
      have := Paired.length r
      exact .inl ⟨_,_,rfl,.inl ⟨xs,s,rfl⟩,q _ G H (Grow.refl gk) (.scl (by rw [this]; exact .int _))⟩
  · cases e
    cases rs with
    | cons r t =>
      cases t
      obtain ⟨a,xs,rfl,s,r⟩ := r.tup gk
      have := Paired.length r
      exact .inl ⟨_,_,rfl,.inr ⟨xs,s,rfl⟩,q _ G H (Grow.refl gk) (.scl (by rw [this]; exact .int _))⟩
  · cases e
    cases rs with
    | cons r t =>
      cases t
      obtain ⟨a,xs,rfl,s,r⟩ := r.dic gk
      have := Paired.length r
      exact .inr ⟨_,_,rfl,s,q _ G H (Grow.refl gk) (.scl (by rw [this]; exact .int _))⟩
  · cases e
theorem zgm (hg : Gl X "len") (hm : X.mg "len" = none) (ha : SAB X g m (e::es) fl) (he : starEach (e::es) X.env = (false,eval e X.env)::starEach es X.env := by rfl) (hpl : (backTo pos (starEach es X.env)).any (·.1) = false := by rfl) :
    SE X g m (.Call (.Name "len" p) (e::es) [] pos) (fC fl lenD) := s_cb zg4 (zcM (zb1.or zeM zd6) hg hm PySem.boot_len ha (by decide) (by decide) he hpl)
noncomputable def zg3 : List D→Option D
  | [.lst ds] => some (.lst ds)
  | [.tup ds] => some (.lst ds)
  | _ => none
noncomputable def tupD : List D→Option D
  | [.lst ds] => some (.tup ds)
  | [.tup ds] => some (.tup ds)
  | _ => none
noncomputable def ixD : D→D→Option D
  | .lst ds,.int i => atI ds i
  | .tup ds,.int i => atI ds i
  | .str z,.int i => if z.length≤sizeLine then (atI z.cps.toList i).map fun c => .str ⟨#[c]⟩ else none
  | _,_ => none
theorem zhy {K : PySem.W.Frag} {G : GH} {xs : List V} {ds : List D} {i : Int} {d : D} (r : RGs K G xs ds) (h : atI ds i = some d) : ∃ v,atI xs i = some v∧RG K G v d := by
  unfold atI at h ⊢
  rw [Paired.length r]
  cases e : ixN ds.length i with
  | none => rw [e] at h; cases h
  | some j =>
    rw [e] at h
    exact Paired.get r h
theorem zfH {K : PySem.W.Frag} : OpD K (rIx K) ixD := by
  intro G H v1 v2 d1 d2 d Q gk r1 r2 e q
  unfold ixD at e
  split at e
  · obtain ⟨a,xs,rfl,s,r⟩ := r1.lst gk
    obtain ⟨v,ev,rv⟩ := zhy r e
    exact .inl ⟨a,xs,_,v,rfl,r2.int gk,s,ev,q v G H (Grow.refl gk) rv⟩
  · obtain ⟨a,xs,rfl,s,r⟩ := r1.tup gk
    obtain ⟨v,ev,rv⟩ := zhy r e
    exact .inr (.inl ⟨a,xs,_,v,rfl,r2.int gk,s,ev,q v G H (Grow.refl gk) rv⟩)
  · split at e
    · rename_i z i hz
      cases ec : atI z.cps.toList i with
      | none => rw [ec] at e; cases e
      | some c =>
        rw [ec] at e; cases e
        exact .inr (.inr ⟨z,i,c,r1.str gk,r2.int gk,hz,ec,q _ G H (Grow.refl gk) (.scl (.str _))⟩)
    · cases e
  · cases e
theorem PO.imp {X : Cx} {e : Option Expr} {t t' : TO} (h : PO X e t) (i : ∀ σ H Q,t' σ H Q→t σ H Q) : PO X e t' := fun pins s σ H Q I q => h pins s σ H Q I (i σ H Q q)
end
end DL
end
section
namespace DL
open PySem PySem.Spec PyProof.Rows L2
inductive Out where
  | nx (r : Rho) | rt (d : D) | bk (r : Rho) | ct (r : Rho) | exc (x : D) (r : Rho) | stuck
noncomputable abbrev FS := Rho→Out
noncomputable def Gle (G G' : GH) : Prop := ∀ a d,G a = some d→G' a = some d
theorem Gle.refl (G : GH) : Gle G G := fun _ _ e => e
theorem Gle.trans {G G1 G2 : GH} (a : Gle G G1) (b : Gle G1 G2) : Gle G G2 := fun x d e => b x d (a x d e)
noncomputable def forget (m : List Md) (r : Rho) : Rho := List.zipWith (fun md o => if md = Md.sh then o else none) m r
noncomputable def zbO (m : List Md) : List Md := m.map fun _ => Md.sh
theorem zaO {m : List Md} {r : Rho} {i : Nat} {d : D} (h : (forget m r)[i]? = some (some d)) : r[i]? = some (some d)∧m[i]? = some .sh := by
  unfold forget at h
  rw [List.getElem?_zipWith] at h
  cases e1 : m[i]? with
  | none => rw [e1] at h; cases h
  | some md =>
    cases e2 : r[i]? with
    | none => rw [e1,e2] at h; cases h
    | some o =>
      rw [e1,e2] at h
      have h' : (if md = Md.sh then o else none) = some d := Option.some.inj h
      split at h'
      · rename_i hm; subst hm; rw [h']; exact ⟨rfl,rfl⟩
      · cases h'
section
variable {X : Cx} {g : GE} {m : List Md} {r : Rho} {G : GH} {st : L2.St} {H : Hp}
theorem SI.forget (s : SI X g m r G st H) : SI X g (zbO m) (forget m r) G st H where
  gok := s.gok
  old := s.old
  ge := s.ge
  gf := s.gf
  lm := by rw [zbO,List.length_map]; exact s.lm
  lr := by rw [DL.forget,List.length_zipWith,s.lm,s.lr,Nat.min_self]
  sh := fun i d h _ => s.sh i d (zaO h).1 (zaO h).2
  ow := fun i d h hm => by rw [zbO,List.getElem?_map,(zaO h).2] at hm; cases hm
  bw := fun i d h hm => by rw [zbO,List.getElem?_map,(zaO h).2] at hm; cases hm
  dis := fun i j a d e _ h _ hm => by rw [zbO,List.getElem?_map,(zaO h).2] at hm; cases hm
  lk := fun i o _ hm => by rw [zbO,List.getElem?_map] at hm; cases q : m[i]? <;> rw [q] at hm <;> cases hm
theorem SI.set (s : SI X g m r G st H) (i : Nat) {v : V} {d : D} (hv : RG X.K G v d) : SI X g (m.set i .sh) (r.set i (some d)) G (st.set i (some v)) H where
  gok := s.gok
  old := s.old
  ge := s.ge
  gf := s.gf
  lm := by simp [s.lm]
  lr := by simp [s.lr]
  sh := fun j e h hm => by
    by_cases hij : i = j
    · subst hij
      have hl : i < r.length := by
        have := (List.getElem?_eq_some_iff.mp h).1
        simpa using this
      rw [List.getElem?_set_self hl] at h
      cases h
      exact ⟨v,by rw [List.getElem?_set_self (by rw [← s.lr]; exact hl)],hv⟩
    · rw [List.getElem?_set_ne hij] at h hm
      rw [List.getElem?_set_ne hij]
      exact s.sh j e h hm
  ow := fun j e h hm => by
    by_cases hij : i = j
    · subst hij
      have hl : i < m.length := by
        have := (List.getElem?_eq_some_iff.mp hm).1
        simpa using this
      rw [List.getElem?_set_self hl] at hm; cases hm
    · rw [List.getElem?_set_ne hij] at h hm
      rw [List.getElem?_set_ne hij]
      exact s.ow j e h hm
  bw := fun j e h hm => by
    by_cases hij : i = j
    · subst hij
      have hl : i < m.length := by
        have := (List.getElem?_eq_some_iff.mp hm).1
        simpa using this
      rw [List.getElem?_set_self hl] at hm; cases hm
    · rw [List.getElem?_set_ne hij] at h hm
      rw [List.getElem?_set_ne hij]
      exact s.bw j e h hm
  dis := fun j k a d1 d2 hjk h1 h2 hm hm' q1 q2 => by
    have hij : i≠j := by
      rintro rfl
      have hl : i < m.length := by
        have := (List.getElem?_eq_some_iff.mp hm).1
        simpa using this
      rw [List.getElem?_set_self hl] at hm; cases hm
    have hik : i≠k := by
      rintro rfl
      have hl : i < m.length := by
        have := (List.getElem?_eq_some_iff.mp h2).1
        rw [List.length_set,s.lr,← s.lm] at this; exact this
      rw [List.getElem?_set_self hl] at hm'; cases hm'
    rw [List.getElem?_set_ne hij] at h1 hm q1
    rw [List.getElem?_set_ne hik] at h2 hm' q2
    exact s.dis j k a d1 d2 hjk h1 h2 hm hm' q1 q2
  lk := fun j o hj hm => by
    have hij : i≠j := by
      rintro rfl
      have hl : i < m.length := by
        have := (List.getElem?_eq_some_iff.mp hm).1
        simpa using this
      rw [List.getElem?_set_self hl] at hm; cases hm
    rw [List.getElem?_set_ne hij] at hm
    have := s.lk j o hj hm
    exact ⟨by rw [List.getElem?_set_ne hij]; exact this.1,fun d h => this.2 d (by rw [List.getElem?_set_ne hij] at h; exact h)⟩
theorem SI.other (s : SI X g m r G st H) {p : Addr} (hp : G p = none) (h0 : g.h0 p = none) (hm : ∀ (i : Nat),m[i]?≠some Md.ow) (o : HO) : SI X g m r G st (upd H p o) where
  gok := fun b e h => (s.gok b e h).mono (fun _ _ z => z) fun o' q => by rw [zaa (by rintro rfl; rw [hp] at h; cases h)]; exact q
  old := fun b o' h => by rw [zaa (by rintro rfl; rw [h0] at h; cases h)]; exact s.old b o' h
  ge := s.ge
  gf := s.gf
  lm := s.lm
  lr := s.lr
  sh := s.sh
  ow := fun i d _ h => absurd h (hm i)
  bw := fun i d h1 h2 => by
    obtain ⟨v,h3,h4⟩ := s.bw i d h1 h2
    refine ⟨v,h3,?_⟩
    rcases h4 with h4 | ⟨a,rfl,h4,h5⟩
    · exact .inl h4
    · have ha : a≠p := by rintro rfl; exact h5 h0
      exact .inr ⟨a,rfl,⟨h4.un,h4.ob.mono (fun _ _ z => z) fun o' z => by rw [zaa ha]; exact z⟩,h5⟩
  dis := fun i j a d e _ _ _ h => absurd h (hm i)
  lk := s.lk
theorem SI.less (s : SI X g m r G st H) {r' : Rho} (hl : r'.length = r.length) (h : ∀ (i : Nat) d,r'[i]? = some (some d)→r[i]? = some (some d)) : SI X g m r' G st H :=
  ⟨s.gok,s.old,s.ge,s.gf,s.lm,hl.trans s.lr,fun i d a b => s.sh i d (h i d a) b,fun i d a b => s.ow i d (h i d a) b,fun i d a b => s.bw i d (h i d a) b,fun i j a d e n p q x y => s.dis i j a d e n (h i d p) (h j e q) x y,fun i o hi hm => by
    have := s.lk i o hi hm
    exact ⟨this.1,fun d hd => this.2 d (h i d hd)⟩⟩
theorem SI.held (s : SI X g m r G st H) {j : Nat} {b : Addr} {e : D} (h : r[j]? = some (some e)) (hm : m[j]? = some .ow) (hs : st[j]? = some (some (V.ref b))) : H b≠none := by
  obtain ⟨a,h1,h2,_⟩ := s.ow j e h hm
  rw [hs] at h1
  injection h1 with h1; injection h1 with h1; injection h1 with h1
  rw [h1]; exact h2.ob.isS
theorem SI.new (s : SI X g m r G st H) {a : Addr} (hn : H a = none) : g.h0 a = none := by
  cases q : g.h0 a with
  | none => rfl
  | some o => rw [s.old _ _ q] at hn; cases hn
end
noncomputable def RV (ro : Bool) (K : PySem.W.Frag) (H0 : Hp) (G : GH) (H : Hp) (v : V) (d : D) : Prop := match ro with
  | false => RG K G v d
  | true => (∃ a,v = .ref a∧H0 a = none∧Own K G H a d)∨(d = .non∧v = .non)
noncomputable def oTo (X : Cx) (g : GE) (ro : Bool) (m' mb : List Md) (G : GH) (D : Ends) : Out→Prop
  | .nx r' => ∀ σ' G' H',Gle G G'→SI X g m' r' G' σ' H'→D.nx σ' H'
  | .rt d => ∀ v G' H',Grow X.K g.gh g.h0 G' H'→RV ro X.K g.h0 G' H' v d→D.rt v H'
  | .bk r' => ∀ σ' G' H',Gle G G'→SI X g mb r' G' σ' H'→D.bk σ' H'
  | .ct r' => ∀ σ' G' H',Gle G G'→SI X g mb r' G' σ' H'→D.ct σ' H'
  | .exc x r' => ∀ pins e s' σ' G' H',Gle G G'→SI X g (zbO m') r' G' σ' H'→Inv X pins σ' H' s'→ExV X σ' G' H' e x s'→X.xe e s'
  | .stuck => False
noncomputable def tS (X : Cx) (g : GE) (ro : Bool) (m m' mb : List Md) (f : FS) : TS := fun D σ H => ∃ r G,SI X g m r G σ H∧oTo X g ro m' mb G D (f r)
noncomputable def SS (X : Cx) (g : GE) (ro : Bool) (mb m : List Md) (st : Stmt) (f : FS) (m' : List Md) : Prop := m'.length = m.length∧PS X st (tS X g ro m m' mb f)
noncomputable def SSs (X : Cx) (g : GE) (ro : Bool) (mb m : List Md) (st : List Stmt) (f : FS) (m' : List Md) : Prop := m'.length = m.length∧PSs X st (tS X g ro m m' mb f)
theorem zcl {m m' : List Md} (h : m'.length = m.length) : zbO m' = zbO m := by
  unfold zbO
  rw [List.map_const',List.map_const',h]
theorem oTo.x {X : Cx} {g : GE} {ro : Bool} {m m' mb : List Md} {r : Rho} {G : GH} {D : Ends} {σ : L2.St} {H : Hp} {x : DL.D} (h : oTo X g ro m' mb G D (.exc x (forget m r))) (si : SI X g m r G σ H) (hl : m'.length = m.length) : XW X σ G H x :=
  fun pins e s' G' H' w I ex => h pins e s' σ G' H' w.ge (by rw [zcl hl]; exact (si.grow w).forget) I ex
section
variable {X : Cx} {g : GE} {ro : Bool} {m m' m1 mb : List Md} {e a b c tg : Expr} {f fa fb fc : FE} {p : FQ} {pos pos' : Pos} {st : Stmt} {sts sts' : List Stmt} {s1 s2 : FS}
theorem oTo.gle {G G1 : GH} {D : Ends} {o : Out} (h : oTo X g ro m' mb G D o) (w : Gle G G1) : oTo X g ro m' mb G1 D o := by
  cases o with
  | nx r' => exact fun σ' G' H' q si => h σ' G' H' (w.trans q) si
  | rt d => exact h
  | bk r' => exact fun σ' G' H' q si => h σ' G' H' (w.trans q) si
  | ct r' => exact fun σ' G' H' q si => h σ' G' H' (w.trans q) si
  | exc x r' => exact fun pins e s' σ' G' H' q => h pins e s' σ' G' H' (w.trans q)
  | stuck => exact h
noncomputable def seqF (s1 s2 : FS) : FS := fun r => match s1 r with
  | .nx r' => s2 r'
  | o => o
noncomputable def za0 : FS := fun r => .nx r
theorem zaW : SSs X g ro mb m [] za0 m := ⟨rfl,PSs.imp zfm fun D σ H ⟨r,G,si,q⟩ => q σ G H (Gle.refl G) si⟩
theorem zai (h1 : SS X g ro mb m st s1 m1) (h2 : SSs X g ro mb m1 sts s2 m') : SSs X g ro mb m (st::sts) (seqF s1 s2) m' := by
  refine ⟨h2.1.trans h1.1,PSs.imp (zaU h1.2 h2.2) fun D σ H ⟨r,G,si,q⟩ => ⟨r,G,si,?_⟩⟩
  unfold seqF at q
  cases e : s1 r with
  | nx r' =>
    rw [e] at q
    exact fun σ' G' H' w si' => ⟨r',G',si',oTo.gle q w⟩
  | rt d => rw [e] at q; exact q
  | bk r' => rw [e] at q; exact q
  | ct r' => rw [e] at q; exact q
  | exc x r' => rw [e] at q; exact fun pins e s' σ' G' H' w si' => q pins e s' σ' G' H' w (by rw [zcl h2.1]; exact si')
  | stuck => rw [e] at q; exact q
noncomputable def onE {α : Type} (m : List Md) (r : Rho) (x : Res α) (k : α→Out) : Out := match x with
  | .ok a => k a
  | .exc e => .exc e (forget m r)
  | .stuck => .stuck
@[simp] theorem onE_ok {α : Type} (m : List Md) (r : Rho) (a : α) (k : α→Out) : onE m r (.ok a) k = k a := rfl
theorem zbV {α : Type} {x : Res α} {k : α→Out} {r : Rho} {G : GH} {D : Ends} {σ : L2.St} {H : Hp} (si : SI X g m r G σ H) (hl : m'.length = m.length) (h : oTo X g ro m' mb G D (onE m r x k)) : fin x (fun a => oTo X g ro m' mb G D (k a)) (XW X σ G H) := by
  cases x with
  | ok a => exact h
  | exc e => exact oTo.x h si hl
  | stuck => exact h
noncomputable def setF (m : List Md) (i : Nat) (f : FE) : FS := fun r => onE m r (f r) fun d => .nx (r.set i (some d))
theorem zbC (i : Nat) {x : Str} (hN : X.N.Nodup) (hi : X.N[i]? = some x) (hx : Loc X.env.scope x) (he : SE X g m e f) (hs : swapsWith e (some (.Name x pos')) pos.line X.env = pure false := by rfl)
    (hf : X.fn x = true∨X.env.scope.names.lookup x = some .local := by first | exact .inl rfl | exact .inr rfl | assumption) : SS X g ro mb m (.Assign [.Name x pos'] e pos) (setF m i f) (m.set i .sh) := by
  have hl : (m.set i .sh).length = m.length := by simp
  refine ⟨hl,PS.imp (zgC hN hi hx he hs hf) fun D σ H ⟨r,G,si,q⟩ => ⟨r,G,si,?_⟩⟩
  exact zac (zbV si hl q) fun d q v G' H' w rv => q _ G' H' w.ge ((si.grow w).set i rv)
noncomputable def retF (m : List Md) (f : FE) : FS := fun r => onE m r (f r) fun d => .rt d
theorem zc9 (he : SE X g m e f) : SS X g false mb m (.Return (some e) pos) (retF m f) m :=
  ⟨rfl,PS.imp (zgD he) fun D σ H ⟨r,G,si,q⟩ => ⟨r,G,si,zac (zbV si rfl q) fun d q v G' H' w rv => q v G' H' (si.grow w).grown rv⟩⟩
noncomputable def ifF (m : List Md) (p : FQ) (s1 s2 : FS) : FS := fun r => onE m r (p r) fun c => if c = true then s1 r else s2 r
theorem s_if (hc : SQ X g m c p) (h1 : SSs X g ro mb m sts s1 m') (h2 : SSs X g ro mb m sts' s2 m') : SS X g ro mb m (.If c sts sts' pos) (ifF m p s1 s2) m' := by
  refine ⟨h1.1,PS.imp (zhU hc h1.2 h2.2) fun D σ H ⟨r,G,si,q⟩ => ⟨r,G,si,zac (zbV si h1.1 q) fun c q G' H' w => ?_⟩⟩
  cases c with
  | true => rw [if_pos rfl] at q ⊢; exact ⟨r,G',si.grow w,oTo.gle q w.ge⟩
  | false => rw [if_neg Bool.false_ne_true] at q ⊢; exact ⟨r,G',si.grow w,oTo.gle q w.ge⟩
end
end DL
end
section
namespace DL
open PySem PySem.Spec PyProof.Rows L2
noncomputable abbrev FT := D→Rho→Option Rho
noncomputable abbrev FTs := List D→Rho→Option Rho
noncomputable def tG (X : Cx) (g : GE) (m m' : List Md) (ft : FT) : TG := fun v σ H Q => ∃ r G d,SI X g m r G σ H∧RG X.K G v d∧∃ r',ft d r = some r'∧∀ σ',SI X g m' r' G σ' H→Q σ' H
noncomputable def tGs (X : Cx) (g : GE) (m m' : List Md) (ft : FTs) : TGs := fun vs σ H Q => ∃ r G ds,SI X g m r G σ H∧RGs X.K G vs ds∧∃ r',ft ds r = some r'∧∀ σ',SI X g m' r' G σ' H→Q σ' H
theorem PG.imp {X : Cx} {e : Expr} {t t' : TG} (h : PG X e t) (i : ∀ v σ H Q,t' v σ H Q→t v σ H Q) : PG X e t' := fun pins s σ H v u Q I r q => h pins s σ H v u Q I r (i v σ H Q q)
theorem PGs.imp {X : Cx} {e : List Expr} {t t' : TGs} (h : PGs X e t) (i : ∀ v σ H Q,t' v σ H Q→t v σ H Q) : PGs X e t' := fun pins s σ H v u Q I r q => h pins s σ H v u Q I r (i v σ H Q q)
noncomputable def SG (X : Cx) (g : GE) (m : List Md) (tg : Expr) (ft : FT) (m' : List Md) : Prop := m'.length = m.length∧PG X tg (tG X g m m' ft)
structure SGs (X : Cx) (g : GE) (m : List Md) (ts : List Expr) (n : Nat) (ft : FTs) (m' : List Md) : Prop where
  ml : m'.length = m.length
  ln : ∀ ds r r',ft ds r = some r'→ds.length = n
  pg : PGs X ts (tGs X g m m' ft)
noncomputable def ftN (i : Nat) : FT := fun d r => some (r.set i (some d))
noncomputable def ftT (ft : FTs) : FT := fun d r => match d with
  | .tup ds => ft ds r
  | .lst ds => ft ds r
  | _ => none
noncomputable def zfP : FTs := fun ds r => match ds with
  | [] => some r
  | _ => none
noncomputable def zce (ft : FT) (fts : FTs) : FTs := fun ds r => match ds with
  | [] => none
  | d::ds => (ft d r).bind fun r' => fts ds r'
section
variable {X : Cx} {g : GE} {m m' m1 : List Md} {tg : Expr} {ts : List Expr} {ft : FT} {fts : FTs} {pos : Pos} {n : Nat}
theorem zdQ (i : Nat) {x : Str} (hN : X.N.Nodup) (hi : X.N[i]? = some x) (hx : Loc X.env.scope x) (hf : X.fn x = true∨X.env.scope.names.lookup x = some .local := by first | exact .inl rfl | exact .inr rfl | assumption) :
    SG X g m (.Name x pos) (ftN i) (m.set i .sh) :=
  ⟨by simp,PG.imp (zfp hN hi hx hf) fun v σ H Q ⟨r,G,d,si,rv,r',e,k⟩ => by cases e; exact k _ (si.set i rv)⟩
theorem zig : SGs X g m [] 0 zfP m := by
  refine ⟨rfl,fun ds r r' e => ?_,PGs.imp zfo fun v σ H Q ⟨r,G,ds,si,rv,r',e,k⟩ => ?_⟩
  · cases ds with
    | nil => rfl
    | cons _ _ => cases e
  · cases rv with
    | nil => cases e; exact ⟨rfl,k σ si⟩
    | cons _ _ => cases e
theorem ze1 (h1 : SG X g m tg ft m1) (h2 : SGs X g m1 ts n fts m') (hs : (assignEach (tg::ts) X.env).map (·.2) = assign tg X.env::(assignEach ts X.env).map (·.2) := by rfl) : SGs X g m (tg::ts) (n + 1) (zce ft fts) m' := by
  refine ⟨h2.ml.trans h1.1,fun ds r r' e => ?_,PGs.imp (zer h1.2 h2.pg hs) fun v σ H Q ⟨r,G,ds,si,rv,r',e,k⟩ => ?_⟩
  · cases ds with
    | nil => cases e
    | cons d ds =>
      have e' : ((ft d r).bind fun r' => fts ds r') = some r' := e
      cases q : ft d r with
      | none => rw [q] at e'; cases e'
      | some r1 =>
        rw [q] at e'
        have := h2.ln ds r1 r' e'
        simp [this]
  · cases rv with
    | nil => cases e
    | @cons v0 d vs ds rv rs =>
      have e' : ((ft d r).bind fun r' => fts ds r') = some r' := e
      cases q : ft d r with
      | none => rw [q] at e'; cases e'
      | some r1 =>
        rw [q] at e'
        exact ⟨_,_,rfl,r,G,d,si,rv,r1,q,fun σ' si' => ⟨r1,G,ds,si',rs,r',e',k⟩⟩
theorem zgF {k : Nat} {t : TGs} (hc : X.calm = true) (h : PGs X ts t) (hn : (assignEach ts X.env).length = n) (hst : (assignEach ts X.env).findIdx? (·.1) = none) :
    PG X (.Tuple ts k pos) (fun v σ H Q => ∃ a xs,v = .ref a∧SqL X.K H a xs∧xs.length = n∧t xs σ H Q) := by
  intro pins s σ H v u Q I r hw
  obtain ⟨a,xs,e1,hq,hl,hw⟩ := hw
  subst e1
  cases r
  obtain ⟨its,rv,⟨o,nn,l1,l2,l3,l4⟩,hz⟩ := I.list hq
  rw [PyProof.Rows.assign_Tuple]
  refine wpAny_bind (wpAny_standAt ?_)
  unfold unpack
  rw [hst,show (assignEach ts X.env).length = its.toArray.size by simp [hn,← hl,rv.length]]
  refine wpAny_bind (wpAny_holding (PySem.W.kun_itemsOf (I.ok.hd hc) ⟨o,l1,l2,nn,l4⟩ fun h' hx => ?_))
  have I1 : Inv X pins σ H { s with heap := h' } := I.kept (t' := s.toks) fun b o e => hx b o (Nat.ne_of_lt (Heap.lt_size e)) e
  exact h pins _ σ H xs _ Q I1 (by simpa using rv) hw
theorem PG.or {e : Expr} {t t' : TG} (h : PG X e t) (h' : PG X e t') : PG X e (fun v σ H Q => t v σ H Q∨t' v σ H Q) := fun pins s σ H v u Q I r q => q.elim (h pins s σ H v u Q I r) (h' pins s σ H v u Q I r)
theorem zif {k : Nat} (hc : X.calm = true) (h : SGs X g m ts n fts m') (hn : (assignEach ts X.env).length = n := by rfl) (hst : (assignEach ts X.env).findIdx? (·.1) = none := by rfl) : SG X g m (.Tuple ts k pos) (ftT fts) m' := by
  refine ⟨h.ml,PG.imp (PG.or (zgG hc h.pg hn hst) (zgF hc h.pg hn hst)) fun v σ H Q ⟨r,G,d,si,rv,r',e,k⟩ => ?_⟩
  cases d with
  | tup ds =>
    obtain ⟨a,xs,rfl,s,rs⟩ := rv.tup si.gok
    exact .inl ⟨a,xs,rfl,s,(Paired.length rs).trans (h.ln ds r r' e),r,G,ds,si,rs,r',e,k⟩
  | lst ds =>
    obtain ⟨a,xs,rfl,s,rs⟩ := rv.lst si.gok
    exact .inr ⟨a,xs,rfl,s,(Paired.length rs).trans (h.ln ds r r' e),r,G,ds,si,rs,r',e,k⟩
  | _ => cases e
end
structure Yields (K : PySem.W.Frag) (J : It) (ds : List D) (G0 : GH) : Prop where
  go : ∀ G H (i : Nat),Gle G0 G→GOk K G H→i < ds.length→J.go i H
  yld : ∀ G H (i : Nat) x H' d,Gle G0 G→GOk K G H→J.yld i H x H'→ds[i]? = some d→∃ G',Grow K G H G' H'∧RG K G' x d
  stop : ∀ G H,Gle G0 G→GOk K G H→J.stop ds.length H
noncomputable abbrev FI := Rho→Res (List D)
noncomputable def tI (X : Cx) (g : GE) (m : List Md) (f : FI) : TI := fun σ H R => ∃ r G,SI X g m r G σ H∧fin (f r) (fun ds => ∀ J G' H',Grow X.K G H G' H'→Yields X.K J ds G'→R J H') (XW X σ G H)
noncomputable def SIt (X : Cx) (g : GE) (m : List Md) (tg iter : Expr) (f : FI) : Prop := PI X tg iter (tI X g m f)
theorem PI.imp {X : Cx} {tg e : Expr} {t t' : TI} (h : PI X tg e t) (i : ∀ σ H Q,t' σ H Q→t σ H Q) : PI X tg e t' := fun pins s σ H R I q => h pins s σ H R I (i σ H R q)
noncomputable def rngD (lo : Int) (n : Nat) : List D := (List.range n).map fun (i : Nat) => D.int (lo + (i : Int))
theorem zge {K : PySem.W.Frag} {lo : Int} {n : Nat} {G0 : GH} : Yields K (Itr lo n) (rngD lo n) G0 := by
  have hl : (rngD lo n).length = n := by simp [rngD]
  refine ⟨fun G H i w gk hi => (by rw [hl] at hi; exact hi),fun G H i x H' d w gk y e => ?_,fun G H w gk => (by rw [hl]; exact Nat.le_refl _)⟩
  obtain ⟨rfl,rfl⟩ := y
  have hi : i < n := by
    have := (List.getElem?_eq_some_iff.mp e).1
    rw [hl] at this; exact this
  unfold rngD at e
  rw [List.getElem?_map,List.getElem?_range hi] at e
  cases e
  exact ⟨G,Grow.refl gk,.scl (.int _)⟩
noncomputable def zf4 : D→Option (List D)
  | .lst ds => some ds
  | .tup ds => some ds
  | _ => none
section
variable {X : Cx} {g : GE} {m m' m1 mb : List Md} {tg e a b c iter : Expr} {f fa fb : FE} {p : FQ} {pos pos' : Pos} {ro : Bool} {fl : Rho → Res (List D)} {sts : List Stmt} {s1 : FS}
noncomputable def fSeq (k : D→Option (List D)) (f : FE) : FI := fun r => (f r).bind fun d => opt (k d)
structure YieldsC (K : PySem.W.Frag) (J : It) (ds : List D) (G0 : GH) (H0 : Hp) : Prop where
  go : ∀ G H (i : Nat),Grow K G0 H0 G H→i < ds.length→J.go i H
  yld : ∀ G H (i : Nat) x H' d,Grow K G0 H0 G H→J.yld i H x H'→ds[i]? = some d→∃ G',Grow K G H G' H'∧RG K G' x d
  stop : ∀ G H,Grow K G0 H0 G H→J.stop ds.length H
theorem Yields.toC {K : PySem.W.Frag} {J : It} {ds : List D} {G0 : GH} {H0 : Hp} (y : Yields K J ds G0) : YieldsC K J ds G0 H0 :=
  ⟨fun G H i w hi => y.go G H i w.ge w.ok hi,fun G H i x H' d w q e => y.yld G H i x H' d w.ge w.ok q e,fun G H w => y.stop G H w.ge w.ok⟩
noncomputable def tIC (X : Cx) (g : GE) (m : List Md) (f : FI) : TI := fun σ H R => ∃ r G,SI X g m r G σ H∧fin (f r) (fun ds => ∀ J G' H',Grow X.K G H G' H'→YieldsC X.K J ds G' H'→R J H') (XW X σ G H)
noncomputable def SItC (X : Cx) (g : GE) (m : List Md) (tg iter : Expr) (f : FI) : Prop := PI X tg iter (tIC X g m f)
theorem SIt.toC {fi : FI} (h : SIt X g m tg iter fi) : SItC X g m tg iter fi := PI.imp h fun σ H R ⟨r,G,si,q⟩ => ⟨r,G,si,zac q fun ds k J G' H' w y => k J G' H' w y.toC⟩
noncomputable def rng1 : List D→Option (List D)
  | [.int j] => if -(2 ^ 62)≤j∧j < 2 ^ 62 then some (rngD 0 j.toNat) else none
  | _ => none
noncomputable def fRng (k : List D→Option (List D)) (fl : Rho→Res (List D)) : FI := fun r => (fl r).bind fun ds => opt (k ds)
theorem zeA {pn : Pos} (hg : Gl X "range") (hm : X.mg "range" = none) (ha : SAB X g m [a] fl) (hs : starEach [a] X.env = [(false,eval a X.env)] := by rfl) : SIt X g m tg (.Call (.Name "range" pn) [a] [] pos) (fRng rng1 fl) := by
  refine PI.imp (zdw hg hm ha hs) fun σ H R ⟨r,G,si,q⟩ => ⟨r,G,si,zac (zad q) fun ds q vs G' H' w rs => ?_⟩
  obtain ⟨zs,e,q⟩ := zar q
  unfold rng1 at e
  split at e
  · split at e
    · rename_i j hj
      cases e
      cases rs with
      | cons r1 t => cases t; exact ⟨j,by rw [r1.int w.ok],hj.1,hj.2,q _ G' H' w zge⟩
    · cases e
  · cases e
noncomputable def forF (ft : FT) (body : FS) : List D→FS
  | [],r => .nx r
  | d::ds,r => match ft d r with
    | none => .stuck
    | some r1 => match body r1 with
      | .nx r' => forF ft body ds r'
      | .ct r' => forF ft body ds r'
      | .bk r' => .nx r'
      | o => o
noncomputable def zdJ (m : List Md) (fi : FI) (ft : FT) (body : FS) : FS := fun r => onE m r (fi r) fun ds => forF ft body ds r
theorem zhQ (hp : PassesOwn (model X.prog X.w) X.A X.env X.xe) (hc : X.calm = true) {ft : FT} {fi : FI} (hi : SIt X g m tg iter fi) (hg : SG X g m tg ft m) (hb : SSs X g ro m m sts s1 m)
    (hs : ∀ x,foldedSetIterable iter X.env x = pure x := by intro _; rfl) : SS X g ro mb m (.For tg iter sts [] pos) (zdJ m fi ft s1) m := by
  refine ⟨rfl,PS.imp (zgE hp hc hi hg.2 hb.2 hs) fun D σ H ⟨r,G,si,q⟩ => ⟨r,G,si,zac (zbV si rfl q) fun ds q J G0 H0 w0 Y => ?_⟩⟩
  refine ⟨fun i n σ H => ∃ r G,SI X g m r G σ H∧Gle G0 G∧i≤ds.length∧n = ds.length - i∧oTo X g ro m mb G D (forF ft s1 (ds.drop i) r),⟨ds.length,r,G0,si.grow w0,Gle.refl G0,Nat.zero_le _,rfl,oTo.gle q w0.ge⟩,?_⟩
  rintro i n σ1 H1 ⟨r1,G1,si1,le1,hi,rfl,q1⟩
  by_cases hlt : i < ds.length
  · have hd : ds.drop i = ds[i]::ds.drop (i + 1) := List.drop_eq_getElem_cons hlt
    rw [hd] at q1
    unfold forF at q1
    refine .inr ⟨Y.go G1 H1 i le1 si1.gok hlt,fun σ' H' => ∃ r G,SI X g m r G σ' H'∧Gle G0 G∧oTo X g ro m mb G D (forF ft s1 (ds.drop (i + 1)) r),fun σ' H' ⟨r',G',si',le',q'⟩ => ⟨ds.length - (i + 1),by omega,r',G',si',le',hlt,rfl,q'⟩,fun x H' y => ?_⟩
    obtain ⟨G',w',rv⟩ := Y.yld G1 H1 i x H' ds[i] le1 si1.gok y (List.getElem?_eq_getElem hlt)
    have le' : Gle G0 G' := le1.trans w'.ge
    cases eft : ft ds[i] r1 with
    | none => simp only [eft] at q1; exact q1.elim
    | some r2 =>
      simp only [eft] at q1
      refine ⟨r1,G',ds[i],si1.grow w',rv,r2,eft,fun σ2 si2 => ⟨r2,G',si2,?_⟩⟩
      cases eb : s1 r2 with
      | nx r' => simp only [eb] at q1; exact fun σ3 G3 H3 le3 si3 => ⟨r',G3,si3,le'.trans le3,oTo.gle q1 (Gle.trans w'.ge le3)⟩
      | ct r' => simp only [eb] at q1; exact fun σ3 G3 H3 le3 si3 => ⟨r',G3,si3,le'.trans le3,oTo.gle q1 (Gle.trans w'.ge le3)⟩
      | bk r' => simp only [eb] at q1; exact fun σ3 G3 H3 le3 si3 => q1 σ3 G3 H3 (Gle.trans w'.ge le3) si3
      | rt d => simp only [eb] at q1; exact q1
      | exc x r' => simp only [eb] at q1; exact fun pins e s' σ3 G3 H3 le3 => q1 pins e s' σ3 G3 H3 (Gle.trans w'.ge le3)
      | stuck => simp only [eb] at q1; exact q1
  · have e : i = ds.length := by omega
    subst e
    rw [List.drop_length] at q1
    exact .inl ⟨Y.stop G1 H1 le1 si1.gok,q1 σ1 G1 H1 (Gle.refl _) si1⟩
end
noncomputable def noX : Res D→Res D
  | .ok d => .ok d
  | _ => .stuck
@[simp] theorem noX_ok (d : D) : noX (.ok d) = .ok d := rfl
inductive ArgsOk (K : PySem.W.Frag) (G : GH) (H : Hp) : List Md→List V→List D→Prop where
  | nil : ArgsOk K G H [] [] []
  | sh {v : V} {d : D} {ms : List Md} {vs : List V} {ds : List D} : RG K G v d→ArgsOk K G H ms vs ds→ArgsOk K G H (.sh::ms) (v::vs) (d::ds)
  | bw {v : V} {d : D} {ms : List Md} {vs : List V} {ds : List D} : RB K G H v d→ArgsOk K G H ms vs ds→ArgsOk K G H (.bw::ms) (v::vs) (d::ds)
section
variable {K : PySem.W.Frag} {G G' : GH} {H H' : Hp}
theorem ArgsOk.mono : ∀ {ms : List Md} {vs : List V} {ds : List D},ArgsOk K G H ms vs ds→Grow K G H G' H'→ArgsOk K G' H' ms vs ds
  | _,_,_,.nil,_ => .nil
  | _,_,_,.sh h t,w => .sh (h.mono w.ge) (t.mono w)
  | _,_,_,.bw h t,w => .bw (h.mono w) (t.mono w)
theorem ArgsOk.len {ms : List Md} {vs : List V} {ds : List D} (h : ArgsOk K G H ms vs ds) : vs.length = ms.length∧ds.length = ms.length := by
  induction h with
  | nil => exact ⟨rfl,rfl⟩
  | sh h t ih => exact ⟨congrArg (· + 1) ih.1,congrArg (· + 1) ih.2⟩
  | bw h t ih => exact ⟨congrArg (· + 1) ih.1,congrArg (· + 1) ih.2⟩
theorem ArgsOk.app {dvs : List V} {dds : List D} (hs : Paired Scl dvs dds) : ∀ {ms : List Md} {vs : List V} {ds : List D},ArgsOk K G H ms vs ds→ArgsOk K G H (ms++List.replicate dds.length .sh) (vs++dvs) (ds++dds)
  | _,_,_,.nil => by
    induction hs with
    | nil => exact .nil
    | cons h t ih => exact .sh (.scl h) ih
  | _,_,_,.sh h t => .sh h (t.app hs)
  | _,_,_,.bw h t => .bw h (t.app hs)
theorem ArgsOk.get : ∀ {ms : List Md} {vs : List V} {ds : List D} {i : Nat} {d : D},ArgsOk K G H ms vs ds→ds[i]? = some d→∃ v,vs[i]? = some v∧((ms[i]? = some .sh∧RG K G v d)∨(ms[i]? = some .bw∧RB K G H v d))
  | _,_,_,_,_,.nil,e => by simp at e
  | _,_,_,0,_,.sh h t,e => by simp at e; subst e; exact ⟨_,rfl,.inl ⟨rfl,h⟩⟩
  | _,_,_,0,_,.bw h t,e => by simp at e; subst e; exact ⟨_,rfl,.inr ⟨rfl,h⟩⟩
  | _,_,_,i + 1,d,.sh h t,e => by
    obtain ⟨v,h1,h2⟩ := t.get (i := i) (d := d) (by simpa using e)
    exact ⟨v,by simpa using h1,by simpa using h2⟩
  | _,_,_,i + 1,d,.bw h t,e => by
    obtain ⟨v,h1,h2⟩ := t.get (i := i) (d := d) (by simpa using e)
    exact ⟨v,by simpa using h1,by simpa using h2⟩
end
noncomputable def spM (K : PySem.W.Frag) (ro : Bool) (ms : List Md) (F : List D→Res D) : Sp := fun vs H Q _ => ∃ G ds,GOk K G H∧ArgsOk K G H ms vs ds∧fin (F ds) (fun d => ∀ v G' H',Grow K G H G' H'→RV ro K H G' H' v d→Q v H') fun _ => False
noncomputable def outR (ro : Bool) : Out→Res D
  | .nx _ => if ro = true then .stuck else .ok .non
  | .rt d => .ok d
  | .exc x _ => .exc x
  | _ => .stuck
noncomputable def zaH (n : Nat) (ds : List D) : Rho := ds.map some++List.replicate (n - ds.length) none
noncomputable def zbB (n : Nat) (ms : List Md) : List Md := ms++List.replicate (n - ms.length) .sh
section
variable {P : Program} {w : World} {K : PySem.W.Frag} {mg : Str → Option Value} {base : Heap}
theorem zeg {X : Cx} {N : List Str} {ms : List Md} {vs : List V} {ds : List D} {G : GH} {H : Hp} (gk : GOk X.K G H) (rs : ArgsOk X.K G H ms vs ds) (hn : ms.length≤N.length) : SI X ⟨G,H,fun _ => none⟩ (zbB N.length ms) (zaH N.length ds) G (L2.start N vs) H := by
  obtain ⟨l1,l2⟩ := rs.len
  have e1 : (L2.start N vs).length = N.length := by unfold L2.start; rw [List.length_append,List.length_map,List.length_replicate]; omega
  have e2 : (zaH N.length ds).length = N.length := by unfold zaH; rw [List.length_append,List.length_map,List.length_replicate]; omega
  have e3 : (zbB N.length ms).length = N.length := by unfold zbB; rw [List.length_append,List.length_replicate]; omega
  have at_ : ∀ (i : Nat) d,(zaH N.length ds)[i]? = some (some d)→i < ms.length∧(zbB N.length ms)[i]? = ms[i]?∧∃ v,(L2.start N vs)[i]? = some (some v)∧((ms[i]? = some .sh∧RG X.K G v d)∨(ms[i]? = some .bw∧RB X.K G H v d)) := fun i d h => by
    unfold zaH at h
    by_cases hi : i < ds.length
    · rw [List.getElem?_append_left (by simpa using hi),List.getElem?_map] at h
      have hd : ds[i]? = some d := by
        cases z : ds[i]? with
        | none => rw [z] at h; cases h
        | some d' => rw [z] at h; cases h; rfl
      obtain ⟨v,hv,rv⟩ := rs.get hd
      refine ⟨by omega,?_,v,?_,rv⟩
      · unfold zbB
        rw [List.getElem?_append_left (by omega)]
      · unfold L2.start
        rw [List.getElem?_append_left (by rw [List.length_map]; omega),List.getElem?_map,hv]
        rfl
    · rw [List.getElem?_append_right (by simpa using hi),List.getElem?_replicate] at h
      split at h <;> cases h
  refine ⟨gk,fun _ _ e => e,fun _ _ e => e,fun _ _ => rfl,by rw [e3,e1],by rw [e1,e2],fun i d h hm => ?_,fun i d h hm => ?_,fun i d h hm => ?_,fun i j a d e _ h _ hm => ?_,fun i o h => nomatch h⟩
  · obtain ⟨_,hq,v,h1,h2⟩ := at_ i d h
    rw [hq] at hm
    rcases h2 with ⟨_,h2⟩ | ⟨h3,h2⟩
    · exact ⟨v,h1,h2⟩
    · rw [hm] at h3; cases h3
  · obtain ⟨_,hq,v,h1,h2⟩ := at_ i d h
    rw [hq] at hm
    rcases h2 with ⟨h3,h2⟩ | ⟨h3,h2⟩ <;> rw [hm] at h3 <;> cases h3
  · obtain ⟨_,hq,v,h1,h2⟩ := at_ i d h
    rw [hq] at hm
    rcases h2 with ⟨h3,h2⟩ | ⟨h3,h2⟩
    · rw [hm] at h3; cases h3
    · refine ⟨v,h1,?_⟩
      rcases h2 with h2 | ⟨a,rfl,h2⟩
      · exact .inl h2
      · exact .inr ⟨a,rfl,h2,h2.ob.isS⟩
  · obtain ⟨_,hq,v,h1,h2⟩ := at_ i d h
    rw [hq] at hm
    rcases h2 with ⟨h3,h2⟩ | ⟨h3,h2⟩ <;> rw [hm] at h3 <;> cases h3
theorem zeO {X : Cx} {ro : Bool} {fs : FS} {m' : List Md} {G : GH} {H : Hp} {r : Rho} {Q : VK} (q : fin (outR ro (fs r)) (fun d => ∀ v G' H',Grow X.K G H G' H'→RV ro X.K H G' H' v d→Q v H') fun _ => False) :
    oTo X ⟨G,H,fun _ => none⟩ ro m' [] G { nx := fun _ H' => Q .non H',rt := Q } (fs r) := by
  cases e : fs r with
  | nx r' =>
    rw [e] at q
    cases ro with
    | false => exact fun σ' G' H' _ si => q .non G' H' si.grown (.scl .non)
    | true => exact q.elim
  | rt d => rw [e] at q; exact fun v G' H' wg rv => q v G' H' wg rv
  | bk r' => rw [e] at q; exact q.elim
  | ct r' => rw [e] at q; exact q.elim
  | exc x r' => rw [e] at q; exact q.elim
  | stuck => rw [e] at q; exact q
theorem ze2 {x qual : Str} {st : Stmt} {f : Addr} {fd : FuncData} {N ps : List Str} {k : Nat} {ro : Bool} {ms : List Md} {fs : FS} {m' : List Md} (F : Fun K x qual st f fd) (S : FnScope N ps (defScope st)) (hms : ms.length = ps.length)
    (hbody : ∀ (cdv : Value) (A : Around) (outer : List Env) (s : Shared) (H : Hp) (g : GE) (E : XK),Room k (A.deeper (envOfC qual (defScope st) s.heap.objs.size f cdv)) →
      SSs (cxOf CX0 P w K mg base N qual (defScope st) f cdv A outer s H E).nox g ro [] (zbB N.length ms) (defBody st) fs m') :
    FnOk P w K mg base CX0 (k + 1) f fd ps (spM K ro ms fun ds => outR ro (fs (zaH N.length ds))) := by
  refine F.ok S (fun vs H Q E ⟨G,ds,gk,rs,q⟩ => rs.len.1.trans hms) fun cdv A outer s H vs Q E hr h => ?_
  obtain ⟨G,ds,gk,rs,q⟩ := h
  have hpl : ps.length≤N.length := by have := congrArg List.length S.pre; rw [List.length_take] at this; omega
  exact ⟨_,(hbody cdv A outer s H ⟨G,H,fun _ => none⟩ E hr).2,zaH N.length ds,G,zeg gk rs (by omega),zeO q⟩
end
section
variable {X : Cx} {g : GE} {m : List Md} {e : Expr} {f : FE} {es : List Expr} {fl : Rho → Res (List D)} {k : Nat} {fa : Addr} {fd : FuncData} {ps : List Str} {F : List D → Res D} {dvs : List V} {ds : List Value} {dds : List D} {x : Str} {p pos : Pos} {ms : List Md}
noncomputable def tLM (X : Cx) (g : GE) (m : List Md) (ms : List Md) (f : Rho→Res (List D)) : TA := fun σ H Q => ∃ r G,SI X g m r G σ H∧fin (f r) (fun ds => ∀ vs G' H',Grow X.K G H G' H'→ArgsOk X.K G' H' ms vs ds→Q vs H') (XW X σ G H)
noncomputable def SAM (X : Cx) (g : GE) (m : List Md) (es : List Expr) (ms : List Md) (f : Rho→Res (List D)) : Prop := PA X es (tLM X g m ms f)
theorem zdI : SAM X g m [] [] lNil := PA.imp za1 fun σ H Q ⟨r,G,si,k⟩ => k [] G H (Grow.refl si.gok) .nil
theorem m_bw (ha : SB X g m e f) (hr : SAM X g m es ms fl) (hs : starEach (e::es) X.env = (false,eval e X.env)::starEach es X.env := by rfl) : SAM X g m (e::es) (.bw::ms) (zae f fl) := by
  refine PA.imp (zam ha hr hs) fun σ H Q ⟨r,G,si,k⟩ => ⟨r,G,si,zac (zad k) fun d k1 v G1 H1 w1 r1 => ⟨r,G1,si.grow w1,?_⟩⟩
  exact zaP (zad k1) w1 fun ds z vs G2 H2 w2 r2 => z (v::vs) G2 H2 (w1.trans w2) (.bw (r1.mono w2) r2)
noncomputable def zbk (fl : Rho→Res (List D)) (dds : List D) (F : List D→Res D) : FE := fun r => (fl r).bind fun ds => noX (F (ds++dds))
theorem zd8 {ro : Bool} {vs : List V} {zs : List D} {G : GH} {H : Hp} {Q : VK} (gk : GOk X.K G H) (rs : ArgsOk X.K G H ms vs zs) (hsc : Paired Scl dvs dds) (q : fin (noX (F (zs++dds))) (fun d => ∀ v G' H',Grow X.K G H G' H'→RV ro X.K H G' H' v d→Q v H') fun _ => False) :
    spM X.K ro (ms++List.replicate dds.length .sh) F (vs++dvs) H Q E0 := by
  refine ⟨G,zs++dds,gk,rs.app hsc,?_⟩
  cases e : F (zs++dds) with
  | ok d => rw [e] at q; exact q
  | exc x => rw [e] at q; exact q.elim
  | stuck => rw [e] at q; exact q.elim
theorem zdT {α : Type} {r : Res α} {q : α→Prop} {x : D→Prop} (h : fin r q x) (hr : ∀ e,r≠.exc e) : fin r q fun _ => False := by
  cases r with
  | ok a => exact h
  | exc e => exact absurd rfl (hr e)
  | stuck => exact h
theorem zgZ (r : Res D) (e : D) : noX r≠.exc e := by cases r <;> simp [noX]
theorem zgq (G1 : FnOk X.prog X.w X.K X.mg X.base CX0 k fa fd ps (spM X.K false (ms++List.replicate dds.length .sh) F)) (hr : Room k X.A) (hg : Gl X x) (hm : X.mg x = some (.ref fa)) (hk : PySem.W.keepIn X.K (.ref fa) = true) (hb : zbw X.K fd ps ds) (hd : Vals dvs ds) (hsc : Paired Scl dvs dds)
    (ha : SAM X g m (e::es) ms fl) (hdb : (x == ("__debug__" : Str)) = false := by decide) (he : starEach (e::es) X.env = (false,eval e X.env)::starEach es X.env := by rfl) (hpl : (backTo pos (starEach es X.env)).any (·.1) = false := by rfl) :
    SE X g m (.Call (.Name x p) (e::es) [] pos) (zbk fl dds F) := by
  refine PE.imp (zft G1 hr hg hm hk hb hd zhY ha hdb he hpl) fun σ H Q ⟨r,G,si,q⟩ => ⟨r,G,si,?_⟩
  cases ez : fl r with
  | ok zs =>
    unfold zbk at q
    rw [ez] at q
    intro vs G' H' w' rs
    exact zd8 w'.ok rs hsc (zac (zdT q (zgZ _)) fun d k v G2 H2 w2 rv => k v G2 H2 (w'.trans w2) rv)
  | exc x => unfold zbk at q; rw [ez] at q; exact q
  | stuck => unfold zbk at q; rw [ez] at q; exact q
end
end DL
end
section
namespace DL
open PySem PySem.Spec PyProof.Rows L2
theorem zeK {env : Env} : ∀ (l : List (Str × NameKind)) (cs : List (Str × Addr)),(∀ x∈l,x.2 = .free→∃ c,env.cells.lookup x.1 = some c)→(∀ x c,cs.lookup x = some c→env.cells.lookup x = some c) →
    ∃ cl,(forIn l cs (fun (x : Str × NameKind) (cs : List (Str × Addr)) => if (x.2 == NameKind.free) = true then (do let a ← cellOf env x.1; pure (ForInStep.yield ((x.1,a)::cs))) else pure (ForInStep.yield cs)) : Sem (List (Str × Addr))) = pure cl ∧
      (∀ x c,cl.lookup x = some c→env.cells.lookup x = some c)∧(∀ x,(x,NameKind.free)∈l→∃ c,cl.lookup x = some c)∧(∀ x c,cs.lookup x = some c→∃ c',cl.lookup x = some c') := by
  intro l
  induction l with
  | nil => intro cs _ h; exact ⟨cs,rfl,h,fun x hx => (by cases hx),fun x c h => ⟨c,h⟩⟩
  | cons y l ih =>
    intro cs hf hc
    obtain ⟨n,k⟩ := y
    by_cases hk : k = .free
    · subst hk
      obtain ⟨c,ec⟩ := hf (n,.free) List.mem_cons_self rfl
      have e1 : cellOf env n = pure c := by unfold cellOf; rw [ec]
      have hc' : ∀ x c',((n,c)::cs).lookup x = some c'→env.cells.lookup x = some c' := fun x c' h => by
        rw [List.lookup_cons] at h
        cases q : x == n with
        | true => rw [q] at h; cases h; rw [eq_of_beq q]; exact ec
        | false => rw [q] at h; exact hc x c' h
      obtain ⟨cl,e2,h1,h2,h3⟩ := ih ((n,c)::cs) (fun x hx => hf x (List.mem_cons_of_mem _ hx)) hc'
      refine ⟨cl,?_,h1,fun x hx => ?_,fun x c' h => ?_⟩
      · rw [← e2]
        rw [List.forIn_cons]
        show (cellOf env n >>= fun a => pure (ForInStep.yield ((n,a)::cs))) >>= _ = _
        rw [e1]
        rfl
      · rcases List.mem_cons.mp hx with z | z
        · cases z; exact h3 n c (by rw [List.lookup_cons]; simp)
        · exact h2 x z
      · cases q : x == n with
        | true => exact h3 x c (by rw [List.lookup_cons,q])
        | false => exact h3 x c' (by rw [List.lookup_cons,q]; exact h)
    · obtain ⟨cl,e2,h1,h2,h3⟩ := ih cs (fun x hx => hf x (List.mem_cons_of_mem _ hx)) hc
      have hb : (k == NameKind.free) = false := by simpa using hk
      refine ⟨cl,?_,h1,fun x hx => ?_,h3⟩
      · rw [← e2,List.forIn_cons]
        simp only [hb,Bool.false_eq_true,if_false]
        rfl
      · rcases List.mem_cons.mp hx with z | z
        · cases z; exact absurd rfl hk
        · exact h2 x z
theorem zdi {scope : Scope} {env : Env} (hf : ∀ x∈scope.names,x.2 = .free→∃ c,env.cells.lookup x.1 = some c) :
    ∃ cl,closureFor scope env = pure cl∧(∀ x c,cl.lookup x = some c→env.cells.lookup x = some c)∧(∀ x,(x,NameKind.free)∈scope.names→∃ c,cl.lookup x = some c) := by
  obtain ⟨cl,e,h1,h2,_⟩ := zeK scope.names [] hf (fun x c h => by cases h)
  refine ⟨cl,?_,h1,h2⟩
  have e0 : closureFor scope env = ((forIn scope.names ([] : List (Str × Addr)) (fun (x : Str × NameKind) (cs : List (Str × Addr)) => if (x.2 == NameKind.free) = true then (do let a ← cellOf env x.1; pure (ForInStep.yield ((x.1,a)::cs))) else pure (ForInStep.yield cs)) : Sem (List (Str × Addr))) >>= fun cs => pure cs) := rfl
  rw [e0,e]
  rfl
theorem zba {f : Str→NameKind→NameKind} : ∀ (l : List (Str × NameKind)) (x : Str),(l.map fun y => (y.1,f y.1 y.2)).lookup x = (l.lookup x).map (f x)
  | [],x => rfl
  | (n,k)::l,x => by
    rw [List.map_cons,List.lookup_cons,List.lookup_cons]
    cases q : x == n with
    | true => simp [eq_of_beq q]
    | false => exact zba l x
noncomputable def relK (env : Env) (n : Str) (k : NameKind) : NameKind := if (k == .free && env.scope.kind == .function && env.kindOf n == some .cell) = true then .cell else k
theorem za9 (scope : Scope) (env : Env) (x : Str) : (relabel scope env).names.lookup x = (scope.names.lookup x).map (relK env x) := by
  rw [← zba]
  unfold relabel
  congr 1
  apply List.map_congr_left
  intro y _
  obtain ⟨n,k⟩ := y
  show (if (k == NameKind.free && env.scope.kind == .function && env.kindOf n == some .cell) = true then (n,NameKind.cell) else (n,k)) = (n,relK env n k)
  unfold relK
  split <;> rfl
structure CompSc (X : Cx) (scope : Scope) (N' : List Str) (nl : Nat) (cap : List Nat) : Prop where
  kind : scope.kind = .function
  nocell : ∀ y∈scope.names,y.2≠.cell
  names : ∀ y∈scope.names,y.2 = .local→scope.names.lookup y.1 = some .local
  freeK : ∀ y∈scope.names,y.2 = .free→X.env.kindOf y.1 = some .cell∨X.env.kindOf y.1 = some .free
  len : N'.length = nl + cap.length
  capN : ∀ j,j < cap.length→∃ x,N'[nl + j]? = some x∧X.N[cap.getD j 0]? = some x∧scope.names.lookup x = some .free
noncomputable def cxC (X : Cx) (s₀ : Shared) (H₀ : Hp) (N' : List Str) (scope : Scope) (cl : List (Str × Addr)) (C : Addr) (fp : List Addr) : Cx where
  prog := X.prog
  w := X.w
  K := X.K
  mg := X.mg
  base := X.base
  A := X.A
  N := N'
  s₀ := s₀
  H₀ := H₀
  env := compEnvC scope cl C X.env
  outer := X.stack
  stack := X.stack
  ex := fp
  fn := fun _ => false
  calm := X.calm
  pn := []
  xe := fun _ _ => False
section
variable {X : Cx} {pins : List (Addr × Obj)} {σ : L2.St} {H : Hp} {s : Shared} {scope : Scope} {N' : List Str} {nl : Nat} {cap : List Nat} {cl : List (Str × Addr)} {C : Addr} {fp : List Addr}
theorem zhv (I : Inv X pins σ H s) (sc : CompSc X scope N' nl cap) (h1 : ∀ x c,cl.lookup x = some c→X.env.cells.lookup x = some c) (h2 : ∀ x,(x,NameKind.free)∈scope.names→∃ c,cl.lookup x = some c)
    (hf : ∀ b∈fp,FpOk X pins H b∧b < s.heap.objs.size) (hC : s.heap.objs.size≤C) : (cxC X s H N' scope cl C fp).Ok where
  mod := I.ok.mod
  kind := sc.kind
  glob := I.ok.glob
  blt := I.ok.blt
  above := hC
  inj := fun x y c a b => I.ok.inj x y c (h1 x c a) (h1 y c b)
  has := fun x hk => by
    have hk' : (scope.names.lookup x).map (relK X.env x) = some .cell∨(scope.names.lookup x).map (relK X.env x) = some .free := by
      rw [← za9]; exact hk
    cases e : scope.names.lookup x with
    | none => rw [e] at hk'; rcases hk' with z | z <;> cases z
    | some k =>
      have hm := PySem.mem_of_lookup e
      have kf : k = .free := by
        rw [e] at hk'
        have hk2 : relK X.env x k = .cell∨relK X.env x k = .free := by
          rcases hk' with z | z
          · exact .inl (Option.some.inj z)
          · exact .inr (Option.some.inj z)
        unfold relK at hk2
        split at hk2
        · rename_i hc
          simp only [Bool.and_eq_true,beq_iff_eq] at hc
          exact hc.1.1
        · rcases hk2 with z | z
          · exact absurd z (sc.nocell _ hm)
          · exact z
      subst kf
      exact h2 x hm
  cab := fun x c h => by cases h
  hd := I.ok.hd
  frames := I.ok.frames
  stk := .inl rfl
  exf := fun b hb => ⟨Nat.ne_of_lt (Nat.lt_of_lt_of_le (hf b hb).2 hC),fun x c e => (hf b hb).1.2.2.2.2.1 x c (h1 x c e)⟩
  bs := I.bs
  bsz := Nat.le_trans I.ok.bsz I.sz
  noex := fun b o e hb => by
    obtain ⟨_,_,_,hx,_⟩ := (hf b hb).1
    rcases hx with z | z
    · exact I.ok.noex b o e z
    · exact absurd (Nat.lt_of_lt_of_le (Heap.lt_size e) (Nat.le_trans I.ok.bsz z)) (Nat.lt_irrefl _)
  exfs := fun b hb hfs => by
    obtain ⟨_,q1,q2,_⟩ := (hf b hb).1
    rcases List.mem_cons.mp (I.stkSub b hfs) with z | z
    · exact q1 z
    · exact q2 z
  funs := I.stack
  frf := I.stkFree
end
noncomputable def zbj (ft : FT) (q : FQ) (fe : FE) (r0 : Rho) : List D→Res (List D)
  | [] => .ok []
  | d::ds => (opt (ft d r0)).bind fun r1 => (q r1).bind fun c => if c = true then (fe r1).bind fun v => (zbj ft q fe r0 ds).bind fun vs => .ok (v::vs) else zbj ft q fe r0 ds
noncomputable def capR (nl : Nat) (cap : List Nat) (r : Rho) : Rho := List.replicate nl none++cap.map fun i => r.getD i none
noncomputable def capM (nl : Nat) (cap : List Nat) (m : List Md) : List Md := List.replicate nl Md.sh++cap.map fun i => if m.getD i Md.sh = Md.sh then Md.sh else Md.bw
noncomputable def capS (nl : Nat) (cap : List Nat) (st : L2.St) : L2.St := List.replicate nl none++cap.map fun i => st.getD i none
theorem zbJ {α : Type} {nl : Nat} {cap : List Nat} {u : α} {h : Nat→α} {i : Nat} (hi : nl≤i) : (List.replicate nl u++cap.map h)[i]? = (cap[i - nl]?).map h := by
  rw [List.getElem?_append_right (by simpa using hi),List.length_replicate,List.getElem?_map]
section
variable {X : Cx} {pins : List (Addr × Obj)} {σ : L2.St} {H H' : Hp} {s : Shared} {scope : Scope} {N' : List Str} {nl : Nat} {cap : List Nat} {cl : List (Str × Addr)} {C : Addr} {fp : List Addr} {g : GE} {G G' : GH} {m : List Md} {r : Rho}
theorem zio (si : SI X g m r G σ H) (w : Grow X.K G H G' H') : SI (cxC X s H N' scope cl C fp) ⟨G,H,fun _ => none⟩ (capM nl cap m) (capR nl cap r) G' (capS nl cap σ) H' := by
  have lens : (capM nl cap m).length = nl + cap.length := by simp [capM]
  have lens2 : (capR nl cap r).length = nl + cap.length := by simp [capR]
  have lens3 : (capS nl cap σ).length = nl + cap.length := by simp [capS]
  have rget : ∀ (i : Nat) d,(capR nl cap r)[i]? = some (some d)→nl≤i∧∃ j,cap[i - nl]? = some j∧r[j]? = some (some d) := fun i d h => by
    by_cases hi : i < nl
    · unfold capR at h
      rw [List.getElem?_append_left (by simpa using hi),List.getElem?_replicate] at h
      split at h <;> cases h
    · refine ⟨by omega,?_⟩
      unfold capR at h
      rw [zbJ (by omega)] at h
      cases e : cap[i - nl]? with
      | none => rw [e] at h; cases h
      | some j =>
        rw [e] at h
        refine ⟨j,rfl,?_⟩
        have h' : r.getD j none = some d := Option.some.inj h
        rw [List.getD_eq_getElem?_getD] at h'
        cases e2 : r[j]? with
        | none => rw [e2] at h'; cases h'
        | some o => rw [e2] at h'; rw [show o = some d from h']
  have mget : ∀ (i j : Nat) md,nl≤i→cap[i - nl]? = some j→(capM nl cap m)[i]? = some md→md = if m.getD j Md.sh = Md.sh then Md.sh else Md.bw := fun i j md hi hj h => by
    unfold capM at h
    rw [zbJ hi,hj] at h
    exact (Option.some.inj h).symm
  have sget : ∀ (i j : Nat) v,nl≤i→cap[i - nl]? = some j→σ[j]? = some (some v)→(capS nl cap σ)[i]? = some (some v) := fun i j v hi hj h => by
    unfold capS
    rw [zbJ hi,hj]
    show some (σ.getD j none) = _
    rw [List.getD_eq_getElem?_getD,h]
    rfl
  have mj : ∀ (j : Nat) d,r[j]? = some (some d)→m[j]? = some (m.getD j Md.sh) := fun j d h => by
    have hl : j < m.length := by
      have := (List.getElem?_eq_some_iff.mp h).1
      rw [si.lr,← si.lm] at this; exact this
    rw [List.getD_eq_getElem?_getD,List.getElem?_eq_getElem hl]
    rfl
  refine ⟨w.ok,w.he,w.ge,w.gf,by rw [lens,lens3],by rw [lens2,lens3],fun i d h hm => ?_,fun i d h hm => ?_,fun i d h hm => ?_,fun i j a d e _ h _ hm => ?_,fun i o h => nomatch h⟩
  · obtain ⟨hi,j,hj,hr⟩ := rget i d h
    have e := mget i j _ hi hj hm
    have hsh : m.getD j Md.sh = Md.sh := by
      by_cases z : m.getD j Md.sh = Md.sh
      · exact z
      · rw [if_neg z] at e; cases e
    obtain ⟨v,h1,h2⟩ := si.sh j d hr (by rw [mj j d hr,hsh])
    exact ⟨v,sget i j v hi hj h1,h2.mono w.ge⟩
  · obtain ⟨hi,j,hj,hr⟩ := rget i d h
    have e := mget i j _ hi hj hm
    split at e <;> cases e
  · obtain ⟨hi,j,hj,hr⟩ := rget i d h
    have e := mget i j _ hi hj hm
    have hsh : m.getD j Md.sh≠Md.sh := by
      intro z
      rw [if_pos z] at e; cases e
    have hmj := mj j d hr
    cases q : m.getD j Md.sh with
    | sh => exact absurd q hsh
    | ow =>
      rw [q] at hmj
      obtain ⟨a,h1,h2,_⟩ := si.ow j d hr hmj
      exact ⟨_,sget i j _ hi hj h1,.inr ⟨a,rfl,h2.mono w,h2.ob.isS⟩⟩
    | bw =>
      rw [q] at hmj
      obtain ⟨v,h1,h2⟩ := si.bw j d hr hmj
      refine ⟨v,sget i j _ hi hj h1,?_⟩
      rcases h2 with h2 | ⟨a,rfl,h2,_⟩
      · exact .inl (h2.mono w.ge)
      · exact .inr ⟨a,rfl,h2.mono w,h2.ob.isS⟩
  · obtain ⟨hi,j',hj,hr⟩ := rget i d h
    have e := mget i j' _ hi hj hm
    split at e <;> cases e
theorem zhw (I : Inv X pins σ H s) (ok : (cxC X s H N' scope cl C fp).Ok) (sc : CompSc X scope N' nl cap) (h1 : ∀ x c,cl.lookup x = some c→X.env.cells.lookup x = some c) (h2 : ∀ x,(x,NameKind.free)∈scope.names→∃ c,cl.lookup x = some c)
    (hN : X.N.Nodup) {s4 : Shared} {H4 : Hp} {mc : Str→Option Value} (hos : s4.os = s.os) (hb : AllBare s4.gens) (kp : ∀ b o,s.heap.get? b = some o→s4.heap.get? b = some o) (hns : s4.heap.Ns C mc) (hC : s.heap.objs.size≤C) (hHC : H4 C = none)
    (hH : ∀ b,H b = none→b < s.heap.objs.size→H4 b = none) (un : Un (frs X.stack) fp H H4 s.heap s4.heap) (hok : HOk X.prog X.w H4 s4.heap) : Inv (cxC X s H N' scope cl C fp) [] (capS nl cap σ) H4 s4 := by
  refine ⟨ok,hos,hb,un,⟨mc,hns,fun i x v e1 e2 e3 => ?_⟩,fun x c e => ?_,hHC,fun x c e => ?_,fun p hp => absurd (show p∈([] : List (Addr × Obj)) from hp) (by simp),hok,?_⟩
  · have hi : nl≤i := by
      by_cases z : i < nl
      · unfold capS at e2
        rw [List.getElem?_append_left (by simpa using z),List.getElem?_replicate] at e2
        split at e2 <;> cases e2
      · omega
    unfold capS at e2
    rw [zbJ hi] at e2
    cases ej : cap[i - nl]? with
    | none => rw [ej] at e2; cases e2
    | some j =>
      rw [ej] at e2
      have hj : i - nl < cap.length := (List.getElem?_eq_some_iff.mp ej).1
      obtain ⟨x',q1,q2,q3⟩ := sc.capN (i - nl) hj
      have ed : cap.getD (i - nl) 0 = j := by rw [List.getD_eq_getElem?_getD,ej]; rfl
      rw [ed] at q2
      have ei : nl + (i - nl) = i := by omega
      rw [ei] at q1
      have e1' : N'[i]? = some x := e1
      rw [q1] at e1'
      have ex : x' = x := Option.some.inj e1'
      subst ex
      have hv : σ[j]? = some (some v) := by
        have z : σ.getD j none = some v := Option.some.inj e2
        rw [List.getD_eq_getElem?_getD] at z
        cases q : σ[j]? with
        | none => rw [q] at z; cases z
        | some o => rw [q] at z; rw [show o = some v from z]
      have hfree := PySem.mem_of_lookup q3
      have kX := sc.freeK _ hfree rfl
      obtain ⟨mx,hnx,hl⟩ := I.loc
      obtain ⟨u,ru,lk⟩ := hl j x' v q2 hv (.inr kX)
      refine ⟨u,ru,.inr ?_⟩
      obtain ⟨c,ec⟩ := h2 x' hfree
      have hkk : Env.kindOf (cxC X s H N' scope cl C fp).env x' = some .cell∨Env.kindOf (cxC X s H N' scope cl C fp).env x' = some .free := by
        have z : (relabel scope X.env).names.lookup x' = some (relK X.env x' .free) := by rw [za9,q3]; rfl
        show (relabel scope X.env).names.lookup x' = _∨(relabel scope X.env).names.lookup x' = _
        rw [z]
        unfold relK
        split
        · exact .inl rfl
        · exact .inr rfl
      refine ⟨hkk,c,ec,?_⟩
      rcases lk with ⟨k,_⟩ | ⟨_,c',ec',hcell⟩
      · rcases kX with z | z <;> rw [k] at z <;> cases z
      · rw [h1 x' c ec] at ec'
        cases ec'
        obtain ⟨o,ho,hd⟩ := hcell
        exact ⟨o,kp c o ho,hd⟩
  · obtain ⟨v,o,ho,hd⟩ := I.cell x c (h1 x c e)
    exact ⟨v,o,kp c o ho,hd⟩
  · obtain ⟨v,o,ho,hd⟩ := I.cell x c (h1 x c e)
    exact hH c (I.freeC x c (h1 x c e)) (Heap.lt_size ho)
  · show (capS nl cap σ).length = N'.length
    rw [sc.len]
    simp [capS]
end
end DL
end
section
namespace DL
open PySem PySem.Spec PyProof.Rows L2
section
variable {prog : Program} {w : World} {A : Around} {R : Result → Shared → Prop} {s : Shared}
theorem zfX {elt target iter : Expr} {ifs : List Expr} {scope : Scope} {pos : Pos} {it acc : Value} {env : Env} (I : Nat→Shared→Prop)
    (turn : ∀ n s,I n s→wpAny (model prog w) A (pyNext it) (fun r s1 => match r with
      | none => R (.ok .next) s1
      | some v => wpAny (model prog w) A (letOwnedTupleGo target it v) (fun _ s1' => wpAny (model prog w) A (assign target env v) (fun _ s2 =>
          wpAny (model prog w) A (forIn ifs true fun c r => if r = true then do let ok ← isTrue c env (eval c env); pure (ForInStep.yield ok) else pure (ForInStep.yield r)) (fun ok s3 =>
            if ok = true then wpAny (model prog w) A (eval elt env) (fun x s4 =>
              wpAny (model prog w) A (call (.builtin "list.append") [acc,x]) (fun _ s5 => ∃ m,m < n∧I m s5) (notedBy (model prog w) A env fun e s' => R (.error e) s') s4) (notedBy (model prog w) A env fun e s' => R (.error e) s') s3
            else ∃ m,m < n∧I m s3) (notedBy (model prog w) A env fun e s' => R (.error e) s') s2) (notedBy (model prog w) A env fun e s' => R (.error e) s') s1')
          (notedBy (model prog w) A env fun e s' => R (.error e) s') s1) (notedBy (model prog w) A env fun e s' => R (.error e) s') s)
    (n : Nat) (h : I n s) : codeAny (model prog w) A (.compLoop (.ListComp elt [⟨target,iter,ifs,0⟩] scope pos) 0 it acc env) R s := by
  refine codeAny_loop rfl I (fun n s hI => ?_) n h
  show wpAny _ A ((compTurn (.ListComp elt [⟨target,iter,ifs,0⟩] scope pos) 0 it acc env).onRaise (fun x => do noteFrame x env; theTreesLotGoes x)) _ _ s
  refine wpAny_noted ?_
  rw [compTurn_list]
  refine wpAny_bind (wpAny_standAt (wpAny_bind (wpAny_mono (turn n s hI) (fun r s1 h1 => ?_) fun _ _ h' => h')))
  cases r with
  | none => exact wpAny_pure h1
  | some v =>
    refine wpAny_bind (wpAny_mono h1 (fun _ s1' h1' => ?_) fun _ _ h' => h')
    refine wpAny_bind (wpAny_mono h1' (fun _ s2 h2 => wpAny_bind (wpAny_mono h2 (fun ok s3 h3 => ?_) fun _ _ h' => h')) fun _ _ h' => h')
    cases ok with
    | false => exact wpAny_pure ⟨rfl,h3⟩
    | true =>
      exact wpAny_bind (wpAny_bind (wpAny_mono h3 (fun x s4 h4 => wpAny_bind (wpAny_mono h4 (fun _ s5 h5 => wpAny_pure (wpAny_pure ⟨rfl,h5⟩)) fun _ _ h' => h')) fun _ _ h' => h'))
end
noncomputable def SQs (X : Cx) (g : GE) (m : List Md) (ifs : List Expr) (f : FQ) : Prop := ∀ (pins : List (Addr × Obj)) (s : Shared) (σ : L2.St) (H : Hp) (Q : Bool→Hp→Prop),Inv X pins σ H s→tQ X g m f σ H Q →
  wpAny (model X.prog X.w) X.A (forIn ifs true fun c r => if r = true then do let ok ← isTrue c X.env (eval c X.env); pure (ForInStep.yield ok) else pure (ForInStep.yield r)) (TP X pins σ Q) X.xe s
section
variable {X : Cx} {g : GE} {m : List Md} {c : Expr} {p : FQ}
theorem zgy : SQs X g m [] fun _ => .ok true := fun pins s σ H Q I ⟨r,G,si,q⟩ => wpAny_tests_nil ⟨H,I,q G H (Grow.refl si.gok)⟩
end
noncomputable def FtOk (ft : FT) (nl : Nat) : Prop := ∀ d r r1,ft d r = some r1→r1.length = r.length∧∀ i,nl≤i→r1[i]? = r[i]?
theorem zhn {i nl : Nat} (h : i < nl) : FtOk (ftN i) nl := fun d r r1 e => by
  cases e
  exact ⟨by simp,fun j hj => by rw [List.getElem?_set_ne (by omega)]⟩
section
variable {X : Cx} {pins : List (Addr × Obj)} {σ : L2.St} {H2 : Hp} {s2 : Shared} {scope : Scope} {N' : List Str} {nl : Nat} {cap : List Nat} {cl : List (Str × Addr)} {fp : List Addr} {g : GE} {G2 : GH} {m : List Md} {r : Rho} {elt tg iter : Expr} {ifs : List Expr} {pos : Pos}
  {J : It} {it : Addr} {tn : Nat→Heap→Prop} {ds vs : List D} {ft : FT} {q : FQ} {fe : FE} {E : Value→Shared→Prop}
theorem zfY (i : Nat) : (capM nl cap m)[i]?≠some Md.ow := fun h => by
  by_cases hi : i < nl
  · unfold capM at h
    rw [List.getElem?_append_left (by simpa using hi),List.getElem?_replicate] at h
    split at h <;> cases h
  · unfold capM at h
    rw [zbJ (by omega)] at h
    cases e : cap[i - nl]? with
    | none => rw [e] at h; cases h
    | some j =>
      rw [e] at h
      have h' : (if m.getD j Md.sh = Md.sh then Md.sh else Md.bw) = Md.ow := Option.some.inj h
      split at h' <;> cases h'
theorem zd4 {i : Nat} (hi : i < nl) (d : D) : (capR nl cap r)[i]?≠some (some d) := fun h => by
  unfold capR at h
  rw [List.getElem?_append_left (by simpa using hi),List.getElem?_replicate] at h
  split at h <;> cases h
theorem zd0 (hN : X.N.Nodup) (hcalm : X.calm = true) (sc : CompSc X scope N' nl cap) (h1 : ∀ x c,cl.lookup x = some c→X.env.cells.lookup x = some c) (h2 : ∀ x,(x,NameKind.free)∈scope.names→∃ c,cl.lookup x = some c)
    (I2 : Inv X pins σ H2 s2) (si : SI X g m r G2 σ H2) (T : Turn X.prog X.w X.K tg J fp it tn) (st : tn 0 s2.heap) (hf : ∀ b∈fp,FpOk X pins H2 b) (Y : YieldsC X.K J ds G2 H2) (hsz : ds.length≤sizeLine)
    (hg : ∀ C,SG (cxC X s2 H2 N' scope cl C fp) ⟨G2,H2,fun _ => none⟩ (capM nl cap m) tg ft (capM nl cap m)) (hft : FtOk ft nl) (hq : ∀ C,SQs (cxC X s2 H2 N' scope cl C fp) ⟨G2,H2,fun _ => none⟩ (capM nl cap m) ifs q) (he : ∀ C,SE (cxC X s2 H2 N' scope cl C fp) ⟨G2,H2,fun _ => none⟩ (capM nl cap m) elt fe)
    (hres : zbj ft q fe (capR nl cap r) ds = .ok vs) {RR : Value→Addr→Result→Shared→Prop}
    (hRR : ∀ (p C : Addr) (s' : Shared) (H' : Hp) (G' : GH),Inv X pins σ H' s'→(∃ mm,s'.heap.Ns C mm)→H' C = none→C≠X.env.locals→X.s₀.heap.objs.size≤C→(∀ x c,X.env.cells.lookup x = some c→c≠C)→(∀ z∈X.pn++pins,z.1≠C) →
      Grow X.K G2 H2 G' H'→H2 p = none→Own X.K G' H' p (.lst vs)→RR (.ref p) C (.ok .next) s') :
    wpAny (model X.prog X.w) X.A (newList []) (fun acc s3 => wpAny (model X.prog X.w) X.A (newFunctionEnv scope X.env.globals cl [] X.env.qual none .none (some X.env)) (fun cenv s4 =>
      codeAny (model X.prog X.w) X.A (.compStart (.ListComp elt [⟨tg,iter,ifs,0⟩] scope pos) 0 (.ref it) acc { cenv with scope := relabel scope X.env }) (RR acc cenv.locals) s4) E s3) E s2 := by
  refine wpAny_newObj_type (wpAny_newFunctionEnv sc.nocell (by intro y hy; simp at hy) (fun h₁ hns₁ hsb₁ => ?_) sc.kind)
  dsimp only at hns₁ hsb₁ ⊢
  generalize hH2 : s2.heap.push { cls := .type "list",dict := none,data := .seq ([] : List Value).toArray } = HH at hns₁ hsb₁ ⊢
  have hC : HH.objs.size = s2.heap.objs.size + 1 := by rw [← hH2,Heap.size_push]
  have hDC : s2.heap.objs.size≠HH.objs.size := by rw [hC]; exact Nat.ne_of_lt (Nat.lt_succ_self _)
  have hCle : s2.heap.objs.size≤HH.objs.size := by rw [hC]; exact Nat.le_succ _
  have below : ∀ b,b < s2.heap.objs.size→b≠HH.objs.size∧b≠s2.heap.objs.size := fun b hb => ⟨by rw [hC]; exact Nat.ne_of_lt (Nat.lt_succ_of_lt hb),Nat.ne_of_lt hb⟩
  have old : ∀ b o,s2.heap.get? b = some o→h₁.get? b = some o := fun b o e => hsb₁.extBut b o (below b (Heap.lt_size e)).1 (Heap.get?_push_of_some _ (hH2 ▸ Heap.get?_push_of_some _ e))
  have hacc : h₁.get? s2.heap.objs.size = some { cls := .type "list",dict := none,data := .seq ([] : List Value).toArray } := hsb₁.extBut _ _ hDC (Heap.get?_push_of_some _ (hH2 ▸ Heap.get?_push_size _ rfl))
  have hp2 : H2 s2.heap.objs.size = none := I2.hok.fresh (Nat.le_refl _)
  have hflt : ∀ b∈fp,FpOk X pins H2 b∧b < s2.heap.objs.size := fun b hb => ⟨hf b hb,by
    obtain ⟨o,e,_⟩ := T.obj 0 s2.heap st b hb
    exact Heap.lt_size e⟩
  have ok := zhv (fp := fp) I2 sc h1 h2 hflt hCle
  generalize hXX : cxC X s2 H2 N' scope cl HH.objs.size fp = XX at ok
  have hG2p : G2 s2.heap.objs.size = none := si.gok.isN hp2
  have w0 : Grow X.K G2 H2 G2 (upd H2 s2.heap.objs.size (.lst [])) := Grow.new si.gok hp2 _
  have hok4 : HOk X.prog X.w (upd H2 s2.heap.objs.size (.lst [])) h₁ := I2.hok.laid old (Nat.le_refl _) ⟨Nat.zero_le _,[],0,.nil,hacc⟩
  have IC : Inv XX [] (capS nl cap σ) (upd H2 s2.heap.objs.size (.lst [])) { s2 with heap := h₁,toks := s2.toks + ([] : List (Str × Value)).length } := by
    subst hXX
    refine zhw I2 ok sc h1 h2 hN rfl I2.bare old hns₁ hCle ?_ (fun b hb hlt => ?_) (Un.laid old (Nat.le_refl _) hp2) hok4
    · rw [zaa (Ne.symm hDC)]; exact I2.hok.fresh hCle
    · rw [zaa (below b hlt).2]; exact hb
  have SC : SI XX ⟨G2,H2,fun _ => none⟩ (capM nl cap m) (capR nl cap r) G2 (capS nl cap σ) (upd H2 s2.heap.objs.size (.lst [])) := by
    subst hXX
    exact zio si w0
  have hst₁ : tn 0 h₁ := T.keep _ _ _ st fun b _ o e => old b o e
  have hfX : ∀ (H' : Hp),(∀ b∈fp,H' b = none)→∀ b∈fp,FpOk XX [] H' b := fun H' hn b hb => by
    clear IC SC
    subst hXX
    obtain ⟨z0,z1,z2,z3,z4,z5⟩ := hf b hb
    refine ⟨hn b hb,?_,?_,?_,?_,?_⟩
    · exact (below b (hflt b hb).2).1
    · intro hfs
      rcases List.mem_cons.mp (I2.stkSub b hfs) with z | z
      · exact z1 z
      · exact z2 z
    · exact .inl hb
    · exact fun x c e => z4 x c (h1 x c e)
    · intro p hp; exact absurd (show p∈([] : List (Addr × Obj)) from hp) (by simp)
  have eA : XX.A = X.A := Eq.rec (motive := fun z _ => z.A = X.A) rfl hXX
  have eP : XX.prog = X.prog := Eq.rec (motive := fun z _ => z.prog = X.prog) rfl hXX
  have eW : XX.w = X.w := Eq.rec (motive := fun z _ => z.w = X.w) rfl hXX
  have eK : XX.K = X.K := Eq.rec (motive := fun z _ => z.K = X.K) rfl hXX
  have eX : XX.xe = fun _ _ => False := Eq.rec (motive := fun z _ => z.xe = fun _ _ => False) rfl hXX
  have eE : XX.env = compEnvC scope cl HH.objs.size X.env := Eq.rec (motive := fun z _ => z.env = compEnvC scope cl HH.objs.size X.env) rfl hXX
  have eC : XX.calm = true := Eq.rec (motive := fun z _ => z.calm = true) hcalm hXX
  have eH : XX.H₀ = H2 := Eq.rec (motive := fun z _ => z.H₀ = H2) rfl hXX
  have hg' : PG XX tg (tG XX ⟨G2,H2,fun _ => none⟩ (capM nl cap m) (capM nl cap m) ft) := Eq.rec (motive := fun z _ => PG z tg (tG z ⟨G2,H2,fun _ => none⟩ (capM nl cap m) (capM nl cap m) ft)) (hg _).2 hXX
  have hq' : SQs XX ⟨G2,H2,fun _ => none⟩ (capM nl cap m) ifs q := Eq.rec (motive := fun z _ => SQs z ⟨G2,H2,fun _ => none⟩ (capM nl cap m) ifs q) (hq _) hXX
  have he' : SE XX ⟨G2,H2,fun _ => none⟩ (capM nl cap m) elt fe := Eq.rec (motive := fun z _ => SE z ⟨G2,H2,fun _ => none⟩ (capM nl cap m) elt fe) (he _) hXX
  have fin' : ∀ {H' : Hp} {s' : Shared} {σ' : L2.St} {G' : GH} {ws : List V},Inv XX [] σ' H' s'→Grow X.K G2 H2 G' H'→H' s2.heap.objs.size = some (.lst ws)→G' s2.heap.objs.size = none→RGs X.K G' ws vs→RR (.ref s2.heap.objs.size) HH.objs.size (.ok .next) s' := fun {H' s' σ' G' ws} J1 wg hpp hgp rs => by
    clear IC SC hfX hg' hq' he' eA eP eW eK eX eE eC eH
    subst hXX
    have un := J1.base
    refine hRR _ _ s' H' G' ?_ (let ⟨mm,hn,_⟩ := J1.loc; ⟨mm,hn⟩) J1.free (Nat.ne_of_gt (Nat.lt_of_lt_of_le I2.lt hCle)) (Nat.le_trans I2.sz hCle) (fun x c e z => ?_) (fun z hz e => ?_) wg hp2 ⟨hgp,.lst hpp rs⟩
    · refine I2.call' J1.os un J1.hok J1.bare fun b hb => ?_
      obtain ⟨z0,z1,z2,z3,z4,z5⟩ := hf b hb
      exact ⟨z3,z1,z4,z5⟩
    · obtain ⟨v,o,ho,_⟩ := I2.cell x c e
      exact absurd (Nat.lt_of_lt_of_le (Heap.lt_size ho) hCle) (by rw [z]; exact Nat.lt_irrefl _)
    · have := (I2.pin z hz).1
      exact absurd (Nat.lt_of_lt_of_le (Heap.lt_size this) hCle) (by rw [e]; exact Nat.lt_irrefl _)
  have loop : codeAny (model X.prog X.w) X.A (.compLoop (.ListComp elt [⟨tg,iter,ifs,0⟩] scope pos) 0 (.ref it) (.ref s2.heap.objs.size) (compEnvC scope cl HH.objs.size X.env)) (RR (.ref s2.heap.objs.size) HH.objs.size)
      { s2 with heap := h₁,toks := s2.toks + ([] : List (Str × Value)).length } := by
    refine zfX (fun n s' => ∃ (i : Nat) (σ' : L2.St) (H' : Hp) (G' : GH) (ws : List V) (done rest : List D),Inv XX [] σ' H' s'∧SI XX ⟨G2,H2,fun _ => none⟩ (capM nl cap m) (capR nl cap r) G' σ' H'∧tn i s'.heap∧(∀ b∈fp,H' b = none)∧Grow X.K G2 H2 G' H' ∧
        H' s2.heap.objs.size = some (.lst ws)∧G' s2.heap.objs.size = none∧RGs X.K G' ws done∧zbj ft q fe (capR nl cap r) (ds.drop i) = .ok rest∧vs = done++rest∧done.length≤i∧i≤ds.length∧n = ds.length - i) ?_ ds.length
      ⟨0,_,_,G2,[],[],vs,IC,SC,hst₁,fun b hb => ?_,w0,zab,hG2p,.nil,hres,rfl,Nat.le_refl _,Nat.zero_le _,rfl⟩
    rotate_left
    · rw [zaa (below b (hflt b hb).2).2]; exact (hf b hb).1
    rintro n s3 ⟨i,σ3,H3,G3,ws,done,rest,I3,S3,st3,fr3,w3,hp3,hg3,rs3,hr3,hv3,hd3,hi3,rfl⟩
    have weaken : ∀ {α : Type} {t : Sem α} {Q : α→Shared→Prop} {s' : Shared} {E' : Value→Shared→Prop},wpAny (model XX.prog XX.w) XX.A t Q XX.xe s'→wpAny (model X.prog X.w) X.A t Q E' s' := fun h => by
      rw [eP,eW,eA,eX] at h
      exact wpAny_mono h (fun _ _ z => z) fun _ _ z => z.elim
    by_cases hlt : i < ds.length
    · have hd : ds.drop i = ds[i]::ds.drop (i + 1) := List.drop_eq_getElem_cons hlt
      rw [hd] at hr3
      unfold zbj at hr3
      have it3 := T.item XX eP eW eK eC i [] s3 σ3 H3 (notedBy (model X.prog X.w) X.A (compEnvC scope cl HH.objs.size X.env) fun e s' => RR (.ref s2.heap.objs.size) HH.objs.size (.error e) s') I3 (hfX H3 fr3) st3 (Y.go G3 H3 i w3 hlt)
      rw [eA] at it3
      refine thn it3 fun rr s4 ⟨u,hr,h4⟩ => ?_
      subst hr
      refine thn h4 fun _ s5 ⟨x,H5,I5,r5,y5,st5,fr5⟩ => ?_
      obtain ⟨G5,w5,rv5⟩ := Y.yld G3 H3 i x H5 ds[i] w3 y5 (List.getElem?_eq_getElem hlt)
      have w25 := w3.trans w5
      cases eft : ft ds[i] (capR nl cap r) with
      | none => rw [eft] at hr3; cases hr3
      | some r1 =>
        rw [eft] at hr3
        simp only [opt_some,bind_ok] at hr3
        have I5' := I5.pinned (hfX H5 fr5) (T.obj _ _ st5)
        have S5 : SI XX ⟨G2,H2,fun _ => none⟩ (capM nl cap m) (capR nl cap r) G5 σ3 H5 := S3.grow (by rw [eK]; exact w5)
        have rv5' : RG XX.K G5 x ds[i] := by rw [eK]; exact rv5
        have as5 := hg' _ s5 σ3 H5 x u (fun σ6 H6 => H6 = H5∧SI XX ⟨G2,H2,fun _ => none⟩ (capM nl cap m) r1 G5 σ6 H5) I5' r5 ⟨capR nl cap r,G5,ds[i],S5,rv5',r1,eft,fun σ6 si6 => ⟨rfl,si6⟩⟩
        rw [eE] at as5
        refine thn (weaken as5) fun _ s6 ⟨σ6,H6,I6,e6,S6⟩ => ?_
        subst e6
        obtain ⟨fl1,fl2⟩ := hft _ _ _ eft
        cases eq1 : q r1 with
        | stuck => rw [eq1] at hr3; cases hr3
        | exc xx => rw [eq1] at hr3; cases hr3
        | ok b1 =>
          rw [eq1] at hr3
          simp only [bind_ok] at hr3
          have te6 := hq' _ s6 σ6 H6 (fun b H7 => b = b1∧∃ G7,Grow X.K G5 H6 G7 H7) I6 ⟨r1,G5,S6,by rw [eq1]; exact fun G7 H7 w7 => ⟨rfl,G7,by rw [eK] at w7; exact w7⟩⟩
          rw [eE] at te6
          refine thn (weaken te6) fun b s7 ⟨H7,I7,eb,G7,w7⟩ => ?_
          subst eb
          have S7 : SI XX ⟨G2,H2,fun _ => none⟩ (capM nl cap m) r1 G7 σ6 H7 := S6.grow (by rw [eK]; exact w7)
          have w27 := w25.trans w7
          have hp7 : H7 s2.heap.objs.size = some (.lst ws) := w7.he _ _ (w5.he _ _ hp3)
          have hg7 : G7 s2.heap.objs.size = none := by
            rw [w7.gf _ (by rw [w5.he _ _ hp3]; simp),w5.gf _ (by rw [hp3]; simp)]; exact hg3
          have back : ∀ {σ8 : L2.St} {H8 : Hp} {G8 : GH} {s8 : Shared},Inv XX ([]++zb9 fp s5.heap) σ8 H8 s8→Inv XX [] σ8 H8 s8∧tn (i + 1) s8.heap∧∀ b∈fp,H8 b = none := fun {σ8 H8 G8 s8} I8 => by
            refine ⟨I8.unpinned,T.keep _ _ _ st5 fun b hb o e => (I8.pin (b,o) (List.mem_append_right _ (List.mem_append_right _ (za6 hb e)))).1,fun b hb => ?_⟩
            obtain ⟨o,e,_⟩ := T.obj _ _ st5 b hb
            exact (I8.pin (b,o) (List.mem_append_right _ (List.mem_append_right _ (za6 hb e)))).2.1
          have less : ∀ {σ8 : L2.St} {H8 : Hp} {G8 : GH},SI XX ⟨G2,H2,fun _ => none⟩ (capM nl cap m) r1 G8 σ8 H8→SI XX ⟨G2,H2,fun _ => none⟩ (capM nl cap m) (capR nl cap r) G8 σ8 H8 := fun h => h.less fl1.symm fun j d hj => by
            by_cases hjn : j < nl
            · exact absurd hj (zd4 hjn d)
            · rw [fl2 j (by omega)]; exact hj
          cases b with
          | false =>
            rw [if_neg Bool.false_ne_true] at hr3 ⊢
            obtain ⟨I7',t7,f7⟩ := back (G8 := G7) I7
            exact ⟨ds.length - (i + 1),by omega,i + 1,σ6,H7,G7,ws,done,rest,I7',less S7,t7,f7,w27,hp7,hg7,rs3.mono (Gle.trans w5.ge w7.ge),hr3,hv3,by omega,hlt,rfl⟩
          | true =>
            rw [if_pos rfl] at hr3 ⊢
            cases ee1 : fe r1 with
            | stuck => rw [ee1] at hr3; cases hr3
            | exc xx => rw [ee1] at hr3; cases hr3
            | ok d1 =>
              rw [ee1] at hr3
              simp only [bind_ok] at hr3
              cases er : zbj ft q fe (capR nl cap r) (ds.drop (i + 1)) with
              | stuck => rw [er] at hr3; cases hr3
              | exc xx => rw [er] at hr3; cases hr3
              | ok rest' =>
                rw [er] at hr3
                simp only [bind_ok] at hr3
                cases hr3
                have el7 := he' _ s7 σ6 H7 (fun v H8 => ∃ G8,Grow X.K G7 H7 G8 H8∧RG X.K G8 v d1) I7 ⟨r1,G7,S7,by rw [ee1]; exact fun v G8 H8 w8 rv => ⟨G8,by rw [eK] at w8; exact w8,by rw [eK] at rv; exact rv⟩⟩
                rw [eE] at el7
                refine thn (weaken el7) fun u8 s8 ⟨v8,H8,I8,r8,G8,w8,rv8⟩ => ?_
                have hp8 : H8 s2.heap.objs.size = some (.lst ws) := w8.he _ _ hp7
                have hg8 : G8 s2.heap.objs.size = none := by rw [w8.gf _ (by rw [hp7]; simp)]; exact hg7
                have S8 : SI XX ⟨G2,H2,fun _ => none⟩ (capM nl cap m) r1 G8 σ6 H8 := S7.grow (by rw [eK]; exact w8)
                have hlen := Paired.length rs3
                have ap8 := zdG (X := XX) _ s8 σ6 H8 (.ref s2.heap.objs.size) [v8] (.ref s2.heap.objs.size) [u8] (fun v H9 => H9 = upd H8 s2.heap.objs.size (.lst (ws++[v8]))) I8 rfl (.cons r8 .nil) ⟨_,ws,v8,rfl,rfl,hp8,by omega,rfl⟩
                refine thn (weaken ap8) fun u9 s9 ⟨v9,H9,I9,r9,e9⟩ => ?_
                subst e9
                obtain ⟨I9',t9,f9⟩ := back (G8 := G8) I9
                have rsn : RGs X.K G8 (ws++[v8]) (done++[d1]) := Paired.snoc (rs3.mono (Gle.trans (Gle.trans w5.ge w7.ge) w8.ge)) rv8
                have w28 := w27.trans w8
                refine ⟨ds.length - (i + 1),by omega,i + 1,σ6,_,G8,ws++[v8],done++[d1],rest',I9',less (S8.other hg8 hp2 zfY _),t9,f9,?_,zab,hg8,rsn,er,by rw [hv3,List.append_assoc]; rfl,by rw [List.length_append,List.length_singleton]; omega,hlt,rfl⟩
                refine ⟨fun b e hb => (w28.ok b e hb).mono (fun _ _ z => z) fun o z => ?_,fun b o hb => ?_,w28.ge,w28.gf⟩
                · rw [zaa (by rintro rfl; rw [hg8] at hb; cases hb)]; exact z
                · rw [zaa (by rintro rfl; rw [hp2] at hb; cases hb)]; exact w28.he b o hb
    · have e : i = ds.length := by omega
      subst e
      rw [List.drop_length] at hr3
      cases hr3
      rw [List.append_nil] at hv3
      subst hv3
      have dn := T.done XX eP eW eK eC ds.length [] s3 σ3 H3 (notedBy (model X.prog X.w) X.A (compEnvC scope cl HH.objs.size X.env) fun e s' => RR (.ref s2.heap.objs.size) HH.objs.size (.error e) s') I3 (hfX H3 fr3) st3 (Y.stop G3 H3 w3)
      rw [eA] at dn
      refine thn dn fun rr s4 ⟨hr,I4⟩ => ?_
      subst hr
      exact fin' I4 w3 hp3 hg3 rs3
  exact codeAny_compStart_list loop (T.self X.A 0 _ _ _ hst₁ loop)
end
end DL
end
section
namespace DL
open PySem PySem.Spec PyProof.Rows L2
noncomputable def noXL : Res (List D)→Res (List D)
  | .ok d => .ok d
  | _ => .stuck
@[simp] theorem noXL_ok (d : List D) : noXL (.ok d) = .ok d := rfl
noncomputable def zdg (nl : Nat) (cap : List Nat) (fi : FI) (ft : FT) (q : FQ) (fe : FE) : FE := fun r => (fi r).bind fun ds => (opt (sz ds)).bind fun ds => (noXL (zbj ft q fe (capR nl cap r) ds)).bind fun vs => .ok (.lst vs)
section
variable {X : Cx} {g : GE} {m mb : List Md} {scope : Scope} {N' : List Str} {nl : Nat} {cap : List Nat} {elt tg iter : Expr} {ifs : List Expr} {pos pos' spos : Pos} {fi : FI} {ft : FT} {q : FQ} {fe : FE} {ro : Bool}
theorem zdW {r : Rho} {P : D→Prop} {x : D→Prop} (h : fin (zdg nl cap fi ft q fe r) P x) : fin (fi r) (fun ds => ∃ vs,ds.length≤sizeLine∧zbj ft q fe (capR nl cap r) ds = .ok vs∧P (.lst vs)) x := by
  unfold zdg at h
  refine zac (zad h) fun ds h1 => ?_
  obtain ⟨ds',e2,h2⟩ := zar (zad h1)
  obtain ⟨rfl,hl⟩ := zfe e2
  cases e3 : zbj ft q fe (capR nl cap r) ds' with
  | ok vs => rw [e3] at h2; exact ⟨vs,hl,rfl,h2⟩
  | exc x => rw [e3] at h2; exact h2.elim
  | stuck => rw [e3] at h2; exact h2.elim
theorem CompSc.clo {pins : List (Addr × Obj)} {σ : L2.St} {H : Hp} {s : Shared} (sc : CompSc X scope N' nl cap) (ok : X.Ok) : ∃ cl,closureFor scope X.env = pure cl∧(∀ x c,cl.lookup x = some c→X.env.cells.lookup x = some c)∧(∀ x,(x,NameKind.free)∈scope.names→∃ c,cl.lookup x = some c) :=
  zdi fun y hy hf => ok.has y.1 (sc.freeK y hy hf)
theorem zgY (hN : X.N.Nodup) (hcalm : X.calm = true) (sc : CompSc X scope N' nl cap) (hi : SItC X g m tg iter fi) (hg : ∀ s0 H0 cl C fp g',SG (cxC X s0 H0 N' scope cl C fp) g' (capM nl cap m) tg ft (capM nl cap m)) (hft : FtOk ft nl)
    (hq : ∀ s0 H0 cl C fp g',SQs (cxC X s0 H0 N' scope cl C fp) g' (capM nl cap m) ifs q) (he : ∀ s0 H0 cl C fp g',SE (cxC X s0 H0 N' scope cl C fp) g' (capM nl cap m) elt fe)
    (hs : ∀ x,foldedSetIterable iter X.env x = pure x := by intro _; rfl) : SO X g m (.ListComp elt [⟨tg,iter,ifs,0⟩] scope pos) (zdg nl cap fi ft q fe) := by
  intro pins s σ H Q I h
  obtain ⟨r,G,si,k⟩ := h
  obtain ⟨cl,hcl,h1,h2⟩ := sc.clo (pins := pins) (σ := σ) (H := H) (s := s) I.ok
  have k1 := zdW k
  rw [eval_ListComp]
  refine wpAny_comprehension_free (use := none) rfl hs hcl sc.kind sc.names (thn (hi pins s σ H (fun J H' => ∃ G' ds vs,Grow X.K G H G' H'∧YieldsC X.K J ds G' H'∧ds.length≤sizeLine∧zbj ft q fe (capR nl cap r) ds = .ok vs ∧
    (∀ a G' H',Grow X.K G H G' H'→H a = none→Own X.K G' H' a (.lst vs)→Q (.ref a) H')) I ⟨r,G,si,zac k1 fun ds ⟨vs,z1,z2,z3⟩ J G' H' w y => ⟨G',ds,vs,w,y,z1,z2,z3⟩⟩) fun v s1 hv => thn hv fun itv s2 hv2 => ?_)
  obtain ⟨it,fp,tn,J,H2,rfl,I2,T,st,hf,G2,ds,vs,w2,Y,hsz,hres,hQ⟩ := hv2
  refine zd0 (RR := fun acc C => compPost (model X.prog X.w) X.A X.xe none (EP X pins σ Q) acc C) hN hcalm sc h1 h2 I2 (si.grow w2) T st hf Y hsz (fun C => hg _ _ _ _ _ _) hft (fun C => hq _ _ _ _ _ _) (fun C => he _ _ _ _ _ _) hres ?_
  intro p C s' H' G' I' hns hC1 hC2 hC3 hC4 hC5 w' hp ho
  obtain ⟨mm,hn⟩ := hns
  refine ⟨mm,hn,fun h' hsb => ⟨.ref p,H',?_,rfl,hQ p G' H' (w2.trans w') (w2.back hp) ho⟩⟩
  exact I'.turned (it := C) (t' := s'.toks) (fun b o hb e => hsb.extBut b o hb e) hC1 hC2.symm.symm (.inr hC3) hC4 hC5
end
end DL
end
section
namespace DL
open PySem PySem.Spec PyProof.Rows L2
section
variable {X : Cx} {g : GE} {m mb : List Md} {e a b o : Expr} {es : List Expr} {f fa fb : FE} {fl : Rho → Res (List D)} {pos pos' apos cpos : Pos} {ro : Bool} {x name : Str} {T id : String} {R : V → List V → Hp → VK → Prop} {mk : D → List D → Option D}
theorem Paired.rev {α β : Type} {F : α→β→Prop} : ∀ {l : List α} {r : List β},Paired F l r→Paired F l.reverse r.reverse
  | _,_,.nil => .nil
  | _,_,.cons h t => by rw [List.reverse_cons,List.reverse_cons]; exact Paired.snoc (Paired.rev t) h
end
noncomputable def zaV : D→Bool
  | .non => true
  | .bl _ => true
  | .int _ => true
  | .str _ => true
  | _ => false
noncomputable def toV : D→V
  | .non => .non
  | .bl b => .bl b
  | .int i => .int i
  | .str x => .str x
  | _ => .non
noncomputable def eqs (a b : D) : Bool := eqV (toV a) (toV b)
@[simp] theorem eqs_int (a b : Int) : eqs (.int a) (.int b) = (a == b) := rfl
@[simp] theorem eqs_str (a b : Str) : eqs (.str a) (.str b) = (a == b) := rfl
@[simp] theorem eqs_non_int (b : Int) : eqs .non (.int b) = false := rfl
@[simp] theorem eqs_int_non (b : Int) : eqs (.int b) .non = false := rfl
section
variable {K : PySem.W.Frag} {G : GH} {H : Hp} {v : V} {d : D}
theorem RB.flat (h : RB K G H v d) (gk : GOk K G H) (hf : zaV d = true) : v = toV d∧zbN v = true := by
  cases d with
  | non => rw [h.non gk]; exact ⟨rfl,rfl⟩
  | bl b => rw [h.bl gk]; exact ⟨rfl,rfl⟩
  | int i => rw [h.int gk]; exact ⟨rfl,rfl⟩
  | str x => rw [h.str gk]; exact ⟨rfl,rfl⟩
  | _ => cases hf
theorem zij {xs : List V} {ds : List D} (h : RGs K G xs ds) (gk : GOk K G H) (hf : ds.all zaV = true) : xs = ds.map toV∧xs.all zbN = true := by
  induction h with
  | nil => exact ⟨rfl,rfl⟩
  | cons r t ih =>
    rw [List.all_cons,Bool.and_eq_true] at hf
    obtain ⟨e1,e2⟩ := RB.flat (H := H) r.rb gk hf.1
    obtain ⟨e3,e4⟩ := ih hf.2
    exact ⟨by rw [List.map_cons,← e3,← e1],by rw [List.all_cons,e2,e4]; rfl⟩
end
noncomputable def keyD : D→Option Key
  | .int i => some (.inl i)
  | .str x => some (.inr x)
  | _ => none
noncomputable def hasK (kvs : List (Key × D)) (k : Key) : Bool := kvs.any fun kv => decide (kv.1 = k)
noncomputable def getK (kvs : List (Key × D)) (k : Key) : Option D := (kvs.find? fun kv => decide (kv.1 = k)).map (·.2)
noncomputable def inB (x c : D) : Option Bool := match c with
  | .lst ds => if zaV x = true∧ds.all zaV = true then some (ds.any fun y => eqs y x) else none
  | .tup ds => if zaV x = true∧ds.all zaV = true then some (ds.any fun y => eqs y x) else none
  | .dic kvs => (keyD x).map (hasK kvs)
  | .str y => match x with
    | .str z => some (!(Builtin.Str.occurrences y z 0 y.length 1).isEmpty)
    | _ => none
  | _ => none
noncomputable def inD (x c : D) : Option D := (inB x c).map .bl
theorem ze3 {K : PySem.W.Frag} {G : GH} {k : Key} {ps : List (Key × V)} {kvs : List (Key × D)} (h : RKs K G ps kvs) (d : D) (e : getK kvs k = some d) : ∃ v,valV ps k = some v∧RG K G v d := by
  induction h with
  | nil => cases e
  | @cons p q ps kvs r t ih =>
    obtain ⟨k1,v1⟩ := p
    obtain ⟨k2,d2⟩ := q
    obtain ⟨e1,r1⟩ := r
    have e1' : k1 = k2 := e1
    subst e1'
    by_cases hk : k1 = k
    · subst hk
      have : d2 = d := by simpa [getK,List.find?_cons] using e
      subst this
      exact ⟨v1,zbx rfl,r1⟩
    · have e' : getK kvs k = some d := by simpa [getK,List.find?_cons,hk] using e
      obtain ⟨v,h1,h2⟩ := ih e'
      exact ⟨v,by rw [zbc hk]; exact h1,h2⟩
theorem zdS {K : PySem.W.Frag} {G : GH} {k : Key} {ps : List (Key × V)} {kvs : List (Key × D)} (h : RKs K G ps kvs) (e : getK kvs k = none) : valV ps k = none := by
  induction h with
  | nil => rfl
  | @cons p q ps kvs r t ih =>
    obtain ⟨k1,v1⟩ := p
    obtain ⟨k2,d2⟩ := q
    obtain ⟨e1,r1⟩ := r
    have e1' : k1 = k2 := e1
    subst e1'
    by_cases hk : k1 = k
    · subst hk; simp [getK,List.find?_cons] at e
    · have e' : getK kvs k = none := by simpa [getK,List.find?_cons,hk] using e
      rw [zbc hk]; exact ih e'
theorem zhi (kvs : List (Key × D)) (k : Key) : hasK kvs k = (getK kvs k).isSome := by
  induction kvs with
  | nil => rfl
  | cons p r ih =>
    by_cases e : p.1 = k
    · simp [hasK,getK,List.find?_cons,e]
    · have h1 : hasK (p::r) k = hasK r k := by simp [hasK,e]
      have h2 : getK (p::r) k = getK r k := by simp [getK,List.find?_cons,e]
      rw [h1,h2,ih]
theorem zeX {K : PySem.W.Frag} {G : GH} {H : Hp} {v : V} {d : D} {k : Key} (gk : GOk K G H) (h : RB K G H v d) (e : keyD d = some k) : v = kV k := by
  cases d with
  | int i => cases e; exact h.int gk
  | str x => cases e; exact h.str gk
  | _ => cases e
section
variable {X : Cx} {g : GE} {m mb : List Md} {e a b o c : Expr} {f fa fb fc : FE} {pos pos' : Pos}
noncomputable def rInD (neg : Bool) : R2 := fun y x H Q => ∃ a o,x = .ref a∧DGet H a y o∧Q (.bl (if neg then ! o.isSome else o.isSome)) H
theorem zgU (hu : X.A.units + 1 < cLine) : OpR X (compareOp .In) (rInD false) := by
  intro pins s σ H y x u v Q I ry rx h
  obtain ⟨a,oo,rfl,hg,q⟩ := h
  cases rx
  exact d_in hu I hg ry fun s' I' => ⟨.bl _,H,I',rfl,q⟩
noncomputable def rInA (K : PySem.W.Frag) (neg : Bool) : R2 := fun x y H Q => rIn K neg x y H Q∨rInD neg x y H Q∨∃ i j,x = .str i∧y = .str j∧Q (.bl (if neg then !(!(Builtin.Str.occurrences j i 0 j.length 1).isEmpty) else !(Builtin.Str.occurrences j i 0 j.length 1).isEmpty)) H
theorem zgV (hu : X.A.units + 1 < cLine) : OpR X (compareOp .In) (rInA X.K false) := OpR.or zdE (OpR.or (zgU hu) zdD)
theorem zfM {K : PySem.W.Frag} (neg : Bool) : OpD K (rInA K neg) (fun x c => (inB x c).map fun b => .bl (if neg then ! b else b)) := by
  intro G H v1 v2 d1 d2 d Q gk r1 r2 e q
  have seq : ∀ {xs : List V} {ds : List D} {p : Addr},RGs K G xs ds→v2 = .ref p→(SqL K H p xs∨SqT K H p xs)→zaV d1 = true→ds.all zaV = true→d = .bl (if neg then !(ds.any fun y => eqs y d1) else ds.any fun y => eqs y d1)→rInA K neg v1 v2 H Q := fun {xs ds p} rs e2 hs hf hfs ed => by
    obtain ⟨e1,f1⟩ := RB.flat r1 gk hf
    obtain ⟨e3,f3⟩ := zij rs gk hfs
    refine .inl ⟨p,xs,e2,hs,f1,f3,q _ G H (Grow.refl gk) ?_⟩
    have : inV v1 xs = ds.any fun y => eqs y d1 := by
      unfold inV
      rw [e3,List.any_map,e1]
      rfl
    rw [this,ed]
    exact .scl (.bl _)
  cases d2 with
  | lst ds =>
    by_cases hc : zaV d1 = true∧ds.all zaV = true
    · simp only [inB,if_pos hc,Option.map_some] at e
      obtain ⟨p,xs,e2,hs,rs⟩ := r2.lst gk
      exact seq rs e2 (.inl hs) hc.1 hc.2 (Option.some.inj e).symm
    · simp only [inB,if_neg hc,Option.map_none] at e
      cases e
  | tup ds =>
    by_cases hc : zaV d1 = true∧ds.all zaV = true
    · simp only [inB,if_pos hc,Option.map_some] at e
      obtain ⟨p,xs,e2,hs,rs⟩ := r2.tup gk
      exact seq rs e2 (.inr hs) hc.1 hc.2 (Option.some.inj e).symm
    · simp only [inB,if_neg hc,Option.map_none] at e
      cases e
  | dic kvs =>
    simp only [inB] at e
    cases ek : keyD d1 with
    | none => rw [ek] at e; cases e
    | some k =>
      rw [ek] at e
      cases e
      obtain ⟨p,ps,rfl,hs,rs⟩ := r2.dic gk
      refine .inr (.inl ⟨p,valV ps k,rfl,by rw [zeX gk r1 ek]; exact .inl ⟨ps,k,hs,rfl,rfl⟩,q _ G H (Grow.refl gk) ?_⟩)
      have : (valV ps k).isSome = hasK kvs k := by
        rw [zhi]
        cases eg : getK kvs k with
        | none => rw [zdS rs eg]; rfl
        | some d => obtain ⟨v,h1,_⟩ := ze3 rs d eg; rw [h1]; rfl
      rw [this]
      exact .scl (.bl _)
  | str y =>
    cases d1 with
    | str z => cases e; exact .inr (.inr ⟨z,y,r1.str gk,r2.str gk,q _ G H (Grow.refl gk) (.scl (.bl _))⟩)
    | _ => cases e
  | _ => cases e
theorem zia {K : PySem.W.Frag} : OpD K (rInA K false) inD := by
  have h := zfM (K := K) false
  have e : (fun x c => (inB x c).map fun b => D.bl (if false = true then ! b else b)) = inD := by
    funext x c; unfold inD; cases inB x c <;> rfl
  rw [e] at h; exact h
theorem s_in (hu : X.A.units + 1 < cLine) (ha : SB X g m a fa) (hb : SB X g m b fb) (hm : behindInMarks .In b = false := by rfl) : SE X g m (.Compare a [.In] [b] pos) (f2 fa fb inD) := zgp (zgV hu) zia ha hb hm
noncomputable def isD : D→D→Option D
  | .non,.non => some (.bl true)
  | _,.non => some (.bl false)
  | _,_ => none
noncomputable def isnD : D→D→Option D
  | .non,.non => some (.bl false)
  | _,.non => some (.bl true)
  | _,_ => none
end
end DL
end
section
namespace DL
open PySem PySem.Spec PyProof.Rows L2
section
variable {X : Cx} {g : GE} {m mb : List Md} {e a b o c : Expr} {f fa fb fc : FE} {pos pos' p1 p2 : Pos} {ro : Bool} {x : Str}
noncomputable def rIxD : R2 := fun x y H Q => ∃ a v,x = .ref a∧DGet H a y (some v)∧Q v H
theorem zhc (hu : X.A.units + 1 < cLine) : IxR X rIxD := by
  intro value slice pins s σ H x y v u Q I rx ry h hs
  obtain ⟨a,w,rfl,hg,q⟩ := h
  cases rx
  exact tail_any (zcB I hg) PySem.F.slot_dict_getitem.lookup (zdZ hu I hg ry fun w' s' I' rw' => ⟨w,H,I',rw',q⟩) hs
noncomputable def ixA : D→D→Option D
  | .dic kvs,k => (keyD k).bind (getK kvs)
  | c,k => ixD c k
theorem zhd {K : PySem.W.Frag} : OpD K (fun x y H Q => rIxD x y H Q∨rIx K x y H Q) ixA := by
  intro G H v1 v2 d1 d2 d Q gk r1 r2 e q
  cases d1 with
  | dic kvs =>
    obtain ⟨a,ps,rfl,hs,rs⟩ := r1.dic gk
    have e' : (keyD d2).bind (getK kvs) = some d := e
    cases ek : keyD d2 with
    | none => rw [ek] at e'; cases e'
    | some k =>
      rw [ek] at e'
      obtain ⟨v,h1,h2⟩ := ze3 rs d e'
      refine .inl ⟨a,v,rfl,?_,q v G H (Grow.refl gk) h2⟩
      rw [zeX gk r2 ek,← h1]
      exact .inl ⟨ps,k,hs,rfl,rfl⟩
  | lst ds => exact .inr (zfH G H v1 v2 _ d2 d Q gk r1 r2 e q)
  | tup ds => exact .inr (zfH G H v1 v2 _ d2 d Q gk r1 r2 e q)
  | str ds => exact .inr (zfH G H v1 v2 _ d2 d Q gk r1 r2 e q)
  | _ => cases e
theorem zbS (hu : X.A.units + 1 < cLine) (ha : SB X g m a fa) (hb : SB X g m b fb) (hs : zeb b := by intro _ _; rfl) : SE X g m (.Subscript a b pos) (f2 fa fb ixA) := zfg zhd (zhW (IxR.or (zhc hu) zhb) ha hb hs)
noncomputable def putD (kvs : List (Key × D)) (k : Key) (d : D) : List (Key × D) := if (kvs.any fun kv => decide (kv.1 = k)) = true then kvs.map fun kv => if kv.1 = k then (kv.1,d) else kv else kvs++[(k,d)]
noncomputable def stoD : D→D→D→Option D
  | .lst ds,.int k,v => (ixN ds.length k).map fun j => .lst (ds.set j v)
  | .dic kvs,k,v => (keyD k).bind fun k => if kvs.length < sizeLine then some (.dic (putD kvs k v)) else none
  | _,_,_ => none
theorem PSet.or {t t' : TSet} (h : PSet X t) (h' : PSet X t') : PSet X (fun o i v H Q => t o i v H Q∨t' o i v H Q) := by
  intro pins s σ H o i v ov iv u Q I ro ri rv q
  rcases q with q | q
  · exact h pins s σ H o i v ov iv u Q I ro ri rv q
  · exact h' pins s σ H o i v ov iv u Q I ro ri rv q
noncomputable def putF (m : List Md) (i : Nat) (fk fv : FE) : FS := fun r => onE m r (fv r) fun v => match r[i]? with
  | some (some d) => onE m r (fk r) fun k => (match stoD d k v with
    | some d' => .nx (r.set i (some d'))
    | none => .stuck)
  | _ => .stuck
end
mutual
noncomputable def toPy : D→PyData
  | .non => .none
  | .bl b => .bool b
  | .int i => .int i
  | .str x => .str x
  | .tup ds => .tuple (zbl ds)
  | .lst ds => .list (zbl ds)
  | .dic _ => .none
  | .obj _ _ => .none
noncomputable def zbl : List D→List PyData
  | [] => []
  | d::ds => toPy d::zbl ds
end
noncomputable def Shp : Nat→D→Prop
  | _,.non => True
  | _,.bl _ => True
  | _,.int _ => True
  | _,.str x => PyData.strOk x = true
  | 0,.tup _ => False
  | 0,.lst _ => False
  | k + 1,.tup ds => ∀ d∈ds,Shp k d
  | k + 1,.lst ds => ∀ d∈ds,Shp k d
  | _,.dic _ => False
  | _,.obj _ _ => False
theorem zco {k : Nat} {ds : List D} : Shp (k + 1) (.lst ds)↔∀ d∈ds,Shp k d := by simp only [Shp]
theorem zcn {k : Nat} {ds : List D} : Shp (k + 1) (.tup ds)↔∀ d∈ds,Shp k d := by simp only [Shp]
noncomputable def eqb (a b : D) : Bool := PyData.eqv (toPy a) (toPy b)
section
variable {X : Cx} {pins : List (Addr × Obj)} {σ : L2.St} {H : Hp} {s : Shared} {G : GH}
theorem zb6 {k : Nat} (ih : ∀ (d : D) (v : V) (u : Value),Shp k d→RG X.K G v d→L2.RelV v u→∃ as,Reads s.heap u (toPy d) as) (ds : List D) (vs : List V) (us : List Value) (h : ∀ d∈ds,Shp k d) (r : RGs X.K G vs ds) (q : Vals vs us) : ∃ as,ReadsAll s.heap us (zbl ds) as := by
  induction r generalizing us with
  | nil => cases q; exact ⟨[],.nil⟩
  | cons r t ih' =>
    cases q with
    | cons r' t' =>
      obtain ⟨a1,h1⟩ := ih _ _ _ (h _ List.mem_cons_self) r r'
      obtain ⟨a2,h2⟩ := ih' _ (fun x hx => h x (List.mem_cons_of_mem _ hx)) t'
      exact ⟨a1++a2,.cons h1 h2⟩
theorem zby (I : Inv X pins σ H s) (gk : GOk X.K G H) : ∀ (k : Nat) (d : D) (v : V) (u : Value),Shp k d→RB X.K G H v d→L2.RelV v u→∃ as,Reads s.heap u (toPy d) as := by
  intro k
  induction k with
  | zero =>
    intro d v u hs r ru
    cases d with
    | non => rw [r.non gk] at ru; cases ru; exact ⟨_,.none⟩
    | bl b => rw [r.bl gk] at ru; cases ru; exact ⟨_,.bool b⟩
    | int i => rw [r.int gk] at ru; obtain ⟨t,rfl⟩ := ru; exact ⟨_,.int i t⟩
    | str x => rw [r.str gk] at ru; obtain ⟨t,rfl⟩ := ru; exact ⟨_,.str x t⟩
    | tup _ => unfold Shp at hs; exact hs.elim
    | lst _ => unfold Shp at hs; exact hs.elim
    | dic _ => unfold Shp at hs; exact hs.elim
    | obj _ _ => unfold Shp at hs; exact hs.elim
  | succ k ih =>
    intro d v u hs r ru
    cases d with
    | non => rw [r.non gk] at ru; cases ru; exact ⟨_,.none⟩
    | bl b => rw [r.bl gk] at ru; cases ru; exact ⟨_,.bool b⟩
    | int i => rw [r.int gk] at ru; obtain ⟨t,rfl⟩ := ru; exact ⟨_,.int i t⟩
    | str x => rw [r.str gk] at ru; obtain ⟨t,rfl⟩ := ru; exact ⟨_,.str x t⟩
    | tup ds =>
      obtain ⟨a,xs,rfl,sq,rs⟩ := r.tup gk
      cases ru
      obtain ⟨its,rv,pl,_⟩ := I.tuple sq
      obtain ⟨o,ho,hc,n,hd⟩ := pl
      obtain ⟨as,h⟩ := zb6 (k := k) (fun d v u h1 h2 h3 => ih d v u h1 h2.rb h3) ds xs its (zcn.mp hs) rs rv
      refine ⟨as,?_⟩
      unfold toPy
      exact .tuple ho hc hd (by simpa using h)
    | lst ds =>
      obtain ⟨a,xs,rfl,sq,rs⟩ := r.lst gk
      cases ru
      obtain ⟨its,rv,pl,_⟩ := I.list sq
      obtain ⟨o,ho,hc,n,hd⟩ := pl.isList
      obtain ⟨as,h⟩ := zb6 (k := k) (fun d v u h1 h2 h3 => ih d v u h1 h2.rb h3) ds xs its (zco.mp hs) rs rv
      refine ⟨a::as,?_⟩
      unfold toPy
      exact .list ho hc hd (by simpa using h)
    | dic _ => unfold Shp at hs; exact hs.elim
    | obj _ _ => unfold Shp at hs; exact hs.elim
theorem zcp {k : Nat} (ih : ∀ d,Shp k d→PyData.canLay0 (toPy d) = true∧PyData.depth (toPy d)≤k) : ∀ ds : List D,(∀ d∈ds,Shp k d)→PyData.canLayAll0 (zbl ds) = true∧PyData.depthAll (zbl ds)≤k
  | [],_ => by unfold zbl PyData.canLayAll0 PyData.depthAll; exact ⟨rfl,Nat.zero_le _⟩
  | d::ds,h => by
    obtain ⟨a1,a2⟩ := ih d (h d List.mem_cons_self)
    obtain ⟨b1,b2⟩ := zcp ih ds fun x hx => h x (List.mem_cons_of_mem _ hx)
    unfold zbl PyData.canLayAll0 PyData.depthAll
    rw [a1,b1]
    exact ⟨rfl,Nat.max_le.mpr ⟨a2,b2⟩⟩
theorem zgh : ∀ (k : Nat) (d : D),Shp k d→PyData.canLay0 (toPy d) = true∧PyData.depth (toPy d)≤k := by
  intro k
  induction k with
  | zero =>
    intro d hs
    cases d with
    | non => unfold toPy PyData.canLay0 PyData.depth; exact ⟨rfl,Nat.zero_le _⟩
    | bl b => unfold toPy PyData.canLay0 PyData.depth; exact ⟨rfl,Nat.zero_le _⟩
    | int i => unfold toPy PyData.canLay0 PyData.depth; exact ⟨rfl,Nat.zero_le _⟩
    | str x => unfold Shp at hs; unfold toPy PyData.canLay0 PyData.depth; exact ⟨hs,Nat.zero_le _⟩
    | tup _ => unfold Shp at hs; exact hs.elim
    | lst _ => unfold Shp at hs; exact hs.elim
    | dic _ => unfold Shp at hs; exact hs.elim
    | obj _ _ => unfold Shp at hs; exact hs.elim
  | succ k ih =>
    intro d hs
    cases d with
    | non => unfold toPy PyData.canLay0 PyData.depth; exact ⟨rfl,Nat.zero_le _⟩
    | bl b => unfold toPy PyData.canLay0 PyData.depth; exact ⟨rfl,Nat.zero_le _⟩
    | int i => unfold toPy PyData.canLay0 PyData.depth; exact ⟨rfl,Nat.zero_le _⟩
    | str x => unfold Shp at hs; unfold toPy PyData.canLay0 PyData.depth; exact ⟨hs,Nat.zero_le _⟩
    | tup ds =>
      obtain ⟨b1,b2⟩ := zcp ih ds (zcn.mp hs)
      unfold toPy PyData.canLay0 PyData.depth
      exact ⟨b1,Nat.succ_le_succ b2⟩
    | lst ds =>
      obtain ⟨b1,b2⟩ := zcp ih ds (zco.mp hs)
      unfold toPy PyData.canLay0 PyData.depth
      exact ⟨b1,Nat.succ_le_succ b2⟩
    | dic _ => unfold Shp at hs; exact hs.elim
    | obj _ _ => unfold Shp at hs; exact hs.elim
theorem zbg {d : D} (h : Shp 60 d) : SeqAt.shaped (toPy d) = true := by
  obtain ⟨a,b⟩ := zgh 60 d h
  unfold SeqAt.shaped
  rw [a,decide_eq_true (Nat.le_trans b (by decide))]
  rfl
end
section
variable {X : Cx} {g : GE} {m mb : List Md} {e a b o c : Expr} {f fa fb fc : FE} {pos pos' : Pos}
noncomputable def zc7 (a b : D) : Bool := zaV a && zaV b && scal (toV a) (toV b)
open Classical in
noncomputable def eqB (a b : D) : Option Bool := if zc7 a b = true then some (eqs a b) else if Shp 60 a∧Shp 60 b then some (eqb a b) else none
noncomputable def eqD (a b : D) : Option D := (eqB a b).map .bl
noncomputable def neD (a b : D) : Option D := (eqB a b).map fun c => .bl (! c)
theorem zcZ {a b : D} (h : zc7 a b = false) (h1 : Shp 60 a) (h2 : Shp 60 b) : eqB a b = some (eqb a b) := by
  unfold eqB
  rw [if_neg (by rw [h]; exact Bool.false_ne_true),if_pos ⟨h1,h2⟩]
theorem zbi {a b : D} (h : zc7 a b = true) : eqB a b = some (eqs a b) := by
  unfold eqB
  rw [if_pos h]
@[simp] theorem eqB_int (a b : Int) : eqB (.int a) (.int b) = some (a == b) := zbi rfl
@[simp] theorem eqB_str (a b : Str) : eqB (.str a) (.str b) = some (a == b) := zbi rfl
@[simp] theorem eqB_non_int (b : Int) : eqB .non (.int b) = some false := zbi rfl
@[simp] theorem eqB_int_non (b : Int) : eqB (.int b) .non = some false := zbi rfl
@[simp] theorem eqB_non_non : eqB .non .non = some true := zbi rfl
theorem zcJ {a b : D} (h : scal (toV a) (toV b) = true) (fa : zaV a = true) (fb : zaV b = true) : decide (toV a = toV b) = eqs a b := by
  cases a <;> cases b <;> first
    | exact absurd (show false = true from fa) Bool.false_ne_true
    | exact absurd (show false = true from fb) Bool.false_ne_true
    | exact absurd (show false = true from h) Bool.false_ne_true
    | exact zcD
    | exact zdY
    | exact zcC
    | rfl
    | simp [toV,eqs,eqV]
noncomputable def zbU (K : PySem.W.Frag) (neg : Bool) : R2 := fun x y H Q => ∃ (G : GH) (d1 d2 : D),GOk K G H∧RB K G H x d1∧RB K G H y d2∧Shp 60 d1∧Shp 60 d2∧Q (.bl (if neg then ! eqb d1 d2 else eqb d1 d2)) H
theorem zca (hu : X.A.units + 64 < cLine) : OpR X (compareOp .Eq) (zbU X.K false) := by
  intro pins s σ H x y v u Q I rx ry h
  obtain ⟨G,d1,d2,gk,r1,r2,s1,s2,q⟩ := h
  obtain ⟨as,h1⟩ := zby I gk 60 d1 x v s1 r1 rx
  obtain ⟨bs,h2⟩ := zby I gk 60 d2 y u s2 r2 ry
  exact SeqAt.compareEq_shaped h1 h2 (zbg s1) (zbg s2) hu ⟨.bl _,H,I,rfl,q⟩
theorem zdC (hu : X.A.units + 64 < cLine) : OpR X (compareOp .NotEq) (zbU X.K true) := by
  intro pins s σ H x y v u Q I rx ry h
  obtain ⟨G,d1,d2,gk,r1,r2,s1,s2,q⟩ := h
  obtain ⟨as,h1⟩ := zby I gk 60 d1 x v s1 r1 rx
  obtain ⟨bs,h2⟩ := zby I gk 60 d2 y u s2 r2 ry
  exact SeqAt.compareNe_shaped h1 h2 (zbg s1) (zbg s2) hu ⟨.bl _,H,I,rfl,q⟩
theorem eq_cases {a b : D} {c : Bool} (h : eqB a b = some c) : (zc7 a b = true∧c = eqs a b)∨(Shp 60 a∧Shp 60 b∧c = eqb a b) := by
  unfold eqB at h
  split at h
  · rename_i hs; cases h; exact .inl ⟨hs,rfl⟩
  · split at h
    · rename_i hs; cases h; exact .inr ⟨hs.1,hs.2,rfl⟩
    · cases h
theorem zhr {K : PySem.W.Frag} : OpD K (fun x y H Q => rEq x y H Q∨zbU K false x y H Q) eqD := by
  intro G H v1 v2 d1 d2 d Q gk r1 r2 e q
  unfold eqD at e
  cases ec : eqB d1 d2 with
  | none => rw [ec] at e; cases e
  | some c =>
    rw [ec] at e
    cases e
    rcases eq_cases ec with ⟨hs,rfl⟩ | ⟨s1,s2,rfl⟩
    · unfold zc7 at hs
      rw [Bool.and_eq_true,Bool.and_eq_true] at hs
      obtain ⟨e1,_⟩ := RB.flat r1 gk hs.1.1
      obtain ⟨e2,_⟩ := RB.flat r2 gk hs.1.2
      refine .inl ⟨by rw [e1,e2]; exact hs.2,?_⟩
      rw [e1,e2,zcJ hs.2 hs.1.1 hs.1.2]
      exact q _ G H (Grow.refl gk) (.scl (.bl _))
    · exact .inr ⟨G,d1,d2,gk,r1,r2,s1,s2,q _ G H (Grow.refl gk) (.scl (.bl _))⟩
theorem zh3 {K : PySem.W.Frag} : OpD K (fun x y H Q => rNe x y H Q∨zbU K true x y H Q) neD := by
  intro G H v1 v2 d1 d2 d Q gk r1 r2 e q
  unfold neD at e
  cases ec : eqB d1 d2 with
  | none => rw [ec] at e; cases e
  | some c =>
    rw [ec] at e
    cases e
    rcases eq_cases ec with ⟨hs,rfl⟩ | ⟨s1,s2,rfl⟩
    · unfold zc7 at hs
      rw [Bool.and_eq_true,Bool.and_eq_true] at hs
      obtain ⟨e1,_⟩ := RB.flat r1 gk hs.1.1
      obtain ⟨e2,_⟩ := RB.flat r2 gk hs.1.2
      refine .inl ⟨by rw [e1,e2]; exact hs.2,?_⟩
      rw [e1,e2,zcJ hs.2 hs.1.1 hs.1.2]
      exact q _ G H (Grow.refl gk) (.scl (.bl _))
    · exact .inr ⟨G,d1,d2,gk,r1,r2,s1,s2,q _ G H (Grow.refl gk) (.scl (.bl _))⟩
theorem s_eq (hu : X.A.units + 64 < cLine) (ha : SB X g m a fa) (hb : SB X g m b fb) : SE X g m (.Compare a [.Eq] [b] pos) (f2 fa fb eqD) := zgp (OpR.or zgW (zca hu)) zhr ha hb (zcb _)
theorem q_eq (hu : X.A.units + 64 < cLine) (ha : SB X g m a fa) (hb : SB X g m b fb) : SQ X g m (.Compare a [.Eq] [b] pos) (zaM (f2 fa fb eqD)) := zem (OpR.or zgW (zca hu)) zhr ha hb (zcb _)
theorem q_ne (hu : X.A.units + 64 < cLine) (ha : SB X g m a fa) (hb : SB X g m b fb) : SQ X g m (.Compare a [.NotEq] [b] pos) (zaM (f2 fa fb neD)) := zem (OpR.or zhZ (zdC hu)) zh3 ha hb (zcb _)
noncomputable def zgx (K : PySem.W.Frag) : R2 := fun x y H Q => ∃ l b xs zs,x = .ref l∧y = .ref b∧SqL K H l xs∧SqL K H b zs∧xs.length + zs.length≤sizeLine∧∀ p,H p = none→Q (.ref p) (upd H p (.lst (xs++zs)))
theorem zfy : OpR X (binaryOp .Add) (zgx X.K) := by
  intro pins s σ H x y v u Q I rx ry h
  obtain ⟨l,b,xs,zs,rfl,rfl,hH,hB,hz,q⟩ := h
  cases rx
  cases ry
  obtain ⟨its,r,pl,_⟩ := I.list hH
  obtain ⟨its2,r2,pl2,_⟩ := I.list hB
  have l1 := r.length
  have l2 := r2.length
  obtain ⟨⟨cls,dd,data,sl⟩,ho,hc,n,hd⟩ := pl.isList
  obtain ⟨⟨cls2,dd2,data2,sl2⟩,ho2,hc2,n2,hd2⟩ := pl2.isList
  simp only at hc hd hc2 hd2
  subst hc hd hc2 hd2
  have e : its.toArray++its2.toArray = (its++its2).toArray := by simp
  refine concat_meets ⟨_,ho,rfl⟩ ⟨_,ho2,rfl⟩ noFill_list_add seq_list_add PySem.F.slot_list_add PySem.F.entry_list_add (PySem.F.args_list_add_2 _ _) (list_addW _ _ its.toArray its2.toArray n n2 dd dd2 sl sl2 (by simp; omega)) ⟨ho,ho2,?_⟩
  rw [e]
  exact ⟨.ref _,_,I.lnew (t' := s.toks) (r.append r2) (by rw [List.length_append]; omega),rfl,q _ I.fresh⟩
noncomputable def addA : D→D→Option D
  | .int a,.int b => some (.int (a + b))
  | .str a,.str b => if a.length + b.length≤sizeLine then some (.str (a++b)) else none
  | .lst a,.lst b => if a.length + b.length≤sizeLine then some (.lst (a++b)) else none
  | .tup (x::a),.tup b => if (x::a).length + b.length≤sizeLine then some (.tup (x::a++b)) else none
  | _,_ => none
theorem zf7 {K : PySem.W.Frag} : OpD K (fun x y H Q => (∃ i j,x = .int i∧y = .int j∧Q (.int (i + j)) H)∨(∃ i j,x = .str i∧y = .str j∧i.length + j.length≤sizeLine∧Q (.str (i++j)) H)∨zgx K x y H Q∨zgw K x y H Q) addA := by
  intro G H v1 v2 d1 d2 d Q gk r1 r2 e q
  unfold addA at e
  split at e
  · cases e
    exact .inl ⟨_,_,r1.int gk,r2.int gk,q _ G H (Grow.refl gk) (.scl (.int _))⟩
  · split at e
    · rename_i hl
      cases e
      exact .inr (.inl ⟨_,_,r1.str gk,r2.str gk,hl,q _ G H (Grow.refl gk) (.scl (.str _))⟩)
    · cases e
  · split at e
    · rename_i hl
      cases e
      obtain ⟨a,xs,rfl,s1,t1⟩ := r1.lst gk
      obtain ⟨b,ys,rfl,s2,t2⟩ := r2.lst gk
      have l1 := Paired.length t1
      have l2 := Paired.length t2
      exact .inr (.inr (.inl ⟨a,b,xs,ys,rfl,rfl,s1,s2,by omega,fun p hp => q _ _ _ (Grow.newF gk hp (.lst (.inl zab) (Paired.app t1 t2))) (.ref zag)⟩))
    · cases e
  · split at e
    · rename_i x0 a0 b0 hl
      cases e
      rcases r1 with r1 | ⟨a',_,oo⟩
      · obtain ⟨a,xs,rfl,s1,t1⟩ := r1.tup gk
        obtain ⟨b,ys,rfl,s2,t2⟩ := r2.tup gk
        have l1 := Paired.length t1
        have l2 := Paired.length t2
        refine .inr (.inr (.inr ⟨a,b,xs,ys,rfl,rfl,s1,s2,?_,by omega,fun hy => ?_,fun _ p hp => q _ _ _ (Grow.newF gk hp (.tup (.inl zab) (Paired.app t1 t2))) (.ref zag)⟩))
        · rintro rfl
          cases t1
        · subst hy
          cases t2
          refine q _ G H (Grow.refl gk) ?_
          rw [List.append_nil]
          exact r1
      · cases oo.ob
    · cases e
  · cases e
theorem zbs (ha : SB X g m a fa) (hb : SB X g m b fb) : SE X g m (.BinOp a .Add b pos) (f2 fa fb addA) := zcu (OpR.or zgX (OpR.or zda (OpR.or zfy zfx))) zf7 ha hb
end
end DL
end
section
namespace DL
open PySem PySem.Spec PyProof.Rows L2
structure DefAt (K : PySem.W.Frag) (mg : Str→Option Value) (x : Str) (st : Stmt) : Prop where
  ex : ∃ f fd,mg x = some (.ref f)∧Fun K x x st f fd
structure Callee (P : Program) (w : World) (K : PySem.W.Frag) (mg : Str→Option Value) (base : Heap) (x : Str) (ps : List Str) (ds : List Value) (k : Nat) (ro : Bool) (ms : List Md) (F : List D→Res D) : Prop where
  ex : ∃ f fd,mg x = some (.ref f)∧PySem.W.keepIn K (.ref f) = true∧zbw K fd ps ds∧FnOk P w K mg base CX0 k f fd ps (spM K ro ms F)
section
variable {P : Program} {w : World} {K : PySem.W.Frag} {mg : Str → Option Value} {base : Heap}
theorem zeU {x : Str} {st : Stmt} {N ps : List Str} {k : Nat} {ro : Bool} {ms : List Md} {fs : FS} {m' : List Md} (A : DefAt K mg x st) (S : FnScope N ps (defScope st)) (hms : ms.length = ps.length)
    (hb : ∀ (kV doc pm : Value) (an : Option Addr) (cdv ct : Value) (us : List Value),us.length = ps.length→bindArgs (PySem.W.fnOf x x (defArgs st) (defBody st) (defScope st) .none kV doc pm an cdv ct) ⟨us,[]⟩ = pure (ps.zip us))
    (hbody : ∀ (f : Addr) (cdv : Value) (A : Around) (outer : List Env) (s : Shared) (H : Hp) (g : GE) (E : XK),Room k (A.deeper (envOfC x (defScope st) s.heap.objs.size f cdv)) →
      SSs (cxOf CX0 P w K mg base N x (defScope st) f cdv A outer s H E).nox g ro [] (zbB N.length ms) (defBody st) fs m') :
    Callee P w K mg base x ps [] (k + 1) ro ms fun ds => outR ro (fs (zaH N.length ds)) := by
  obtain ⟨f,fd,h1,F⟩ := A.ex
  exact ⟨f,fd,h1,F.kp,F.binds hb,ze2 F S hms (hbody f)⟩
structure DefAtD (K : PySem.W.Frag) (mg : Str→Option Value) (x : Str) (st : Stmt) (dds : List Value) : Prop where
  ex : ∃ (f T : Addr) (o : Obj) (n : Nat) (oc : Value) (od : Option Addr) (kV doc pm : Value) (an : Option Addr) (cdv ct : Value) (osl : Array (Option Value)),
    mg x = some (.ref f)∧K.lookup T = some o∧o.data = .seq dds.toArray n∧K.lookup f = some ⟨oc,od,.func (PySem.W.fnOf x x (defArgs st) (defBody st) (defScope st) (.ref T) kV doc pm an cdv ct),osl⟩∧PySem.W.codeIn K cdv x = true∧PySem.W.keepIn K (.ref f) = true
end
section
variable {X : Cx} {g : GE} {m : List Md} {e : Expr} {es : List Expr} {fl : Rho → Res (List D)} {k : Nat} {ps : List Str} {F : List D → Res D} {dvs : List V} {ds : List Value} {dds : List D} {x : Str} {p pos : Pos} {i : Nat} {ms ms' : List Md}
theorem zcg (c : Callee X.prog X.w X.K X.mg X.base x ps ds k false ms' F) (hr : Room k X.A) (ha : SAM X g m (e::es) ms fl) (hms : ms' = ms++List.replicate dds.length .sh := by rfl) (hg : Gl X x := by rfl) (hd : Vals dvs ds := by exact .nil) (hsc : Paired Scl dvs dds := by exact .nil)
    (hdb : (x == ("__debug__" : Str)) = false := by decide) (he : starEach (e::es) X.env = (false,eval e X.env)::starEach es X.env := by rfl) (hpl : (backTo pos (starEach es X.env)).any (·.1) = false := by rfl) :
    SE X g m (.Call (.Name x p) (e::es) [] pos) (zbk fl dds F) := by
  subst hms
  obtain ⟨f,fd,h1,h2,h3,h4⟩ := c.ex
  exact zgq h4 hr hg h1 h2 h3 hd hsc ha hdb he hpl
theorem v_ (i : Nat) (hm : m[i]? = some .sh := by rfl) (hN : X.N[i]? = some x := by rfl) (hv : Vis X.env.scope x := by first | exact Or.inl rfl | exact Or.inr (Or.inl rfl) | exact Or.inr (Or.inr rfl)) (hd : (x == ("__debug__" : Str)) = false := by decide) (hcd : (x == ("__classdict__" : Str)) = false := by decide) :
    SE X g m (.Name x p) fun r => getV r i := zhM i hm hN hv hd hcd
theorem vb_ (i : Nat) (hm : i < m.length := by decide) (hN : X.N[i]? = some x := by rfl) (hv : Vis X.env.scope x := by first | exact Or.inl rfl | exact Or.inr (Or.inl rfl) | exact Or.inr (Or.inr rfl)) (hd : (x == ("__debug__" : Str)) = false := by decide) (hcd : (x == ("__classdict__" : Str)) = false := by decide) :
    SB X g m (.Name x p) fun r => getV r i := zgi i hm hN hv hd hcd
end
end DL
end
section
namespace DL
open PySem PySem.Spec PyProof.Rows L2
noncomputable def zd2 (osc : Scope) (ON : List Str) (sc : Scope) (N' : List Str) (nl : Nat) (cap : List Nat) : Bool :=
  decide (sc.kind = .function) && sc.names.all (fun y => decide (y.2≠.cell)) && sc.names.all (fun y => decide (y.2≠.local) || decide (sc.names.lookup y.1 = some .local)) &&
  sc.names.all (fun y => decide (y.2≠.free) || (decide (osc.names.lookup y.1 = some .cell) || decide (osc.names.lookup y.1 = some .free))) && decide (N'.length = nl + cap.length) &&
  (List.range cap.length).all fun j => match N'[nl + j]?,ON[cap.getD j 0]? with
    | some x,some y => decide (x = y) && decide (sc.names.lookup x = some .free)
    | _,_ => false
theorem zd1 {X : Cx} {osc : Scope} {ON : List Str} {sc : Scope} {N' : List Str} {nl : Nat} {cap : List Nat} (h1 : X.env.scope = osc) (h2 : X.N = ON) (h : zd2 osc ON sc N' nl cap = true) : CompSc X sc N' nl cap := by
  subst h1 h2
  unfold zd2 at h
  simp only [Bool.and_eq_true,List.all_eq_true,decide_eq_true_eq,Bool.or_eq_true] at h
  obtain ⟨⟨⟨⟨⟨a1,a2⟩,a3⟩,a4⟩,a5⟩,a6⟩ := h
  refine ⟨a1,a2,fun y hy hl => (a3 y hy).resolve_left fun z => z hl,fun y hy hf => (a4 y hy).resolve_left fun z => z hf,a5,fun j hj => ?_⟩
  have h6 := a6 j (List.mem_range.mpr hj)
  cases e1 : N'[nl + j]? with
  | none => rw [e1] at h6; cases h6
  | some x =>
    cases e2 : X.N[cap.getD j 0]? with
    | none => rw [e1,e2] at h6; cases h6
    | some y =>
      rw [e1,e2] at h6
      simp only [Bool.and_eq_true,decide_eq_true_eq] at h6
      exact ⟨x,rfl,by rw [h6.1],h6.2⟩
section
variable {X : Cx} {g : GE} {m mb : List Md} {e a b c : Expr} {f fa fb fc : FE} {pos pos' : Pos}
end
end DL
end
section
namespace DL
open PySem PySem.Spec PyProof.Rows L2
theorem ziy {K : PySem.W.Frag} {h : Heap} {mg : Str→Option Value} {x : Str} {st : Stmt} (KX : K.In h) (G : h.Ns mainGlobals mg) {f : Addr} {oc : Value} {od an : Option Addr} {osl : Array (Option Value)} {kV doc pm cdv ct : Value} (a : PySem.W.nsIn K mainGlobals x = some (some (.ref f)))
    (l : K.lookup f = some ⟨oc,od,.func (PySem.W.fnOf x x (defArgs st) (defBody st) (defScope st) .none kV doc pm an cdv ct),osl⟩) (c : PySem.W.codeIn K cdv x = true) (k : PySem.W.keepIn K (.ref f) = true) : DefAt K mg x st :=
  ⟨f,_,PySem.W.mg_of KX G a,fun_mk l c k⟩
theorem ziw {P : Program} {w : World} {K : PySem.W.Frag} {mg : Str→Option Value} {x p : Str} {st : Stmt} {k : Nat} {F : List D→Res D} {fa : Addr} (hfa : mg x = some (.ref fa)) (A : DefAt K mg x st)
    (hb : ∀ (kV doc pm : Value) (an : Option Addr) (cdv ct : Value) (us : List Value),us.length = [p].length→bindArgs (PySem.W.fnOf x x (defArgs st) (defBody st) (defScope st) .none kV doc pm an cdv ct) ⟨us,[]⟩ = pure ([p].zip us))
    (C : ∀ (f : Addr) (fd : FuncData),Fun K x x st f fd→∀ base : Heap,FnOk P w K mg base CX0 k f fd [p] (spM K false [.sh] F)) :
    ∃ fd : FuncData,(∀ (s : Shared) (u : Value),BindsTo s fd ⟨[u],[]⟩ [(p,u)])∧∀ base : Heap,K.In base→base.Ns mainGlobals mg→FnOk P w K mg base CX0 k fa fd [p] (spM K false [.sh] F) := by
  obtain ⟨f,fd,h1,Fn⟩ := A.ex
  rw [hfa] at h1
  cases h1
  refine ⟨fd,fun s u => ?_,fun base _ _ => C fa fd Fn base⟩
  obtain ⟨oc,od,kV,doc,pm,an,cdv,ct,osl,rfl,lk,hcd⟩ := Fn.ex
  exact .of_eq (hb kV doc pm an cdv ct [u] rfl)
theorem ziC {l : PySem.W.OpenLaw} {k : Nat} {q : Program} {loose : List Str} {XP : (Str→Option Value)→Heap→Prop} {YP : World→Heap→Prop} {d : DefRec} {K : Params→PySem.W.Frag} {x : Str} {F : List D→Res D} (hn : l.most = some 63) (hdf : d.params.defaults = []) (hr : Room k callerA)
    (hY : ∀ (w : World) (h : Heap),YP w h→(K w.params).In h) (hF : ∀ ns : List Int,ns.length≤63→F [.lst (ns.map .int)] = .ok (.bl true))
    (C : ∀ (w : World) (mg : Str→Option Value) (fa : Addr) (h : Heap),(K w.params).In h→h.Ns mainGlobals mg→mg d.name = some (.ref fa) →
      ∃ fd : FuncData,(∀ (s : Shared) (u : Value),BindsTo s fd ⟨[u],[]⟩ [(x,u)])∧∀ base : Heap,(K w.params).In base→base.Ns mainGlobals mg→FnOk l.prog w (K w.params) mg base CX0 k fa fd [x] (spM (K w.params) false [.sh] F)) :
    PySem.W.WalkO q loose XP YP l.row.toRowW d [] (fun f vs => PySem.call f vs) := by
  refine L2.walk_of (n := 63) (k := k) (x := x) (CX := fun _ => CX0) (sp := fun w => spM (K w.params) false [.sh] F) hn (by decide) hdf hr hY C (fun w H a ns hl hO hS => ?_) fun _ _ _ _ _ z => z
  have intsP : ∀ (l : List Int),Paired Scl (l.map V.int) (l.map D.int) := fun l => by
    induction l with
    | nil => exact .nil
    | cons i l ih => exact .cons (.int i) ih
  rcases hS with hS | hS
  · refine ⟨fun b => if b = a then some (.lst (ns.map D.int)) else none,[.lst (ns.map .int)],fun b d' hb => ?_,.sh (.ref (if_pos rfl)) .nil,?_⟩
    · by_cases e : b = a
      · subst e
        have hb' : some (D.lst (ns.map D.int)) = some d' := (if_pos rfl).symm.trans hb
        cases hb'
        exact .lst hS (Paired.mono (fun _ _ z => .scl z) (intsP ns))
      · have hb' : (none : Option D) = some d' := (if_neg e).symm.trans hb
        cases hb'
    · rw [hF ns hl]
      intro v G' H' w' rv
      exact rv.bl w'.ok
  · refine ⟨fun _ => none,[.lst (ns.map .int)],fun b d' hb => (by cases hb),.sh (.kc (.lst (.inr hS) (intsP ns))) .nil,?_⟩
    rw [hF ns hl]
    intro v G' H' w' rv
    exact rv.bl w'.ok
end DL
end
section
namespace DL
open PySem PySem.Spec PyProof.Rows L2
open AutoSeq1 (wpAny_loadPart')
section
variable {prog : Program} {w : World} {A : Around} {E : Value → Shared → Prop} {s : Shared}
theorem zbq {it t : Addr} {i : Nat} {items} {x : Value} {Q : Value→Shared→Prop} (hit : s.heap.IsTupleIter it t i) (ht : s.heap.IsTuple t items) (hx : items[i]? = some x)
    (hQ : ∀ h',h'.IsTupleIter it t (i + 1)→Heap.SameBut it s.heap h'→Q x { s with heap := h' }) : wpAny (model prog w) A (Builtin.SmallTypes.nextOf (.ref it)) Q E s := by
  obtain ⟨o,ho,hc,hd⟩ := id hit
  obtain ⟨ol,hol,_,nl,hdl⟩ := ht
  unfold Builtin.SmallTypes.nextOf
  refine wpAny_bind (wpAny_callSpecial?_slot (name := Str.ofString "__next__") hit.typeIs F.slot_tuple_iterator_next
    (wpAny_call_entry F.slot_tuple_iterator_next hit.typeIs F.entry_tuple_iterator_next ?_ (F.args_tuple_iterator_next_1 _)))
  show wpAny _ _ (field (.ref it) 0 >>= _) _ _ s
  refine wpAny_bind (wpAny_field ho hd (x := .ref t) rfl ?_)
  show wpAny _ _ (if (Value.ref t == Value.none) = true then _ else _) _ _ s
  rw [if_neg (show ¬ ((Value.ref t == Value.none) = true) from Bool.false_ne_true)]
  show wpAny _ _ (field (.ref it) 1 >>= _) _ _ s
  refine wpAny_bind (wpAny_field ho hd (x := .int i 0) rfl ?_)
  show wpAny _ _ (seqItems? (.ref t) >>= _) _ _ s
  refine wpAny_bind (wpAny_seqItems hol hdl ?_)
  simp only [Int.toNat_natCast,hx]
  refine wpAny_bind (wpAny_setField ho hd (by simp) (wpAny_pure ⟨x,rfl,wpAny_pure (hQ _ ?_ (Heap.SameBut.update ..))⟩))
  exact ⟨_,Heap.get?_update_self _ ho (Obj.isFreed_of_fields (Obj.data_mapFields hd _)),(Obj.cls_mapFields ..).trans hc,by
    rw [Obj.data_mapFields hd]; simp [rawInt]⟩
theorem zbv {it t : Addr} {i : Nat} {items} {Q : Value→Shared→Prop} (hh : A.handled = none) (hit : s.heap.IsTupleIter it t i) (ht : s.heap.IsTuple t items) (hx : items[i]? = none)
    (hE : ∀ h' e,Heap.ExtBut it s.heap h'→(∃ o,h'.get? e = some o∧o.cls = .type "StopIteration")→E (.ref e) { s with heap := h' }) : wpAny (model prog w) A (Builtin.SmallTypes.nextOf (.ref it)) Q E s := by
  obtain ⟨o,ho,hc,hd⟩ := id hit
  obtain ⟨ol,hol,_,nl,hdl⟩ := ht
  unfold Builtin.SmallTypes.nextOf
  refine wpAny_bind (wpAny_callSpecial?_slot (name := Str.ofString "__next__") hit.typeIs F.slot_tuple_iterator_next
    (wpAny_call_entry F.slot_tuple_iterator_next hit.typeIs F.entry_tuple_iterator_next ?_ (F.args_tuple_iterator_next_1 _)))
  show wpAny _ _ (field (.ref it) 0 >>= _) _ _ s
  refine wpAny_bind (wpAny_field ho hd (x := .ref t) rfl ?_)
  show wpAny _ _ (if (Value.ref t == Value.none) = true then _ else _) _ _ s
  rw [if_neg (show ¬ ((Value.ref t == Value.none) = true) from Bool.false_ne_true)]
  show wpAny _ _ (field (.ref it) 1 >>= _) _ _ s
  refine wpAny_bind (wpAny_field ho hd (x := .int i 0) rfl ?_)
  show wpAny _ _ (seqItems? (.ref t) >>= _) _ _ s
  refine wpAny_bind (wpAny_seqItems hol hdl ?_)
  simp only [Int.toNat_natCast,hx]
  refine wpAny_bind (wpAny_rule (wpAny_bind (wpAny_setField ho hd (by simp) ?_)))
  show wpAny _ _ (newExc (.type "StopIteration") [] >>= _) _ _ _
  refine wpAny_bind ?_
  simp only [newExc,newTuple]
  refine wpAny_bind (wpAny_newObj_type ?_ (by size_fits))
  refine wpAny_bind (m := firstArgMember _ _) (wpAny_of_eq (a := Value.none) (by first | rfl | (simp only [firstArgMember]; rfl)) ?_)
  refine wpAny_newObj_type ?_ (by size_fits)
  simp only [raiseNew]
  refine wpAny_bind (wpAny_handled ?_)
  first | rw [show A.in1.handled = none from hh] | rw [hh]
  refine wpAny_bind (wpAny_pure (wpAny_throw ?_))
  exact hE _ _ (((Heap.SameBut.update ..).extBut.push _).push _) ⟨_,Heap.get?_push_size _ rfl,rfl⟩
end
theorem ze6 {prog : Program} {w : World} {A : Around} (hh : A.handled = none) (it l : Addr) (hne : l≠it) (items : Array Value) :
    Draws prog w A it [it,l] items.size (fun i v => items[i]? = some v) (fun i h => h.IsTupleIter it l i∧h.IsTuple l items) where
  live := fun _ _ st => let ⟨o,ho,_⟩ := st.1; ⟨o,ho⟩
  frame := fun _ _ _ st hk => ⟨let ⟨o,ho,r⟩ := st.1; ⟨o,hk it (by simp) o ho,r⟩,let ⟨o,ho,r⟩ := st.2; ⟨o,hk l (by simp) o ho,r⟩⟩
  item := fun i s Q E hi st hQ => by
    refine zbq st.1 st.2 (x := items[i]) (by simp [hi]) fun h' hit' hs' => ?_
    exact hQ _ h' s.toks (by simp [hi]) ⟨hit',st.2.extBut hs'.extBut hne⟩ hs'
  done := fun s Q E st hE => zbv hh st.1 st.2 (by simp) hE
theorem zbE (l : Addr) (items : Array Value) (n : Nat) (dct : Option Addr) (sl : Array (Option Value)) :
    Meets (Builtin.«enumerate.__new__» ⟨[.type "enumerate",.ref l],[]⟩) (fun _ R s => s.heap.get? l = some { cls := .type "tuple",dict := dct,data := .seq items n,slots := sl } ∧
      R (.ok (.ret (.ref (s.heap.push { cls := .type "tuple_iterator",data := .fields #[.ref l,.int 0 0] }).objs.size)))
        { s with heap := (s.heap.push { cls := .type "tuple_iterator",data := .fields #[.ref l,.int 0 0] }).push { cls := .type "enumerate",data := .fields #[.none,.bool false,.ref s.heap.objs.size,rawInt 0,.none,.none] } }) :=
  .of_wp fun prog w A R s h => by
    obtain ⟨hp,g,d,tk,os⟩ := s; obtain ⟨hl,h⟩ := h
    have hsub := sub_enumerate
    have hL : Heap.IsTuple (Shared.heap ⟨hp,g,d,tk,os⟩) l items := ⟨_,hl,rfl,n,rfl⟩
    wp_walk using wpAny_loadPart' hl
    refine wpAny_stack_any fun st => wpAny_pure ?_
    split
    · rename_i c _ _ _ _ _
      cases (c == Value.type "enumerate")
      · wp_walk using wpAny_loadPart' hl,wpAny_pyIter_tuple hL
        exact ⟨_,rfl,h⟩
      · wp_walk using wpAny_loadPart' hl,wpAny_pyIter_tuple hL
        exact ⟨_,rfl,h⟩
    · wp_walk using wpAny_loadPart' hl,wpAny_pyIter_tuple hL
      exact ⟨_,rfl,h⟩
section
variable {prog : Program} {w : World} {A : Around} {E : Value → Shared → Prop} {s : Shared}
theorem zbK {l : Addr} {items : Array Value} {Q : Value→Shared→Prop} (hL : s.heap.IsTuple l items)
    (h : ∀ h',IsEnum h' (s.heap.objs.size + 1) s.heap.objs.size 0 .none→h'.IsTupleIter s.heap.objs.size l 0→h'.objs.size = s.heap.objs.size + 2 →
      (∀ b o,s.heap.get? b = some o→h'.get? b = some o)→Q (.ref (s.heap.objs.size + 1)) { s with heap := h' }) :
    wpAny (model prog w) A (call (.type "enumerate") [.ref l]) Q E s := by
  obtain ⟨⟨c,dct,dt,sl⟩,hl,hc,n,hd⟩ := hL
  replace hc : c = .type "tuple" := hc
  replace hd : dt = .seq items n := hd
  subst hc hd
  refine callType_new F.called_enumerate (by decide) (F.typeCall_enumerate_1 _) (F.newCall_enumerate_1 _) (fun obj => F.args_object_init_2 obj _) F.entry_enumerate_new
    (zbE l items n dct sl) ⟨hl,?_⟩
  have hz : (s.heap.push { cls := .type "tuple_iterator",data := .fields #[.ref l,.int 0 0] }).objs.size = s.heap.objs.size + 1 := Heap.size_push ..
  show _∧_
  rw [hz]
  have he : IsEnum ((s.heap.push { cls := .type "tuple_iterator",data := .fields #[.ref l,.int 0 0] }).push
      { cls := .type "enumerate",data := .fields #[.none,.bool false,.ref s.heap.objs.size,rawInt 0,.none,.none] }) (s.heap.objs.size + 1) s.heap.objs.size 0 .none := by
    have := Heap.get?_push_size (s.heap.push { cls := .type "tuple_iterator",data := .fields #[.ref l,.int 0 0] })
      (o := { cls := .type "enumerate",data := .fields #[.none,.bool false,.ref s.heap.objs.size,rawInt 0,.none,.none] }) rfl
    rw [hz] at this; exact this
  refine ⟨⟨_,he,rfl⟩,h _ he ⟨_,Heap.get?_push_of_some _ (Heap.get?_push_size _ rfl),rfl,rfl⟩ (by rw [Heap.size_push,hz]) fun b o x => Heap.get?_push_of_some _ (Heap.get?_push_of_some _ x)⟩
end
theorem zcU {X : Cx} {pins : List (Addr × Obj)} {σ : L2.St} {H : Hp} {s : Shared} {h' : Heap} {ch : List Addr} {T : Addr} {o : HO} {t' : Nat} (I : Inv X pins σ H s)
    (hch : ∀ b∈ch,FpOk X pins H b) (k : ∀ b ob,b∉ch→s.heap.get? b = some ob→h'.get? b = some ob) (hT : s.heap.objs.size≤T) (new : zaz X.prog X.w (upd H T o) h' T o) : Inv X pins σ (upd H T o) { s with heap := h',toks := t' } := by
  have hTn : H T = none := I.hok.fresh hT
  have trk : ∀ b u,H b = some u→b∉ch := fun b u e hb => by rw [(hch b hb).1] at e; cases e
  have neT : ∀ b ob,s.heap.get? b = some ob→b≠T := fun b ob e => Nat.ne_of_lt (Nat.lt_of_lt_of_le (Heap.lt_size e) hT)
  have keepU : ∀ b u,H b = some u→upd H T o b = some u := fun b u e => by rw [zaa (zat e hTn)]; exact e
  refine I.step (g' := s.gens) (d' := s.drawn) (ch := ch) (fun b hb => ?_) (fun b ob _ _ hc e _ => k b ob hc e) (fun b ob _ _ hc e _ => ⟨ob.slots,k b ob hc e⟩) (fun b ob hc e n => by rw [zaa (neT b ob e)]; exact n)
    (fun b ob hc e => ⟨ob,k b ob hc e⟩) (fun b xs e => keepU b _ e) (fun b ob u e => keepU b _ e) (fun b ps e => ⟨#[],by rw [keepU b _ e]; simp⟩) (fun m hm => ?_) (fun b u e => ?_) I.bare
  · obtain ⟨z0,z1,z2,z3,z4,z5⟩ := hch b hb
    exact ⟨z3,z1,z4,z5⟩
  · obtain ⟨ob,es,ep,ho,r⟩ := hm
    exact ⟨ob,es,ep,k _ ob (fun hb => (hch _ hb).2.1 rfl) ho,r⟩
  · by_cases hb : b = T
    · subst hb
      rw [zab] at e
      cases e
      exact new
    · rw [zaa hb] at e
      refine (I.hok b u e).stay (fun c v hc q => k c v ?_ q) (fun c q => keepU c _ q) fun c xs q => keepU c _ q
      rcases hc with z | z
      · rw [z]; exact trk b u e
      · exact trk c _ z
noncomputable def Ien (sq : Hp→List V→Prop) : It :=
  ⟨fun i H => ∃ xs x,sq H xs∧xs[i]? = some x,fun i H x H' => ∃ p v,H p = none∧x = .ref p∧H' = upd H p (.tup [.int i,v])∧∀ xs,sq H xs→xs[i]? = some v,fun i H => ∃ xs,sq H xs∧xs.length = i⟩
theorem zdB {P : Program} {w : World} {H : Hp} {h : Heap} {T : Addr} {i : Nat} {tk : Tok} {x : Value} {v : V} (hT : h.get? T = some { cls := .type "tuple",data := .seq #[.int i tk,x] }) (r : L2.RelV v x) : zaz P w H h T (.tup [.int i,v]) :=
  ⟨by show 2≤sizeLine; decide,[.int i tk,x],.cons ⟨tk,rfl⟩ (.cons r .nil),⟨_,hT,rfl,0,rfl⟩,_,hT,rfl⟩
theorem zc5 {P : Program} {w : World} {K : PySem.W.Frag} {elts : List Expr} {k : Nat} {pos : Pos} (a it e : Addr) (hei : e≠it) : Turn P w K (.Tuple elts k pos) (Ien fun H xs => SqL K H a xs) [e,it] e (fun i h => (∃ old,IsEnum h e it i old)∧h.IsListIter it a i) where
  mem := by simp
  obj := fun i h st b hb => by
    obtain ⟨⟨old,he⟩,o,ho,hc,hd⟩ := st
    rcases List.mem_cons.mp hb with rfl | hb
    · exact ⟨_,he,fun v z => by have z' : Data.fields _ = Data.cell v := z; cases z'⟩
    · rw [List.mem_singleton.mp hb]
      exact ⟨o,ho,fun v z => by rw [hd] at z; cases z⟩
  keep := fun i h h' st kk => by
    obtain ⟨⟨old,he⟩,hi⟩ := st
    exact ⟨⟨old,kk e (by simp) _ he⟩,hi.at fun o q => kk it (by simp) o q⟩
  item := by
    intro X hP hw hK hc i pins s σ H E I hf st hg
    subst hP hw hK
    obtain ⟨xs,x,hq,hx⟩ := hg
    obtain ⟨its,rv,p,hz⟩ := I.list hq
    obtain ⟨⟨old,he⟩,hi⟩ := st
    obtain ⟨o1,ho1,hc1,hd1⟩ := id hi
    obtain ⟨o2,ho2,hc2,_⟩ := id p.isList
    have hai : a≠it := by rintro rfl; rw [ho1] at ho2; cases ho2; rw [hc1] at hc2; exact absurd hc2 (by decide)
    have hea : e≠a := by rintro rfl; rw [he] at ho2; cases ho2; exact absurd (show Value.type "enumerate" = _ from hc2) (by decide)
    have hlt : i < its.toArray.size := by
      have := (List.getElem?_eq_some_iff.mp hx).1
      rw [List.size_toArray,← rv.length]; exact this
    refine wpAny_pyNext_enum_itemD (Draws.list (A := X.A.in1) (show X.A.in1.handled = none from I.ok.hd hc) it a hai its.toArray) he ⟨hi,p.isList⟩ hlt hei (by simp [hei,hea]) fun y h' tk hP ho hs' hT hsz hk => ?_
    refine ⟨_,rfl,wpAny_letOwnedTupleGo_enum ho fun h'' he'' hs'' => ?_⟩
    obtain ⟨u,hu,ru⟩ := rv.get hx
    have hy : y = u := by
      have : its[i]? = some y := by simpa using hP
      rw [hu] at this; exact (Option.some.inj this).symm
    subst hy
    have hTe : s.heap.objs.size≠e := Nat.ne_of_gt (Heap.lt_size he)
    have hT'' : h''.get? s.heap.objs.size = some { cls := .type "tuple",data := .seq #[.int i tk,y] } := (hs''.2 _ hTe).trans hT
    refine ⟨.ref s.heap.objs.size,upd H s.heap.objs.size (.tup [.int i,x]),zcU (s := s) (h' := h'') (t' := tk + 1) (ch := [e,it]) I hf (fun b ob hb q => ?_) (Nat.le_refl _) (zdB hT'' ru),rfl,⟨_,x,I.hok.fresh (Nat.le_refl _),rfl,rfl,fun ys hy => by rw [I.list_inj hy hq]; exact hx⟩,⟨⟨_,by simpa using he''⟩,hs'.1.extBut hs''.extBut (Ne.symm hei)⟩,fun b hb => ?_⟩
    · have hbe : b≠e := fun z => hb (by simp [z])
      exact (hs''.2 b hbe).trans (hk b ob hbe (fun z => hb (by simp [z])) q)
    · rw [zaa ?_]
      · exact (hf b hb).1
      · rcases List.mem_cons.mp hb with rfl | hb
        · exact Nat.ne_of_lt (Heap.lt_size he)
        · rw [List.mem_singleton.mp hb]; exact Nat.ne_of_lt (Heap.lt_size ho1)
  done := by
    intro X hP hw hK hc i pins s σ H E I hf st hg
    subst hP hw hK
    obtain ⟨xs,hq,hx⟩ := hg
    obtain ⟨its,rv,p,hz⟩ := I.list hq
    obtain ⟨⟨old,he⟩,hi⟩ := st
    obtain ⟨o1,ho1,hc1,hd1⟩ := id hi
    obtain ⟨o2,ho2,hc2,_⟩ := id p.isList
    have hai : a≠it := by rintro rfl; rw [ho1] at ho2; cases ho2; rw [hc1] at hc2; exact absurd hc2 (by decide)
    obtain ⟨f0,f1,f2,f3,f4,f5⟩ := hf it (by simp)
    have hn : its.toArray.size = i := by rw [List.size_toArray,← rv.length]; exact hx
    refine wpAny_pyNext_enum_endD (Draws.list (A := X.A.in1) (show X.A.in1.handled = none from I.ok.hd hc) it a hai its.toArray) he ⟨by rw [hn]; exact hi,p.isList⟩ fun h' eb => ⟨rfl,I.turned (t' := s.toks) (fun b o hb q => eb b o hb q) f0 f1 f3 f4 f5⟩
  self := fun _ _ _ _ _ st h => let ⟨⟨_,he⟩,_⟩ := st; wpAny_pyIter_enum he h
theorem IsTupleIter.at' {h h' : Heap} {a t : Addr} {i : Nat} (x : h.IsTupleIter a t i) (hs : ∀ o,h.get? a = some o→h'.get? a = some o) : h'.IsTupleIter a t i := let ⟨o,ho,r⟩ := x; ⟨o,hs o ho,r⟩
theorem zc4 {P : Program} {w : World} {K : PySem.W.Frag} {elts : List Expr} {k : Nat} {pos : Pos} (a it e : Addr) (hei : e≠it) : Turn P w K (.Tuple elts k pos) (Ien fun H xs => SqT K H a xs) [e,it] e (fun i h => (∃ old,IsEnum h e it i old)∧h.IsTupleIter it a i) where
  mem := by simp
  obj := fun i h st b hb => by
    obtain ⟨⟨old,he⟩,o,ho,hc,hd⟩ := st
    rcases List.mem_cons.mp hb with rfl | hb
    · exact ⟨_,he,fun v z => by have z' : Data.fields _ = Data.cell v := z; cases z'⟩
    · rw [List.mem_singleton.mp hb]
      exact ⟨o,ho,fun v z => by rw [hd] at z; cases z⟩
  keep := fun i h h' st kk => by
    obtain ⟨⟨old,he⟩,hi⟩ := st
    exact ⟨⟨old,kk e (by simp) _ he⟩,IsTupleIter.at' hi fun o q => kk it (by simp) o q⟩
  item := by
    intro X hP hw hK hc i pins s σ H E I hf st hg
    subst hP hw hK
    obtain ⟨xs,x,hq,hx⟩ := hg
    obtain ⟨its,rv,p,hz⟩ := I.tuple hq
    obtain ⟨⟨old,he⟩,hi⟩ := st
    obtain ⟨o1,ho1,hc1,hd1⟩ := id hi
    obtain ⟨o2,ho2,hc2,_⟩ := id p
    have hai : a≠it := by rintro rfl; rw [ho1] at ho2; cases ho2; rw [hc1] at hc2; exact absurd hc2 (by decide)
    have hea : e≠a := by rintro rfl; rw [he] at ho2; cases ho2; exact absurd (show Value.type "enumerate" = _ from hc2) (by decide)
    have hlt : i < its.toArray.size := by
      have := (List.getElem?_eq_some_iff.mp hx).1
      rw [List.size_toArray,← rv.length]; exact this
    refine wpAny_pyNext_enum_itemD (ze6 (A := X.A.in1) (show X.A.in1.handled = none from I.ok.hd hc) it a hai its.toArray) he ⟨hi,p⟩ hlt hei (by simp [hei,hea]) fun y h' tk hP ho hs' hT hsz hk => ?_
    refine ⟨_,rfl,wpAny_letOwnedTupleGo_enum ho fun h'' he'' hs'' => ?_⟩
    obtain ⟨u,hu,ru⟩ := rv.get hx
    have hy : y = u := by
      have : its[i]? = some y := by simpa using hP
      rw [hu] at this; exact (Option.some.inj this).symm
    subst hy
    have hTe : s.heap.objs.size≠e := Nat.ne_of_gt (Heap.lt_size he)
    have hT'' : h''.get? s.heap.objs.size = some { cls := .type "tuple",data := .seq #[.int i tk,y] } := (hs''.2 _ hTe).trans hT
    refine ⟨.ref s.heap.objs.size,upd H s.heap.objs.size (.tup [.int i,x]),zcU (s := s) (h' := h'') (t' := tk + 1) (ch := [e,it]) I hf (fun b ob hb q => ?_) (Nat.le_refl _) (zdB hT'' ru),rfl,⟨_,x,I.hok.fresh (Nat.le_refl _),rfl,rfl,fun ys hy => by rw [I.tuple_inj hy hq]; exact hx⟩,⟨⟨_,by simpa using he''⟩,hs'.1.extBut hs''.extBut (Ne.symm hei)⟩,fun b hb => ?_⟩
    · have hbe : b≠e := fun z => hb (by simp [z])
      exact (hs''.2 b hbe).trans (hk b ob hbe (fun z => hb (by simp [z])) q)
    · rw [zaa ?_]
      · exact (hf b hb).1
      · rcases List.mem_cons.mp hb with rfl | hb
        · exact Nat.ne_of_lt (Heap.lt_size he)
        · rw [List.mem_singleton.mp hb]; exact Nat.ne_of_lt (Heap.lt_size ho1)
  done := by
    intro X hP hw hK hc i pins s σ H E I hf st hg
    subst hP hw hK
    obtain ⟨xs,hq,hx⟩ := hg
    obtain ⟨its,rv,p,hz⟩ := I.tuple hq
    obtain ⟨⟨old,he⟩,hi⟩ := st
    obtain ⟨o1,ho1,hc1,hd1⟩ := id hi
    obtain ⟨o2,ho2,hc2,_⟩ := id p
    have hai : a≠it := by rintro rfl; rw [ho1] at ho2; cases ho2; rw [hc1] at hc2; exact absurd hc2 (by decide)
    obtain ⟨f0,f1,f2,f3,f4,f5⟩ := hf it (by simp)
    have hn : its.toArray.size = i := by rw [List.size_toArray,← rv.length]; exact hx
    refine wpAny_pyNext_enum_endD (ze6 (A := X.A.in1) (show X.A.in1.handled = none from I.ok.hd hc) it a hai its.toArray) he ⟨by rw [hn]; exact hi,p⟩ fun h' eb => ⟨rfl,I.turned (t' := s.toks) (fun b o hb q => eb b o hb q) f0 f1 f3 f4 f5⟩
  self := fun _ _ _ _ _ st h => let ⟨⟨_,he⟩,_⟩ := st; wpAny_pyIter_enum he h
end DL
end
section
namespace DL
open PySem PySem.Spec PyProof.Rows L2
section
variable {X : Cx} {g : GE} {m : List Md} {e a : Expr} {f : FE} {pos p p2 : Pos}
end
section
variable {X : Cx} {g : GE} {m : List Md} {e a b : Expr} {f fa : FE} {pos p pos2 p2 : Pos} {es : List Expr} {fl : Rho → Res (List D)}
end
end DL
end
section
namespace DL
open PySem PySem.Spec PyProof.Rows L2
section
variable {X : Cx} {g : GE} {m mb : List Md} {e a b o : Expr} {es : List Expr} {f fa fb fo : FE} {fl : Rho → Res (List D)} {pos pos' apos cpos : Pos} {ro : Bool} {x name : Str} {T id : String} {R : V → List V → Hp → VK → Prop} {k : D → List D → Option D}
noncomputable def isInt : D→Bool
  | .int _ => true
  | _ => false
noncomputable def zhE : D→Option D
  | .dic kvs => some (.lst (kvs.map (·.2)))
  | _ => none
end
end DL
end
section
namespace DL
open PySem PySem.Spec PyProof.Rows L2
noncomputable def enuD : Nat→List D→List D
  | _,[] => []
  | i,d::ds => .tup [.int i,d]::enuD (i + 1) ds
theorem zbY : ∀ (i : Nat) (ds : List D),(enuD i ds).length = ds.length
  | _,[] => rfl
  | i,d::ds => congrArg (· + 1) (zbY (i + 1) ds)
theorem zc0 : ∀ (i j : Nat) (ds : List D),(enuD i ds)[j]? = (ds[j]?).map fun d => D.tup [.int ((i + j : Nat) : Int),d]
  | _,_,[] => by simp [enuD]
  | i,0,d::ds => by simp [enuD]
  | i,j + 1,d::ds => by
    show (enuD (i + 1) ds)[j]? = _
    rw [zc0 (i + 1) j ds]
    simp only [List.getElem?_cons_succ]
    rw [show i + 1 + j = i + (j + 1) by omega]
theorem zdj {K : PySem.W.Frag} {ds : List D} {G0 : GH} {sq : Hp→List V→Prop} (h : ∀ G H,Gle G0 G→GOk K G H→∃ xs,sq H xs∧RGs K G xs ds) : Yields K (Ien sq) (enuD 0 ds) G0 := by
  refine ⟨fun G H i w gk hi => ?_,fun G H i x H' d w gk y e => ?_,fun G H w gk => ?_⟩
  · obtain ⟨xs,s,r⟩ := h G H w gk
    rw [zbY] at hi
    have hl := Paired.length r
    exact ⟨xs,xs[i],s,List.getElem?_eq_getElem (by omega)⟩
  · obtain ⟨xs,s,r⟩ := h G H w gk
    obtain ⟨p,v,hp,rfl,rfl,hv⟩ := y
    rw [zc0] at e
    cases ed : ds[i]? with
    | none => rw [ed] at e; cases e
    | some d0 =>
      rw [ed] at e
      simp only [Option.map_some,Option.some.injEq,Nat.zero_add] at e
      subst e
      obtain ⟨v',e1,rv⟩ := Paired.get r ed
      have := hv xs s
      rw [e1] at this; cases this
      exact ⟨_,Grow.newF gk hp (.tup (.inl zab) (.cons (.scl (.int _)) (.cons rv .nil))),.ref zag⟩
  · obtain ⟨xs,s,r⟩ := h G H w gk
    rw [zbY]
    exact ⟨xs,s,Paired.length r⟩
noncomputable def fEnu (f : FE) : FI := fun r => (f r).bind fun d => (opt (zf4 d)).bind fun ds => .ok (enuD 0 ds)
section
variable {X : Cx} {g : GE} {m : List Md} {e a : Expr} {f : FE} {pos p pos2 : Pos} {elts : List Expr} {kk : Nat}
theorem zfn {te : TE} (hg : Gl X "enumerate") (hm : X.mg "enumerate" = none) (he : PE X e te) (hs : starEach [e] X.env = (false,eval e X.env)::starEach [] X.env := by rfl) : PI X (.Tuple elts kk pos2) (.Call (.Name "enumerate" p) [e] [] pos) (fun σ H R => te σ H fun x H1 =>
      (∃ a,x = .ref a∧(∃ xs,SqL X.K H1 a xs)∧R (Ien fun H xs => SqL X.K H a xs) H1)∨∃ a,x = .ref a∧(∃ xs,SqT X.K H1 a xs)∧R (Ien fun H xs => SqT X.K H a xs) H1) := by
  intro pins s σ H R I h
  refine Call_ (zcT I hg hm boot_enumerate (PyProof.Rows.callWith_type1 (thn (zam he za1 hs pos pins s σ H (fun vs H1 => match vs with
    | [x] => (∃ a,x = .ref a∧(∃ xs,SqL X.K H1 a xs)∧R (Ien fun H xs => SqL X.K H a xs) H1)∨∃ a,x = .ref a∧(∃ xs,SqT X.K H1 a xs)∧R (Ien fun H xs => SqT X.K H a xs) H1
    | _ => False) I h) fun us s1 ⟨vs,H1,I1,r1,q1⟩ => ?_) hs rfl))
  · cases r1 with
    | nil => exact q1.elim
    | @cons x u xs us rx rt =>
    cases rt with
    | cons _ _ => exact q1.elim
    | nil =>
    have fin : ∀ {h' : Heap},h'.objs.size = s1.heap.objs.size + 2→(∀ b o,s1.heap.get? b = some o→h'.get? b = some o)→∀ b∈[s1.heap.objs.size + 1,s1.heap.objs.size],FpOk X pins H1 b := fun hz kp b hb => by
      have hge : s1.heap.objs.size≤b := by
        rcases List.mem_cons.mp hb with rfl | hb
        · exact Nat.le_succ _
        · rw [List.mem_singleton.mp hb]; exact Nat.le_refl _
      exact I1.fpOk hge (I1.hok.fresh hge)
    rcases q1 with ⟨a,rfl,⟨xs,hq⟩,q⟩ | ⟨a,rfl,⟨xs,hq⟩,q⟩
    · cases rx
      obtain ⟨its,rv,pl,hz⟩ := I1.list hq
      refine call_enumerate_list pl.isList fun h' he hi hsz kp => wpAny_pyIter_enum he ?_
      exact ⟨_,[s1.heap.objs.size + 1,s1.heap.objs.size],_,_,H1,rfl,I1.kept (t' := s1.toks) kp,zc5 a _ _ (Nat.ne_of_gt (Nat.lt_succ_self _)),⟨⟨_,he⟩,hi⟩,fin hsz kp,q⟩
    · cases rx
      obtain ⟨its,rv,pl,hz⟩ := I1.tuple hq
      refine zbK (show s1.heap.IsTuple a its.toArray from pl) fun h' he hi hsz kp => wpAny_pyIter_enum he ?_
      exact ⟨_,[s1.heap.objs.size + 1,s1.heap.objs.size],_,_,H1,rfl,I1.kept (t' := s1.toks) kp,zc4 a _ _ (Nat.ne_of_gt (Nat.lt_succ_self _)),⟨⟨_,he⟩,hi⟩,fin hsz kp,q⟩
theorem zhh (hg : Gl X "enumerate") (hm : X.mg "enumerate" = none) (he : SE X g m e f) (hs : starEach [e] X.env = (false,eval e X.env)::starEach [] X.env := by rfl) : SIt X g m (.Tuple elts kk pos2) (.Call (.Name "enumerate" p) [e] [] pos) (fEnu f) := by
  refine PI.imp (zfn hg hm he hs) fun σ H R ⟨r,G,si,q⟩ => ⟨r,G,si,zac (zad q) fun d q v G' H' w rv => ?_⟩
  obtain ⟨ds,e,q⟩ := zar (zad q)
  cases d with
  | lst ds' =>
    cases e
    obtain ⟨a,xs,rfl,s,rs⟩ := rv.lst w.ok
    refine .inl ⟨a,rfl,⟨xs,s⟩,q _ G' H' w (zdj fun G H le gk => ?_)⟩
    obtain ⟨b,ys,e,s',r'⟩ := (rv.mono le).lst gk
    cases e
    exact ⟨ys,s',r'⟩
  | tup ds' =>
    cases e
    obtain ⟨a,xs,rfl,s,rs⟩ := rv.tup w.ok
    refine .inr ⟨a,rfl,⟨xs,s⟩,q _ G' H' w (zdj fun G H le gk => ?_)⟩
    obtain ⟨b,ys,e,s',r'⟩ := (rv.mono le).tup gk
    cases e
    exact ⟨ys,s',r'⟩
  | _ => cases e
end
end DL
end
section
namespace DL
open PySem PySem.Spec PyProof.Rows L2
inductive TupI (h : Heap) : Value→List Int→Prop where
  | mk {a : Addr} {items : Array Value} {ns : List Int} : IsTup h a items→IntsAre items.toList ns→TupI h (.ref a) ns
inductive TupsI (h : Heap) : List Value→List (List Int)→Prop where
  | nil : TupsI h [] []
  | cons {p : Value} {k : List Int} {ps : List Value} {ks : List (List Int)} : TupI h p k→TupsI h ps ks→TupsI h (p::ps) (k::ks)
theorem TupsI.length {h : Heap} : ∀ {ps : List Value} {ks : List (List Int)},TupsI h ps ks→ps.length = ks.length
  | _,_,.nil => rfl
  | _,_,.cons _ t => congrArg (· + 1) t.length
section
variable {prog : Program} {w : World} {A : Around} {s : Shared}
inductive TupR (h : Heap) : Value→List (List Int)→Prop where
  | mk {a : Addr} {items : List Value} {ks : List (List Int)} : IsTup h a items.toArray→TupsI h items ks→ks≠[]→TupR h (.ref a) ks
end
end DL
end
section
namespace DL
open PySem PySem.Spec PyProof.Rows L2
section
variable {X : Cx} {g : GE} {m : List Md} {e a : Expr} {f : FE} {pos p pos2 p2 : Pos}
end
end DL
end
section
namespace DL
open PySem PySem.Spec PyProof.Rows L2
theorem zaz.isS {P : Program} {w : World} {H : Hp} {h : Heap} {a : Addr} {o : HO} (x : zaz P w H h a o) : h.get? a≠none := by
  have s : ∀ {u : Obj},h.get? a = some u→h.get? a≠none := fun e z => by rw [z] at e; cases e
  cases o with
  | lst xs => obtain ⟨_,_,_,_,e⟩ := x; exact s e
  | tup xs => obtain ⟨_,_,_,⟨_,e,_⟩,_⟩ := x; exact s e
  | dK kvs => obtain ⟨_,_,_,_,o,_,_,e,_⟩ := x; exact s e
  | dT kvs => obtain ⟨_,_,_,_,o,_,_,e,_⟩ := x; exact s e
  | set S n => obtain ⟨o,_,_,_,e,_⟩ := x; exact s e
  | ins C dx fs => obtain ⟨_,_,_,e,_⟩ := x; exact s e
  | own y => obtain ⟨_,e⟩ := x; exact s e
  | xd fs => obtain ⟨_,⟨_,_,_,e,_⟩,_⟩ := x; exact s e
  | rng lo hi => obtain ⟨_,_,_,e⟩ := x; exact s e
  | frz ob u => obtain ⟨e,_⟩ := x; exact s e
  | tbl ps => exact s (show h.get? a = some _ from x)
  | met f y => exact s (show h.get? a = some _ from x)
  | ext φ => obtain ⟨_,⟨_,e⟩,_⟩ := x; exact s e
section
variable {X : Cx} {pins : List (Addr × Obj)} {σ : L2.St} {H : Hp} {s : Shared}
theorem TupI.stay {h h' : Heap} {L : Addr} {mm : Str→Option Value} (hL : h.Ns L mm) (k : ∀ b o,b≠L→h.get? b = some o→h'.get? b = some o) {p : Value} {ns : List Int} (x : TupI h p ns) : TupI h' p ns := by
  cases x with
  | mk ht hi =>
    obtain ⟨o,h1,h2,n,h3⟩ := ht
    refine .mk ⟨o,k _ _ ?_ h1,h2,n,h3⟩ hi
    rintro rfl
    obtain ⟨o',es,ep,e,d,_⟩ := hL
    rw [h1] at e; cases e
    rw [h3] at d; cases d
theorem TupsI.stay {h h' : Heap} {L : Addr} {mm : Str→Option Value} (hL : h.Ns L mm) (k : ∀ b o,b≠L→h.get? b = some o→h'.get? b = some o) : ∀ {ps : List Value} {ks : List (List Int)},TupsI h ps ks→TupsI h' ps ks
  | _,_,.nil => .nil
  | _,_,.cons x t => .cons (x.stay hL k) (t.stay hL k)
theorem TupR.stay {h h' : Heap} {L : Addr} {mm : Str→Option Value} (hL : h.Ns L mm) (k : ∀ b o,b≠L→h.get? b = some o→h'.get? b = some o) {p : Value} {ks : List (List Int)} (x : TupR h p ks) : TupR h' p ks := by
  cases x with
  | mk ht hi hn =>
    obtain ⟨o,h1,h2,n,h3⟩ := ht
    refine .mk ⟨o,k _ _ ?_ h1,h2,n,h3⟩ (hi.stay hL k) hn
    rintro rfl
    obtain ⟨o',es,ep,e,d,_⟩ := hL
    rw [h1] at e; cases e
    rw [h3] at d; cases d
end
end DL
end
section
namespace DL
open PySem PySem.Spec PyProof.Rows L2
section
variable {K : PySem.W.Frag} {G : GH} {H : Hp}
end
section
variable {X : Cx} {g : GE} {m : List Md} {a : Expr} {fl : Rho → Res (List D)} {pos p : Pos} {k : Nat}
end
end DL
end
section
namespace DL
open PySem PyProof.Rows PySem.SeqAt PySem.MeetsSeq PySem.MeetsSeq2 PySem.MeetsSeq3 L2
open PySem.AutoSeq1 (wpAny_loadPart')
end DL
end
section
namespace DL
open PySem PyProof.Rows L2
section
variable {prog : Program} {w : World} {A : Around} {E : Value → Shared → Prop} {s : Shared}
noncomputable def LisI (h : Heap) (u : Value) (ns : List Int) : Prop := ∃ a its,u = .ref a∧h.IsList a its∧IntsAre its.toList ns
end
end DL
end
section
namespace DL
open PySem PySem.Spec PyProof.Rows L2
section
variable {X : Cx} {pins : List (Addr × Obj)} {σ : L2.St} {H : Hp} {s : Shared}
theorem LisI.stay {h h' : Heap} {L : Addr} {mm : Str→Option Value} (hL : h.Ns L mm) (k : ∀ b o,b≠L→h.get? b = some o→h'.get? b = some o) {p : Value} {ns : List Int} (x : LisI h p ns) : LisI h' p ns := by
  obtain ⟨a,its,rfl,⟨o,h1,h2,n,h3⟩,hi⟩ := x
  refine ⟨a,its,rfl,⟨o,k _ _ ?_ h1,h2,n,h3⟩,hi⟩
  rintro rfl
  obtain ⟨o',es,ep,e,d,_⟩ := hL
  rw [h1] at e; cases e
  rw [h3] at d; cases d
end
section
variable {K : PySem.W.Frag} {G : GH} {H : Hp}
end
section
variable {X : Cx} {g : GE} {m : List Md} {a : Expr} {fl : Rho → Res (List D)} {pos p : Pos} {k : Nat}
end
end DL
end
section
namespace DL
open PySem PySem.Spec PyProof.Rows L2
section
variable {X : Cx} {pins : List (Addr × Obj)} {σ : L2.St} {H : Hp} {s : Shared}
end
section
variable {X : Cx} {g : GE} {m : List Md} {e a b : Expr} {es : List Expr} {fl : Rho → Res (List D)} {fa fb : FE} {pos p : Pos}
end
end DL
end
section
namespace DL
open PySem PyProof.Rows L2
open PySem.AutoSeq1 (wpAny_loadPart')
section
variable {X : Cx}
end
end DL
end
section
namespace DL
open PySem PyProof.Rows PySem.W
noncomputable abbrev at0 (p : Array Nat) (i : Nat) : Nat := p.getD i 0
section
variable {n : Nat} {c : Nat → Nat → Bool} (as : ∀ i j, c i j = true → c j i = false) (tr : ∀ i j k, c j i = false → c k j = false → c k i = false)
noncomputable def Le (c : Nat→Nat→Bool) (i j : Nat) : Prop := c j i = false
noncomputable def Dn (c : Nat→Nat→Bool) (p : Array Nat) (k : Nat) : Prop := ∀ i,i + 1 < k→Le c (at0 p (i + 1)) (at0 p i)
noncomputable def Eqv (c : Nat→Nat→Bool) (i j : Nat) : Prop := Le c i j∧Le c j i
include tr in
theorem Eqv.trans {i j k : Nat} (h1 : Eqv c i j) (h2 : Eqv c j k) : Eqv c i k := ⟨tr _ _ _ h1.1 h2.1,tr _ _ _ h2.2 h1.2⟩
theorem Eqv.symm {i j : Nat} (h : Eqv c i j) : Eqv c j i := ⟨h.2,h.1⟩
include as tr in
include tr in
theorem Dn.eqv {p p' : Array Nat} {k : Nat} (h : Dn c p k) (e : ∀ i,Eqv c (at0 p' i) (at0 p i)) : Dn c p' k := fun i hi => tr _ _ _ (e (i + 1)).1 (tr _ _ _ (h i hi) (e i).2)
include as tr in
include as tr in
include as tr in
include as tr in
include as tr in
include as tr in
include as tr in
include as tr in
include as tr in
end
end DL
end
section
namespace DL
section
variable {α : Type} {lt : α → α → Bool} {d : α}
end
end DL
end
section
namespace DL
open PySem PySem.Spec PyProof.Rows L2
section
variable {X : Cx} {pins : List (Addr × Obj)} {σ : L2.St} {H : Hp} {s : Shared}
end
section
variable {X : Cx} {g : GE} {m : List Md} {a : Expr} {fl : Rho → Res (List D)} {pos p : Pos} {k : Nat}
end
end DL
end
section
namespace DL
open PySem PySem.Spec PyProof.Rows L2
section
variable {X : Cx} {pins : List (Addr × Obj)} {σ : L2.St} {H : Hp} {s : Shared}
end
section
variable {X : Cx} {g : GE} {m : List Md} {e : Expr} {es : List Expr} {fl : Rho → Res (List D)} {pos p : Pos}
end
end DL
end
section
namespace DL
open PySem PySem.Spec PyProof.Rows L2
section
variable {X : Cx} {pins : List (Addr × Obj)} {σ : L2.St} {H : Hp} {s : Shared}
end
section
variable {X : Cx} {g : GE} {m : List Md} {e : Expr} {es : List Expr} {fl : Rho → Res (List D)} {pos p : Pos}
end
end DL
end
section
namespace DL
open PySem PySem.Spec PyProof.Rows L2
noncomputable def zf9 (h0 H : Hp) : Prop := ∀ a o,h0 a = some o→H a = some o
structure YieldsB (K : PySem.W.Frag) (h0 : Hp) (J : It) (ds : List D) (G0 : GH) : Prop where
  go : ∀ G H (i : Nat),Gle G0 G→GOk K G H→zf9 h0 H→i < ds.length→J.go i H
  yld : ∀ G H (i : Nat) x H' d,Gle G0 G→GOk K G H→zf9 h0 H→J.yld i H x H'→ds[i]? = some d→∃ G',Grow K G H G' H'∧RG K G' x d
  stop : ∀ G H,Gle G0 G→GOk K G H→zf9 h0 H→J.stop ds.length H
theorem Yields.toH {K : PySem.W.Frag} {h0 : Hp} {J : It} {ds : List D} {G0 : GH} (y : Yields K J ds G0) : YieldsB K h0 J ds G0 :=
  ⟨fun G H i w gk _ hi => y.go G H i w gk hi,fun G H i x H' d w gk _ q e => y.yld G H i x H' d w gk q e,fun G H w gk _ => y.stop G H w gk⟩
noncomputable def tIB (X : Cx) (g : GE) (m : List Md) (f : FI) : TI := fun σ H R => ∃ r G,SI X g m r G σ H∧fin (f r) (fun ds => ∀ J G' H',Grow X.K G H G' H'→YieldsB X.K g.h0 J ds G'→R J H') (XW X σ G H)
noncomputable def SItB (X : Cx) (g : GE) (m : List Md) (tg iter : Expr) (f : FI) : Prop := PI X tg iter (tIB X g m f)
section
variable {X : Cx} {g : GE} {m m' mb : List Md} {tg e a iter : Expr} {f : FE} {pos p pos2 : Pos} {ro : Bool} {sts : List Stmt} {s1 : FS} {elts : List Expr} {kk : Nat}
theorem SIt.toH {fi : FI} (h : SIt X g m tg iter fi) : SItB X g m tg iter fi := PI.imp h fun σ H R ⟨r,G,si,q⟩ => ⟨r,G,si,zac q fun ds k J G' H' w y => k J G' H' w y.toH⟩
end
end DL
end
section
namespace DL
open PySem PySem.Spec PyProof.Rows L2
open HT (sIx)
section
variable {prog : Program} {w : World} {A : Around} {E : Value → Shared → Prop} {s : Shared}
end
section
variable {X : Cx} {g : GE} {m : List Md} {e : Expr} {f fa : FE} {pos p2 : Pos}
end
end DL
end
section
namespace DL
open PySem PySem.Spec PyProof.Rows L2
noncomputable def zaX (g : GE) (H : Hp) (fp : List Addr) (i : Nat) (p : Addr) : GE :=
  ⟨g.gh,fun b => if b∈fp then H b else g.h0 b,fun j => if j = i then some (some (V.ref p),none) else g.hd j⟩
theorem zcW {g : GE} {H H' : Hp} {fp : List Addr} {i : Nat} {p : Addr} (h : ∀ b∈fp,H' b = H b) : zaX g H' fp i p = zaX g H fp i p := by
  unfold zaX
  congr 1
  funext b
  by_cases hb : b∈fp
  · rw [if_pos hb,if_pos hb,h b hb]
  · rw [if_neg hb,if_neg hb]
noncomputable def RowR (K : PySem.W.Frag) (G : GH) (H : Hp) (b : Addr) (ds : List D) : Prop := ∃ xs,H b = some (.lst xs)∧RGs K G xs ds
structure LRw (K : PySem.W.Frag) (G : GH) (H : Hp) (p : Addr) (as : List Addr) (w : List (List D)) : Prop where
  out : H p = some (.lst (as.map V.ref))
  nd : (p::as).Nodup
  un : ∀ b∈p::as,G b = none
  rw : Paired (RowR K G H) as w
theorem RowR.mono {K : PySem.W.Frag} {G G' : GH} {H H' : Hp} {b : Addr} {ds : List D} (h : RowR K G H b ds) (ge : Gle G G') (he : H' b = H b) : RowR K G' H' b ds := by
  obtain ⟨xs,h1,h2⟩ := h
  exact ⟨xs,by rw [he]; exact h1,h2.mono ge⟩
theorem zcN {α β : Type} {F F' : α→β→Prop} {l : List α} {r : List β} (h : Paired F l r) (f : ∀ a∈l,∀ b,F a b→F' a b) : Paired F' l r := by
  induction h with
  | nil => exact .nil
  | cons h _ ih => exact .cons (f _ List.mem_cons_self _ h) (ih fun a ha => f a (List.mem_cons_of_mem _ ha))
theorem LRw.isS {K : PySem.W.Frag} {G : GH} {H : Hp} {p : Addr} {as : List Addr} {w : List (List D)} (h : LRw K G H p as w) {b : Addr} (hb : b∈p::as) : H b≠none := by
  rcases List.mem_cons.mp hb with rfl | hb
  · rw [h.out]; simp
  · have : ∀ {as : List Addr} {w : List (List D)},Paired (RowR K G H) as w→b∈as→H b≠none := fun {as w} q hb => by
      induction q with
      | nil => cases hb
      | cons r _ ih =>
        rcases List.mem_cons.mp hb with rfl | hb
        · obtain ⟨xs,e,_⟩ := r; rw [e]; simp
        · exact ih hb
    exact this h.rw hb
theorem LRw.mono {K : PySem.W.Frag} {G G' : GH} {H H' : Hp} {p : Addr} {as : List Addr} {w : List (List D)} (h : LRw K G H p as w) (ge : Gle G G') (he : ∀ b∈p::as,H' b = H b) (un : ∀ b∈p::as,G' b = none) : LRw K G' H' p as w :=
  ⟨by rw [he p List.mem_cons_self]; exact h.out,h.nd,un,zcN h.rw fun b hb ds r => r.mono ge (he b (List.mem_cons_of_mem _ hb))⟩
noncomputable def SI2 (X : Cx) (g : GE) (i : Nat) (m : List Md) (r : Rho) (w : List (List D)) (G : GH) (st : L2.St) (H : Hp) : Prop :=
  ∃ p as,LRw X.K G H p as w∧(∀ b∈p::as,g.h0 b = none)∧SI X (zaX g H (p::as) i p) m r G st H∧m[i]? = some .bw
section
variable {X : Cx} {g : GE} {i : Nat} {m m' m1 : List Md} {r r' : Rho} {w : List (List D)} {G G' : GH} {σ σ' : L2.St} {H H' : Hp}
theorem zdf {p : Addr} {as : List Addr} (R : LRw X.K G H p as w) (h0 : ∀ b∈p::as,g.h0 b = none) (si : SI X (zaX g H (p::as) i p) m r G σ H) (le : Gle G G') (si' : SI X (zaX g H (p::as) i p) m' r' G' σ' H') (hm : m'[i]? = some .bw) : SI2 X g i m' r' w G' σ' H' := by
  have he : ∀ b∈p::as,H' b = H b := fun b hb => by
    have hs := R.isS hb
    cases e : H b with
    | none => exact absurd e hs
    | some o =>
      have : (zaX g H (p::as) i p).h0 b = some o := by show (if b∈p::as then H b else g.h0 b) = _; rw [if_pos hb]; exact e
      rw [si'.old b o this]
  have un : ∀ b∈p::as,G' b = none := fun b hb => by
    have h : (zaX g H (p::as) i p).h0 b≠none := by show (if b∈p::as then H b else g.h0 b)≠_; rw [if_pos hb]; exact R.isS hb
    have e1 := si'.gf b h
    have e2 := si.gf b h
    rw [e1,← e2]; exact R.un b hb
  exact ⟨p,as,R.mono le he un,h0,by rw [zcW he]; exact si',hm⟩
noncomputable abbrev FS2 := Rho→List (List D)→Option (Rho × List (List D))
variable {st : Stmt} {sts : List Stmt} {ro : Bool} {mb : List Md} {s1 : FS} {f1 f2 : FS2} {tg iter : Expr} {pos : Pos}
theorem zfO {K : PySem.W.Frag} {H : Hp} : ∀ {as : List Addr} {w : List (List D)} {G : GH},GOk K G H→Paired (RowR K G H) as w→as.Nodup→(∀ b∈as,G b = none)→∃ G',Gle G G'∧(∀ b,b∉as→G' b = G b)∧GOk K G' H∧Paired (fun b ds => G' b = some (.lst ds)) as w := by
  intro as
  induction as with
  | nil =>
    intro w G gk h _ _
    cases h
    exact ⟨G,Gle.refl G,fun _ _ => rfl,gk,.nil⟩
  | cons b as ih =>
    intro w G gk h nd un
    cases h with
    | @cons _ ds _ w r t =>
      rw [List.nodup_cons] at nd
      have hb := un b List.mem_cons_self
      obtain ⟨xs,e,rs⟩ := r
      have g1 : GOk K (gset G b (.lst ds)) H := gk.gset hb (.lst (.inl e) rs)
      obtain ⟨G',l,o,g,q⟩ := ih g1 (zcN t fun c hc ds r => r.mono (zan hb) rfl) nd.2 fun c hc => by
        rw [zap (by rintro rfl; exact nd.1 hc)]; exact un c (List.mem_cons_of_mem _ hc)
      refine ⟨G',Gle.trans (zan hb) l,fun c hc => ?_,g,.cons (l _ _ zag) q⟩
      rw [o c fun z => hc (List.mem_cons_of_mem _ z),zap (by rintro rfl; exact hc List.mem_cons_self)]
theorem zdA {G : GH} {as : List Addr} {w : List (List D)} {b : Addr} (hb : b∈as) (q : Paired (fun b ds => G b = some (.lst ds)) as w) : ∃ ds,G b = some (.lst ds) := by
  induction q with
  | nil => cases hb
  | cons h _ ih =>
    rcases List.mem_cons.mp hb with rfl | hb
    · exact ⟨_,h⟩
    · exact ih hb
theorem zcV {fp : List Addr} {p : Addr} {d0 : D} (si : SI X (zaX g H fp i p) m r G σ H) (hm : m[i]? = some .bw) (h0 : ∀ b∈fp,g.h0 b = none) (hS : ∀ b∈fp,H b≠none) (hb : ∀ j,j≠i→m[j]?≠some .bw) (le : Gle G G') (g2 : GOk X.K G' H) (out : ∀ b,b∉fp→G' b = G b) (hd : G' p = some d0) :
    SI X g (m.set i .sh) (r.set i (some d0)) G' σ H := by
  have hlt : i < m.length := (List.getElem?_eq_some_iff.mp hm).1
  have hst : σ[i]? = some (some (V.ref p)) := (si.lk i (some (V.ref p),none) (by show (if i = i then _ else _) = _; rw [if_pos rfl]) hm).1
  have h0' : ∀ b,b∉fp→(zaX g H (fp) i p).h0 b = g.h0 b := fun b hb => by show (if b∈fp then H b else g.h0 b) = _; rw [if_neg hb]
  have h0i : ∀ b,b∈fp→(zaX g H (fp) i p).h0 b≠none := fun b hb => by show (if b∈fp then H b else g.h0 b)≠_; rw [if_pos hb]; exact hS b hb
  have nin : ∀ b,g.h0 b≠none→b∉fp := fun b h z => h (h0 b z)
  have mne : ∀ {j x},i≠j→(m.set i .sh)[j]? = some x→m[j]? = some x := fun hij h => by rw [List.getElem?_set_ne hij] at h; exact h
  refine ⟨g2,fun a o e => ?_,fun a d e => le a d (si.ge a d e),fun a h => ?_,by simpa using si.lm,by simpa using si.lr,fun j d h1 h2 => ?_,fun j d h1 h2 => ?_,fun j d h1 h2 => ?_,fun j k a d e hjk h1 h2 m1 m2 z1 z2 => ?_,fun j o hj hm' => ?_⟩
  · exact si.old a o (by rw [h0' a (nin a (by rw [e]; simp))]; exact e)
  · have hn := nin a h
    rw [out a hn]
    exact si.gf a (by rw [h0' a hn]; exact h)
  · by_cases hij : i = j
    · subst hij
      rw [List.getElem?_set_self (by rw [si.lr,← si.lm]; exact hlt)] at h1
      cases h1
      exact ⟨_,hst,.ref hd⟩
    · rw [List.getElem?_set_ne hij] at h1
      obtain ⟨v,y1,y2⟩ := si.sh j d h1 (mne hij h2)
      exact ⟨v,y1,y2.mono le⟩
  · by_cases hij : i = j
    · subst hij; rw [List.getElem?_set_self hlt] at h2; cases h2
    · rw [List.getElem?_set_ne hij] at h1
      obtain ⟨a,y1,y2,y3⟩ := si.ow j d h1 (mne hij h2)
      have hn : a∉fp := fun z => h0i a z y3
      exact ⟨a,y1,⟨by rw [out a hn]; exact y2.un,y2.ob.mono le fun _ z => z⟩,by rw [← h0' a hn]; exact y3⟩
  · by_cases hij : i = j
    · subst hij; rw [List.getElem?_set_self hlt] at h2; cases h2
    · exact absurd (mne hij h2) (hb j (Ne.symm hij))
  · have hij : i≠j := by rintro rfl; rw [List.getElem?_set_self hlt] at m1; cases m1
    have hik : i≠k := by rintro rfl; rw [List.getElem?_set_self hlt] at m2; cases m2
    rw [List.getElem?_set_ne hij] at h1
    rw [List.getElem?_set_ne hik] at h2
    exact si.dis j k a d e hjk h1 h2 (mne hij m1) (mne hik m2) z1 z2
  · by_cases hij : i = j
    · subst hij; rw [List.getElem?_set_self hlt] at hm'; cases hm'
    · exact absurd (mne hij hm') (hb j (Ne.symm hij))
theorem SI2.frz (s : SI2 X g i m r w G σ H) (hb : ∀ j,j≠i→m[j]?≠some .bw) : ∃ G',Gle G G'∧(∀ b d,G b = none→G' b = some d→∃ ds,d = .lst ds)∧SI X g (m.set i .sh) (r.set i (some (.lst (w.map D.lst)))) G' σ H := by
  obtain ⟨p,as,R,h0,si,hm⟩ := s
  have nd := List.nodup_cons.mp R.nd
  obtain ⟨G1,l1,o1,g1,q1⟩ := zfO si.gok R.rw nd.2 fun b hb => R.un b (List.mem_cons_of_mem _ hb)
  have hp1 : G1 p = none := by rw [o1 p nd.1]; exact R.un p List.mem_cons_self
  have rs : RGs X.K G1 (as.map V.ref) (w.map D.lst) := by
    have : ∀ {as : List Addr} {w : List (List D)},Paired (fun b ds => G1 b = some (.lst ds)) as w→RGs X.K G1 (as.map V.ref) (w.map D.lst) := fun {as w} q => by
      induction q with
      | nil => exact .nil
      | cons h _ ih => exact .cons (.ref h) ih
    exact this q1
  have g2 : GOk X.K (gset G1 p (.lst (w.map D.lst))) H := g1.gset hp1 (.lst (.inl R.out) rs)
  have le : Gle G (gset G1 p (.lst (w.map D.lst))) := Gle.trans l1 (zan hp1)
  have out : ∀ b,b∉p::as→gset G1 p (.lst (w.map D.lst)) b = G b := fun b hb => by
    rw [zap (by rintro rfl; exact hb List.mem_cons_self),o1 b fun z => hb (List.mem_cons_of_mem _ z)]
  refine ⟨_,le,fun b d hn e => ?_,zcV si hm h0 (fun b hb => R.isS hb) hb le g2 out zag⟩
  by_cases hbp : b = p
  · subst hbp; rw [zag] at e; cases e; exact ⟨_,rfl⟩
  · rw [zap hbp] at e
    by_cases hba : b∈as
    · obtain ⟨ds,e1⟩ := zdA hba q1
      rw [e1] at e; cases e; exact ⟨_,rfl⟩
    · rw [o1 b hba,hn] at e; cases e
end
end DL
end
section
namespace DL
open PySem PySem.Spec PyProof.Rows L2
noncomputable def RO (K : PySem.W.Frag) (H2 : Hp) (p : Addr) (G : GH) (H : Hp) (ws : List V) (ds : List D) : Prop := Paired (fun v d => ∃ b,v = V.ref b∧H2 b = none∧b≠p∧Own K G H b d) ws ds∧ws.Nodup
section
variable {K : PySem.W.Frag} {H2 : Hp} {p : Addr} {G G' : GH} {H H' : Hp} {ws : List V} {ds : List D}
theorem RO.grow (h : RO K H2 p G H ws ds) (w : Grow K G H G' H') : RO K H2 p G' H' ws ds :=
  ⟨Paired.mono (fun v d ⟨b,e,h1,h2,h3⟩ => ⟨b,e,h1,h2,h3.mono w⟩) h.1,h.2⟩
theorem RO.upd {o : HO} (h : RO K H2 p G H ws ds) : RO K H2 p G (L2.upd H p o) ws ds :=
  ⟨Paired.mono (fun v d ⟨b,e,h1,h2,h3⟩ => ⟨b,e,h1,h2,h3.un,h3.ob.mono (fun _ _ z => z) fun _ z => by rw [zaa h2]; exact z⟩) h.1,h.2⟩
end
section
variable {X : Cx} {pins : List (Addr × Obj)} {σ : L2.St} {H2 : Hp} {s2 : Shared} {scope : Scope} {N' : List Str} {nl : Nat} {cap : List Nat} {cl : List (Str × Addr)} {fp : List Addr} {g : GE} {G2 : GH} {m : List Md} {r : Rho} {elt tg iter : Expr} {ifs : List Expr} {pos : Pos}
end
end DL
end
section
namespace DL
open PySem PySem.Spec PyProof.Rows L2
section
variable {X : Cx} {g : GE} {m mb : List Md} {scope : Scope} {N' : List Str} {nl : Nat} {cap : List Nat} {elt tg iter : Expr} {ifs : List Expr} {pos pos' spos : Pos} {fi : FI} {ft : FT} {q : FQ} {fe : FE} {ro : Bool}
end
end DL
end
section
namespace DL
open PySem PySem.Spec PyProof.Rows L2
section
variable {X : Cx} {g : GE} {i : Nat} {m m' m1 : List Md} {r r' : Rho} {w : List (List D)} {G G' : GH} {σ σ' : L2.St} {H H' : Hp}
theorem SI.row {p : Addr} {as : List Addr} (R : LRw X.K G H p as w) (si : SI X (zaX g H (p::as) i p) m r G σ H) (hm : m[i]? = some .bw) (hb : ∀ j,j≠i→m[j]?≠some .bw) {b : Addr} (hbm : b∈p::as) (o : HO) : SI X (zaX g (upd H b o) (p::as) i p) m r G σ (upd H b o) := by
  have un := R.un b hbm
  have h0' : ∀ c,c∉p::as→(zaX g H (p::as) i p).h0 c = g.h0 c := fun c hc => by show (if c∈p::as then H c else g.h0 c) = _; rw [if_neg hc]
  have h0i : ∀ c,c∈p::as→(zaX g H (p::as) i p).h0 c = H c := fun c hc => by show (if c∈p::as then H c else g.h0 c) = _; rw [if_pos hc]
  have k0' : ∀ c,c∉p::as→(zaX g (upd H b o) (p::as) i p).h0 c = g.h0 c := fun c hc => by show (if c∈p::as then _ else g.h0 c) = _; rw [if_neg hc]
  have k0i : ∀ c,c∈p::as→(zaX g (upd H b o) (p::as) i p).h0 c = upd H b o c := fun c hc => by show (if c∈p::as then upd H b o c else g.h0 c) = _; rw [if_pos hc]
  refine ⟨fun c d e => ?_,fun c u e => ?_,si.ge,fun c h => ?_,si.lm,si.lr,si.sh,fun j d h1 h2 => ?_,fun j d h1 h2 => ?_,si.dis,si.lk⟩
  · have hc : c≠b := by rintro rfl; rw [un] at e; cases e
    exact (si.gok c d e).mono (fun _ _ z => z) fun u z => by rw [zaa hc]; exact z
  · by_cases hc : c∈p::as
    · rw [k0i c hc] at e; exact e
    · rw [k0' c hc] at e
      have hcb : c≠b := by rintro rfl; exact hc hbm
      rw [zaa hcb]
      exact si.old c u (by rw [h0' c hc]; exact e)
  · by_cases hc : c∈p::as
    · exact si.gf c (by rw [h0i c hc]; exact R.isS hc)
    · rw [k0' c hc] at h
      exact si.gf c (by rw [h0' c hc]; exact h)
  · obtain ⟨a,q1,q2,q3⟩ := si.ow j d h1 h2
    have ha : a∉p::as := fun z => by rw [h0i a z] at q3; exact R.isS z q3
    have hab : a≠b := by rintro rfl; exact ha hbm
    rw [h0' a ha] at q3
    exact ⟨a,q1,⟨q2.un,q2.ob.mono (fun _ _ z => z) fun u z => by rw [zaa hab]; exact z⟩,by rw [k0' a ha]; exact q3⟩
  · by_cases hj : j = i
    · subst hj
      have := (si.lk j (some (V.ref p),none) (by show (if j = j then _ else _) = _; rw [if_pos rfl]) hm).2 d h1
      cases this
    · exact absurd h2 (hb j hj)
variable {ro : Bool} {mb : List Md} {pos p1 p2 p3 p4 p5 p6 p7 p8 p9 p10 p11 : Pos} {x xa xb : Str} {jc : Nat}
end
end DL
end
section
namespace DL
open PySem PySem.Spec PyProof.Rows L2
noncomputable def lessA (H : Hp) (a : Addr) : Hp := fun b => if b = a then none else H b
theorem zev {H : Hp} {a b : Addr} (h : b≠a) : lessA H a b = H b := if_neg h
theorem Grow.lessA {K : PySem.W.Frag} {G G' G2 : GH} {H H' H2 : Hp} {a : Addr} (w : Grow K G H G' H') (ha : H a = none) (w2 : Grow K G' (lessA H' a) G2 H2) : Grow K G H G2 H2 := by
  have ne : ∀ b,H b≠none→b≠a := fun b h => by rintro rfl; exact h ha
  have he : ∀ b o,H b = some o→DL.lessA H' a b = some o := fun b o e => by rw [zev (ne b (by rw [e]; simp))]; exact w.he b o e
  refine ⟨w2.ok,fun b o e => w2.he b o (he b o e),fun b d e => w2.ge b d (w.ge b d e),fun b h => ?_⟩
  rw [w2.gf b ?_,w.gf b h]
  cases e : H b with
  | none => exact absurd e h
  | some o => rw [he b o e]; simp
noncomputable def spV (K : PySem.W.Frag) (ro : Bool) (ms : List Md) (F : List D→Res D) : Sp := fun vs H Q _ => ∃ G us a ds d,GOk K G H∧vs = us++[V.ref a]∧ArgsOk K G H ms us ds∧Own K G H a d ∧
  fin (F (ds++[d])) (fun d' => ∀ v G' H',Grow K G (lessA H a) G' H'→RV ro K (lessA H a) G' H' v d'→Q v H') fun _ => False
section
variable {K : PySem.W.Frag} {G : GH} {H : Hp}
theorem ArgsOk.snoc {ms : List Md} {us : List V} {ds : List D} {v : V} {d : D} (h : ArgsOk K G H ms us ds) (r : RB K G H v d) : ArgsOk K G H (ms++[.bw]) (us++[v]) (ds++[d]) := by
  induction h with
  | nil => exact .bw r .nil
  | sh h _ ih => exact .sh h ih
  | bw h _ ih => exact .bw h ih
end
section
variable {P : Program} {w : World} {K : PySem.W.Frag} {mg : Str → Option Value} {base : Heap}
structure CalleeV (P : Program) (w : World) (K : PySem.W.Frag) (mg : Str→Option Value) (base : Heap) (x : Str) (ps : List Str) (k : Nat) (ro : Bool) (ms : List Md) (F : List D→Res D) : Prop where
  ex : ∃ f fd,mg x = some (.ref f)∧PySem.W.keepIn K (.ref f) = true∧zbw K fd ps []∧FnOk P w K mg base CX0 k f fd ps (spV K ro ms F)
end
section
variable {X : Cx} {g : GE} {m ms : List Md} {e : Expr} {es : List Expr} {f : FE} {fl : Rho → Res (List D × D)} {x : Str} {ps : List Str} {k : Nat} {F : List D → Res D} {p pos : Pos}
end
end DL
end
section
namespace DL
open PySem PySem.Spec PyProof.Rows L2
theorem LRw.grow {K : PySem.W.Frag} {G G' : GH} {H H' : Hp} {p : Addr} {as : List Addr} {w : List (List D)} (R : LRw K G H p as w) (wg : Grow K G H G' H') : LRw K G' H' p as w := by
  refine R.mono wg.ge (fun b hb => ?_) fun b hb => by rw [wg.gf b (R.isS hb)]; exact R.un b hb
  cases e : H b with
  | none => exact absurd e (R.isS hb)
  | some o => rw [wg.he b o e]
section
variable {X : Cx} {g : GE} {i : Nat} {m m' m1 : List Md} {r r' : Rho} {w : List (List D)} {G G' : GH} {σ σ' : L2.St} {H H' : Hp} {st : Stmt} {sts sts' : List Stmt} {f1 f2 : FS2} {c e ie : Expr} {es : List Expr} {q : FQ} {f fi : FE} {fl : Rho → Res (List D)} {pos p1 p2 p3 apos cpos spos : Pos} {x y : Str}
end
end DL
end
section
namespace DL
open PySem PySem.Spec PyProof.Rows L2
end DL
end
section
namespace DL
open PySem PySem.Spec PyProof.Rows L2
section
variable {X : Cx} {pins : List (Addr × Obj)} {σ : L2.St} {H : Hp} {s : Shared}
end
section
variable {X : Cx} {g : GE} {m : List Md} {a b : Expr} {fl : Rho → Res (List D)} {fa fb : FE} {pos p : Pos}
end
end DL
end
section
namespace DL
open PySem PySem.Spec PyProof.Rows L2
inductive Cln : D→Prop where
  | non : Cln .non
  | bl (b : Bool) : Cln (.bl b)
  | int (i : Int) : Cln (.int i)
  | str (x : Str) : Cln (.str x)
  | tup {ds : List D} : (∀ d∈ds,Cln d)→Cln (.tup ds)
theorem Cln.lst {ds : List D} (h : Cln (.lst ds)) : False := nomatch h
theorem Cln.dic {ds : List (Key × D)} (h : Cln (.dic ds)) : False := nomatch h
theorem Cln.get {ds : List D} (h : Cln (.tup ds)) : ∀ d∈ds,Cln d := by
  cases h with
  | tup h => exact h
section
variable {X : Cx} {g : GE} {i : Nat} {m m' m1 : List Md} {r r' : Rho} {w : List (List D)} {G G' : GH} {σ σ' : L2.St} {H H' : Hp} {e : Expr} {f : FE} {st : Stmt} {pos p1 p2 p3 p4 p5 p6 p7 p8 p9 p10 : Pos} {x xa xb y : Str}
theorem SI2.after (s : SI2 X g i m r w G σ H) (wg : Grow X.K G H G' H') : SI2 X g i m r w G' σ H' := by
  obtain ⟨p,as,R,h0,si,hm⟩ := s
  exact zdf R h0 si wg.ge (si.grow wg) hm
end
end DL
end
section
namespace DL
open PySem PySem.Spec PyProof.Rows L2
structure TL (K : PySem.W.Frag) (G : GH) (H : Hp) (p a : Addr) (d1 : D) (ds : List D) : Prop where
  tp : ∃ x xs,H p = some (.tup [x,.ref a])∧RG K G x d1∧H a = some (.lst xs)∧RGs K G xs ds
  un : ∀ b∈[p,a],G b = none
  ne : p≠a
theorem TL.isS {K : PySem.W.Frag} {G : GH} {H : Hp} {p a : Addr} {d1 : D} {ds : List D} (t : TL K G H p a d1 ds) : ∀ b∈[p,a],H b≠none := fun b hb => by
  obtain ⟨x,xs,h1,_,h2,_⟩ := t.tp
  rcases List.mem_cons.mp hb with rfl | hb
  · rw [h1]; simp
  · rw [List.mem_singleton.mp hb,h2]; simp
theorem TL.grow {K : PySem.W.Frag} {G G' : GH} {H H' : Hp} {p a : Addr} {d1 : D} {ds : List D} (t : TL K G H p a d1 ds) (w : Grow K G H G' H') : TL K G' H' p a d1 ds := by
  obtain ⟨x,xs,h1,h2,h3,h4⟩ := t.tp
  exact ⟨⟨x,xs,w.he _ _ h1,h2.mono w.ge,w.he _ _ h3,h4.mono w.ge⟩,fun b hb => by rw [w.gf b (t.isS b hb)]; exact t.un b hb,t.ne⟩
noncomputable def RW (K : PySem.W.Frag) (H0 : Hp) (G : GH) (H : Hp) (v : V) (d : D) : Prop := ∃ p a d1 ds,v = .ref p∧d = .tup [d1,.lst ds]∧(∀ b∈[p,a],H0 b = none)∧TL K G H p a d1 ds
noncomputable def spW (K : PySem.W.Frag) (ms : List Md) (F : List D→Res D) : Sp := fun vs H Q _ => ∃ G ds,GOk K G H∧ArgsOk K G H ms vs ds∧fin (F ds) (fun d => ∀ v G' H',Grow K G H G' H'→RW K H G' H' v d→Q v H') fun _ => False
noncomputable abbrev FW := Rho→Res D
section
variable {X : Cx} {g : GE} {ro : Bool} {i : Nat} {m m' m1 mb : List Md} {r r' : Rho} {G G' : GH} {σ σ' : L2.St} {H H' : Hp} {e e1 e2 c : Expr} {f f1 f2 : FE} {q : FQ} {st : Stmt} {sts sts1 : List Stmt} {s1 : FS} {fs : FW} {pos p1 p2 p3 p4 apos cpos : Pos} {x y : Str}
end
section
variable {P : Program} {w : World} {K : PySem.W.Frag} {mg : Str → Option Value} {base : Heap}
structure CalleeW (P : Program) (w : World) (K : PySem.W.Frag) (mg : Str→Option Value) (base : Heap) (x : Str) (ps : List Str) (k : Nat) (ms : List Md) (F : List D→Res D) : Prop where
  ex : ∃ f fd,mg x = some (.ref f)∧PySem.W.keepIn K (.ref f) = true∧zbw K fd ps []∧FnOk P w K mg base CX0 k f fd ps (spW K ms F)
end
section
variable {X : Cx} {g : GE} {ro : Bool} {i : Nat} {m m' m1 mb ms : List Md} {r r' : Rho} {G G' : GH} {σ σ' : L2.St} {H H' : Hp} {e c : Expr} {es : List Expr} {q : FQ} {st : Stmt} {sts sts1 : List Stmt} {fl : Rho → Res (List D)} {F : List D → Res D} {k : Nat} {ps : List Str} {pos p1 p2 p3 p4 apos cpos : Pos} {x y : Str} {d1 : D} {ds : List D}
noncomputable def SI3 (X : Cx) (g : GE) (i : Nat) (m : List Md) (r : Rho) (d1 : D) (ds : List D) (G : GH) (st : L2.St) (H : Hp) : Prop :=
  ∃ p a,TL X.K G H p a d1 ds∧(∀ b∈[p,a],g.h0 b = none)∧SI X (zaX g H [p,a] i p) m r G st H∧m[i]? = some .bw
theorem SI3.after (s : SI3 X g i m r d1 ds G σ H) (wg : Grow X.K G H G' H') : SI3 X g i m r d1 ds G' σ H' := by
  obtain ⟨p,a,t,h0,si,hm⟩ := s
  refine ⟨p,a,t.grow wg,h0,?_,hm⟩
  rw [zcW (H := H) fun b hb => ?_]
  · exact si.grow wg
  · cases e : H b with
    | none => exact absurd e (t.isS b hb)
    | some o => rw [wg.he b o e]
theorem SI3.frz (s : SI3 X g i m r d1 ds G σ H) (hb : ∀ j,j≠i→m[j]?≠some .bw) : ∃ G',Gle G G'∧(∀ b d,G b = none→G' b = some d→¬ Cln d)∧SI X g (m.set i .sh) (r.set i (some (.tup [d1,.lst ds]))) G' σ H := by
  obtain ⟨p,a,t,h0,si,hm⟩ := s
  obtain ⟨x,xs,h1,h2,h3,h4⟩ := t.tp
  have ua := t.un a (List.mem_cons_of_mem _ List.mem_cons_self)
  have up := t.un p List.mem_cons_self
  have g1 : GOk X.K (gset G a (.lst ds)) H := si.gok.gset ua (.lst (.inl h3) h4)
  have up1 : gset G a (.lst ds) p = none := by rw [zap t.ne]; exact up
  have g2 : GOk X.K (gset (gset G a (.lst ds)) p (.tup [d1,.lst ds])) H := g1.gset up1 (.tup (.inl h1) (.cons (h2.mono (zan ua)) (.cons (.ref zag) .nil)))
  refine ⟨_,Gle.trans (zan ua) (zan up1),fun b d hn e hc => ?_,zcV si hm h0 t.isS hb (Gle.trans (zan ua) (zan up1)) g2 (fun b hb => ?_) zag⟩
  · by_cases hbp : b = p
    · subst hbp; rw [zag] at e; cases e
      exact (hc.get _ (List.mem_cons_of_mem _ List.mem_cons_self)).lst
    · rw [zap hbp] at e
      by_cases hba : b = a
      · subst hba; rw [zag] at e; cases e; exact hc.lst
      · rw [zap hba,hn] at e; cases e
  · rw [zap (by rintro rfl; exact hb List.mem_cons_self),zap (by rintro rfl; exact hb (List.mem_cons_of_mem _ List.mem_cons_self))]
end
end DL
end
section
namespace DL
section
open PySem PyProof.Rows PySem.W PySem.Calls
variable {prog : Program} {w : World} {A : Around} {E : Value → Shared → Prop} {s : Shared} {l : Addr} {vs : List Value} {ns : List Int}
end
open PySem PySem.Spec PyProof.Rows L2
section
variable {X : Cx} {pins : List (Addr × Obj)} {σ : L2.St} {H : Hp} {s : Shared}
end
section
variable {X : Cx} {g : GE} {m : List Md} {a b : Expr} {fl : Rho → Res (List D)} {fa fb : FE} {pos p : Pos}
end
end DL
end
section
namespace DL
section
open PySem PyProof.Rows
variable {prog : Program} {w : World} {A : Around} {R : Result → Shared → Prop} {I S : Addr} {fp wr : List Addr} {n : Nat} {P : Nat → Value → Prop} {St : Nat → Heap → Prop} {TP : Heap → Prop} {bt : Nat → Nat → Bool}
noncomputable def zc2 (wr : List Addr) (S : Addr) (h h' : Heap) : Prop := ∀ b o,b∉wr→b≠S→h.get? b = some o→h'.get? b = some o
theorem zc2.trans {h h1 h2 : Heap} (a : zc2 wr S h h1) (b : zc2 wr S h1 h2) : zc2 wr S h h2 := fun c o hc hs e => b c o hc hs (a c o hc hs e)
end
end DL
end
section
namespace DL
open PySem PySem.Spec PyProof.Rows L2
section
variable {X : Cx} {pins : List (Addr × Obj)} {σ : L2.St} {H : Hp} {s : Shared}
end
section
variable {X : Cx} {g : GE} {m : List Md} {e : Expr} {es : List Expr} {fl : Rho → Res (List D)} {pos p : Pos}
end
section
variable {X : Cx}
end
end DL
end
section
namespace DL
open PySem PySem.Spec PyProof.Rows L2 PySem.W PySem.Calls
noncomputable def spX (K : PySem.W.Frag) (ro : Bool) (ms : List Md) (F : List D→Res D) : Sp := fun vs H Q E => ∃ G ds,GOk K G H∧ArgsOk K G H ms vs ds ∧
  fin (F ds) (fun d => ∀ v G' H',Grow K G H G' H'→RV ro K H G' H' v d→Q v H') fun x => ∀ C od nm fs G' H',x = xD nm fs→XN K nm C→XF G' od fs→Grow K G H G' H'→E (.ref C) od H'
section
variable {X : Cx} {k : Nat} {f : Addr} {fd : FuncData} {ps : List Str} {sp : Sp} {dvs : List V} {ds : List Value} {x : Str} {p pos : Pos} {e : Expr} {es : List Expr} {t : TA}
end
section
variable {P : Program} {w : World} {K : PySem.W.Frag} {mg : Str → Option Value} {base : Heap}
structure CalleeX (P : Program) (w : World) (K : PySem.W.Frag) (mg : Str→Option Value) (base : Heap) (x : Str) (ps : List Str) (ds : List Value) (k : Nat) (ro : Bool) (ms : List Md) (F : List D→Res D) : Prop where
  ex : ∃ f fd,mg x = some (.ref f)∧PySem.W.keepIn K (.ref f) = true∧zbw K fd ps ds∧FnOk P w K mg base (CXR P w) k f fd ps (spX K ro ms F)
end
section
variable {X : Cx} {g : GE} {ro : Bool} {m mb : List Md} {e : Expr} {es : List Expr} {fl : Rho → Res (List D)} {k : Nat} {ps : List Str} {F : List D → Res D} {dvs : List V} {ds : List Value} {dds : List D} {x : Str} {p np pos : Pos} {ms : List Md} {C : Addr}
end
end DL
end
section
namespace DL
open PySem PySem.Spec PyProof.Rows L2 PySem.W PySem.Calls
section
variable {M : Model} {A : Around} {E : Value → Shared → Prop} {s : Shared} {nm q nmT qT : Str} {C N T NT : Addr} {bs bm bsT bmT : List Value} {hdct hdctT : Bool} {sn snT : List Str} {sub subT' : List Value} {ab abT : Bool} {col colT : Option Bool} {dd ddT : Option Addr} {k0 k1 k2 k3 k5 t0 t1 t2 t3 t5 : Option Value} {newId newIdT : String}
end
end DL
end
section
namespace DL
open PySem PySem.Spec PyProof.Rows L2 PySem.W PySem.Calls
section
variable {X : Cx} {pins : List (Addr × Obj)} {σ : L2.St} {H H' : Hp} {s s' : Shared} {M : Model} {A : Around} {E : Value → Shared → Prop}
end
end DL
end
section
namespace DL
open PySem PySem.Spec PyProof.Rows L2 PySem.W PySem.Calls
noncomputable def XO (K : PySem.W.Frag) (C : Addr) (bm : List Value) : Prop := ∃ N nm q bs hdct sn sub ab col dd k0 k1 k2 k3 k5 newId,K.lookup C = some (excClassObj nm q C N bs bm hdct sn sub ab col dd k0 k1 k2 k3 k5 newId)
noncomputable abbrev _root_.L2.Cx.held (X : Cx) (v : Value) : Cx := { X with A := X.A.mark (some v),calm := false,xe := fun _ _ => False }
section
variable {X : Cx} {pins : List (Addr × Obj)} {σ : L2.St} {H H' : Hp} {s s' : Shared} {a C : Addr} {od : Option Addr}
theorem Inv.held (I : Inv X pins σ H s) (v : Value) : Inv (X.held v) pins σ H s :=
  ⟨⟨I.ok.mod,I.ok.kind,I.ok.glob,I.ok.blt,I.ok.above,I.ok.inj,I.ok.has,I.ok.cab,(fun h => nomatch h),I.ok.frames,I.ok.stk,I.ok.exf,I.ok.bs,I.ok.bsz,I.ok.noex,I.ok.exfs,I.ok.funs,I.ok.frf⟩,I.os,I.bare,I.base,I.loc,I.cell,I.free,I.freeC,I.pin,I.hok,I.len⟩
end
end DL
end
section
namespace DL
open PySem PySem.Spec PyProof.Rows L2 PySem.W PySem.Calls
section
variable {X : Cx} {pins : List (Addr × Obj)} {σ : L2.St} {H H' : Hp} {s s' : Shared} {a C T : Addr} {od : Option Addr}
end
end DL
end
section
namespace DL
open PySem PySem.Spec PyProof.Rows L2 PySem.W PySem.Calls
noncomputable abbrev _root_.L2.Cx.tr (X : Cx) (ps : List (Addr × Obj)) (E : Value→Shared→Prop) : Cx := { X with pn := ps,xe := E }
section
variable {X : Cx} {pins pins' : List (Addr × Obj)} {σ : L2.St} {H : Hp} {s : Shared} {E : Value → Shared → Prop}
theorem Inv.tr (I : Inv X pins σ H s) (E : Value→Shared→Prop) : Inv (X.tr (X.pn++pins) E) [] σ H s :=
  ⟨⟨I.ok.mod,I.ok.kind,I.ok.glob,I.ok.blt,I.ok.above,I.ok.inj,I.ok.has,I.ok.cab,I.ok.hd,I.ok.frames,I.ok.stk,I.ok.exf,I.ok.bs,I.ok.bsz,I.ok.noex,I.ok.exfs,I.ok.funs,I.ok.frf⟩,I.os,I.bare,I.base,I.loc,I.cell,I.free,I.freeC,fun p hp => I.pin p (by rw [List.append_nil] at hp; exact hp),I.hok,I.len⟩
theorem Inv.untr (I : Inv (X.tr (X.pn++pins) E) pins' σ H s) : Inv X pins σ H s :=
  ⟨⟨I.ok.mod,I.ok.kind,I.ok.glob,I.ok.blt,I.ok.above,I.ok.inj,I.ok.has,I.ok.cab,I.ok.hd,I.ok.frames,I.ok.stk,I.ok.exf,I.ok.bs,I.ok.bsz,I.ok.noex,I.ok.exfs,I.ok.funs,I.ok.frf⟩,I.os,I.bare,I.base,I.loc,I.cell,I.free,I.freeC,fun p hp => I.pin p (List.mem_append_left _ hp),I.hok,I.len⟩
theorem SP.untr {D : Ends} {f : Flow} (h : SP (X.tr (X.pn++pins) E) [] D f s) : SP X pins D f s := by
  cases f with
  | next => obtain ⟨σ',H',I,q⟩ := h; exact ⟨σ',H',Inv.untr I,q⟩
  | brk => obtain ⟨σ',H',I,q⟩ := h; exact ⟨σ',H',Inv.untr I,q⟩
  | cont => obtain ⟨σ',H',I,q⟩ := h; exact ⟨σ',H',Inv.untr I,q⟩
  | ret u => obtain ⟨v,σ',H',I,r,q⟩ := h; exact ⟨v,σ',H',Inv.untr I,r,q⟩
end
section
variable {X : Cx} {g : GE} {ro : Bool} {m m1 mb : List Md} {T : Addr} {fb fh : FS}
end
end DL
end
section
namespace DL
open PySem PySem.Spec PyProof.Rows L2 PySem.W PySem.Calls
theorem zfF : builtinKind "BaseException.__getattribute__" = some .slot := by kernel_rfl
theorem zei : splitId "BaseException.__getattribute__" = some ("BaseException","__getattribute__") := by decide +kernel
theorem zeq : plainId "BaseException.__getattribute__" = true := by kernel_rfl
theorem zfb : typeOf (.builtin "BaseException.__getattribute__") = pure (.type "wrapper_descriptor") := by kernel_rfl
section
variable {prog : Program} {w : World} {A : Around} {E : Value → Shared → Prop} {s : Shared} {nm q : Str} {C N a : Addr} {bs bm : List Value} {hdct : Bool} {sn : List Str} {sub : List Value} {ab : Bool} {col : Option Bool} {dd : Option Addr} {k0 k1 k2 k3 k5 : Option Value} {newId : String} {oe : Obj}
theorem zcY {T : String} {Q : Bool→Shared→Prop} (hC : s.heap.get? C = some (excClassObj nm q C N bs bm hdct sn sub ab col dd k0 k1 k2 k3 k5 newId)) (he : s.heap.get? a = some oe) (hc : oe.cls = .ref C) (hq : Q ((Value.ref C::bm).contains (.type T)) s) : wpAny (model prog w) A (isInstance (.ref a) (.type T)) Q E s := by
  unfold isInstance
  refine wpAny_bind (wpAny_typeOf_ref he ?_)
  rw [hc]
  obtain ⟨hh,hg,hdr,ht,ho⟩ := s
  exact wpAny_isSubtype_exc hC hq
theorem zeL {v : Value} {Q : Unit→Shared→Prop} (hC : s.heap.get? C = some (excClassObj nm q C N bs bm hdct sn sub ab col dd k0 k1 k2 k3 k5 newId)) (he : s.heap.get? a = some oe) (hc : oe.cls = .ref C) (hb : bm.contains (Value.type "BaseException") = true) (hq : Q () s) :
    wpAny (model prog w) A (checkBuiltinCall "BaseException.__getattribute__" ⟨[.ref a,v],[]⟩) Q E s := by
  unfold checkBuiltinCall
  simp only [zfF,zei]
  refine wpAny_bind (zcY hC he hc ?_)
  rw [List.contains_cons,hb,Bool.or_true,if_neg (by simp)]
  have := F.args_bexc_ga (.ref a) v
  unfold argsOk at this
  revert this
  generalize Manifest.signature? "BaseException.__getattribute__" = sg
  intro this
  cases sg with
  | none => exact wpAny_pure hq
  | some sig =>
    have e : Bind.checkArgs "BaseException.__getattribute__" sig ⟨[.ref a,v],[]⟩ = pure () := this
    show wpAny _ _ (Bind.checkArgs "BaseException.__getattribute__" sig ⟨[.ref a,v],[]⟩) _ _ _
    rw [e]
    exact wpAny_pure hq
theorem zfZ {v : Value} {Q : Value→Shared→Prop} (hC : s.heap.get? C = some (excClassObj nm q C N bs bm hdct sn sub ab col dd k0 k1 k2 k3 k5 newId)) (he : s.heap.get? a = some oe) (hc : oe.cls = .ref C) (hb : bm.contains (Value.type "BaseException") = true)
    (h : wpAny (model prog w) A.in1 (Builtin.«object.__getattribute__» ⟨[.ref a,v],[]⟩) (fun fin s' => ∃ u,fin = .done (.ret u)∧Q u s') E s) :
    wpAny (model prog w) A (call (.builtin "BaseException.__getattribute__") [.ref a,v]) Q E s := by
  refine wpAny_call (codeAny_call_builtin zeq F.entry_bexc_ga (zeL hC he hc hb ?_))
  refine wpAny_mono h (fun fin s' ⟨u,e,hq⟩ => ?_) fun e s' z => z
  subst e
  exact hq
theorem zea {K : PySem.W.Frag} {v : Value} {fill expr : Bool} {Q : Value→Shared→Prop} (kin : K.In s.heap) (hC : s.heap.get? C = some (excClassObj nm q C N bs bm hdct sn sub ab col dd k0 k1 k2 k3 k5 newId)) (he : s.heap.get? a = some oe) (hc : oe.cls = .ref C) (hb : bm.contains (Value.type "BaseException") = true)
    (g1 : findIn K (.ref C) "__getattribute__" = some (some (.builtin "BaseException.__getattribute__"))) (g2 : findIn K (.ref C) "__getattr__" = some none)
    (h : wpAny (model prog w) A.in1 (Builtin.«object.__getattribute__» ⟨[.ref a,v],[]⟩) (fun fin s' => ∃ u,fin = .done (.ret u)∧handedOut u = pure u∧Q u s') (fun _ _ => False) s) :
    wpAny (model prog w) A (getAttrBy (.ref a) v fill expr) Q E s := by
  unfold getAttrBy
  refine wpAny_holding (wpAny_bind (wpAny_typeOf_ref he ?_))
  rw [hc]
  refine wpAny_bind (looks_findIn kin g1 _ _ _ _ (fun b o e => e) ?_)
  show wpAny _ _ (if (onTheHeap (Value.ref C) && (Value.builtin "BaseException.__getattribute__" == Value.builtin "object.__getattribute__")) = true then _ else _) _ _ _
  rw [if_neg (by intro z; rw [show (Value.builtin "BaseException.__getattribute__" == Value.builtin "object.__getattribute__") = false from by decide +kernel,Bool.and_false] at z; cases z)]
  unfold getAttrByItsOwn hookBefore
  rw [if_pos (by rfl)]
  refine wpAny_bind (looks_findIn kin g2 _ _ _ _ (fun b o e => e) ?_)
  refine wpAny_bind (wpAny_attempt (wpAny_holding ?_))
  unfold callGetattribute
  have hx : (expr && onTheHeap (Value.builtin "BaseException.__getattribute__")) = false := by cases expr <;> rfl
  rw [hx,if_neg Bool.false_ne_true]
  unfold boundAndCalled bindSpecial
  rw [zfb]
  refine wpAny_bind (wpAny_bind (wpAny_pure ?_))
  rw [if_pos (by decide)]
  refine wpAny_pure ?_
  refine zfZ hC he hc hb (wpAny_mono h (fun fin s' ⟨u,e,ho,hq⟩ => ⟨u,e,?_⟩) fun _ _ z => False.elim z)
  show wpAny _ _ (handedOut u) _ _ _
  rw [ho]
  exact wpAny_pure hq
end
end DL
end
section
namespace DL
open PySem PySem.Spec PyProof.Rows L2 PySem.W PySem.Calls
theorem zfE : builtinKind "getset_descriptor.__get__" = some .slot := by kernel_rfl
theorem zeh : splitId "getset_descriptor.__get__" = some ("getset_descriptor","__get__") := by decide +kernel
theorem zep : plainId "getset_descriptor.__get__" = true := by kernel_rfl
theorem zeI : entryFor table "getset_descriptor.__get__" = some Builtin.«getset_descriptor.__get__» := by kernel_rfl
theorem zeH : entryFor table "object.__class__" = some Builtin.«object.__class__» := by kernel_rfl
theorem zfa : typeOf (.builtin "object.__class__") = pure (.type "getset_descriptor") := by kernel_rfl
theorem zf5 (a b c : Value) : argsOk "getset_descriptor.__get__" ⟨[a,b,c],[]⟩ := by kernel_rfl
theorem zeo : plainId "object.__class__" = true := by kernel_rfl
theorem zg1 : Builtin.Getset_descriptor.descrNameAndClass (.builtin "object.__class__") = pure (Str.ofString "__class__",Value.type "object") := by kernel_rfl
theorem zgg : isSubtype (.type "getset_descriptor") (.type "getset_descriptor") = pure true := by rw [isSubtype_type]; kernel_rfl
end DL
end
section
namespace DL
open PySem PySem.Spec PyProof.Rows L2 PySem.W PySem.Calls
section
variable {prog : Program} {w : World} {A : Around} {E : Value → Shared → Prop} {s : Shared} {nm q : Str} {C N a : Addr} {bs bm : List Value} {hdct : Bool} {sn : List Str} {sub : List Value} {ab : Bool} {col : Option Bool} {dd : Option Addr} {k0 k1 k2 k3 k5 : Option Value} {newId : String} {oe : Obj}
theorem zeC {Q : Value→Shared→Prop} (hC : s.heap.get? C = some (excClassObj nm q C N bs bm hdct sn sub ab col dd k0 k1 k2 k3 k5 newId)) (he : s.heap.get? a = some oe) (hc : oe.cls = .ref C) (hb : bm.contains (Value.type "object") = true) (hq : Q (.ref C) s) :
    wpAny (model prog w) A (call (.builtin "getset_descriptor.__get__") [.builtin "object.__class__",.ref a,.ref C]) Q E s := by
  refine wpAny_call (codeAny_call_builtin zep zeI ?_)
  unfold checkBuiltinCall
  simp only [zfE,zeh]
  unfold isInstance
  rw [zfa]
  refine wpAny_bind (wpAny_bind (wpAny_pure ?_))
  rw [zgg]
  refine wpAny_pure ?_
  rw [if_neg (by decide)]
  have this := zf5 (.builtin "object.__class__") (.ref a) (.ref C)
  unfold argsOk at this
  revert this
  generalize Manifest.signature? "getset_descriptor.__get__" = sg
  intro this
  have body : wpAny (model prog w) A.in1 (Builtin.«getset_descriptor.__get__» ⟨[.builtin "object.__class__",.ref a,.ref C],[]⟩) (fun fin s' => match fin with
      | Fin.done f => (match (Except.ok f : Result) with | .ok (.ret v) => Q v s' | .ok _ => False | .error e => E e s')
      | Fin.again c' => c'.quiet = true∧codeAny (model prog w) A c' (fun r s' => match r with | .ok (.ret v) => Q v s' | .ok _ => False | .error e => E e s') s') (fun e s' => E e s') s := by
    unfold Builtin.«getset_descriptor.__get__» Builtin.Getset_descriptor.descrGet Builtin.Getset_descriptor.descrGetArgs
    refine wpAny_bind ?_
    show wpAny _ _ (pure ((Value.builtin "object.__class__",some (Value.ref a),some (Value.ref C)) : Value × Option Value × Option Value)) _ _ _
    refine wpAny_pure ?_
    unfold Builtin.Getset_descriptor.descrGetter Builtin.Getset_descriptor.descrCheckInstance
    dsimp only
    rw [zg1]
    refine wpAny_bind (wpAny_bind (wpAny_pure (wpAny_bind (zcY hC he hc ?_))))
    rw [List.contains_cons,hb,Bool.or_true,if_neg (by simp)]
    refine wpAny_pure (wpAny_pure ⟨plainId_quiet zeo _,?_⟩)
    refine codeAny_builtin zeH ?_
    unfold Builtin.«object.__class__» shownTypeOf
    refine wpAny_bind (wpAny_bind (wpAny_typeOf_ref he ?_))
    rw [hc,if_neg (by intro z; cases z)]
    exact wpAny_pure (wpAny_pure hq)
  cases sg with
  | none => exact wpAny_pure body
  | some sig =>
    have e : Bind.checkArgs "getset_descriptor.__get__" sig ⟨[.builtin "object.__class__",.ref a,.ref C],[]⟩ = pure () := this
    show wpAny _ _ (Bind.checkArgs "getset_descriptor.__get__" sig ⟨[.builtin "object.__class__",.ref a,.ref C],[]⟩) _ _ _
    rw [e]
    exact wpAny_pure body
theorem zeD {K : PySem.W.Frag} {tk : Tok} {Q : Value→Shared→Prop} (kin : K.In s.heap) (hC : s.heap.get? C = some (excClassObj nm q C N bs bm hdct sn sub ab col dd k0 k1 k2 k3 k5 newId)) (he : s.heap.get? a = some oe) (hc : oe.cls = .ref C) (hb : bm.contains (Value.type "object") = true)
    (g1 : findIn K (.ref C) "__class__" = some (some (.builtin "object.__class__"))) (g2 : specialIn K (.builtin "object.__class__") "__get__" = some (some (.builtin "getset_descriptor.__get__"))) (g3 : takesIn K (.builtin "object.__class__") = some true) (hq : Q (.ref C) s) :
    wpAny (model prog w) A (Builtin.«object.__getattribute__» ⟨[.ref a,.str "__class__" tk],[]⟩) (fun fin s' => ∃ u,fin = .done (.ret u)∧handedOut u = pure u∧Q u s') E s := by
  unfold Builtin.«object.__getattribute__»
  refine wpAny_bind ?_
  show wpAny _ _ (pure ((Value.ref a,[Value.str "__class__" tk]) : Value × List Value)) _ _ _
  refine wpAny_pure ?_
  show wpAny _ _ (Builtin.ObjectAttr.attrName (Value.str "__class__" tk) >>= _) _ _ _
  refine wpAny_bind ?_
  show wpAny _ _ (pure (Str.ofString "__class__")) _ _ _
  refine wpAny_pure (wpAny_bind (wpAny_typeOf_ref he ?_))
  rw [hc]
  refine wpAny_bind ?_
  unfold Builtin.ObjectAttr.find
  refine wpAny_bind (looks_findIn kin g1 _ _ _ _ (fun b o e => e) ?_)
  refine wpAny_bind ?_
  show wpAny _ _ (specialOf (Value.builtin "object.__class__") (Str.ofString "__get__")) _ _ _
  refine looks_specialIn kin g2 _ _ _ _ (fun b o e => e) ?_
  refine wpAny_bind ?_
  show wpAny _ _ (Builtin.ObjectAttr.takesStores (Value.builtin "object.__class__") >>= _) _ _ _
  refine wpAny_bind (looks_takesIn kin g3 _ _ _ _ (fun b o e => e) ?_)
  rw [if_pos rfl]
  refine wpAny_pure (wpAny_bind (wpAny_rule (wpAny_pure ?_)))
  unfold Builtin.ObjectAttr.bindTo
  show wpAny _ _ (holding [Value.builtin "object.__class__"] (call (Value.builtin "getset_descriptor.__get__") [Value.builtin "object.__class__",Value.ref a,Value.ref C]) >>= fun v => ret v) _ _ _
  refine wpAny_bind (wpAny_holding (zeC hC he hc hb ?_))
  exact wpAny_pure ⟨_,rfl,rfl,hq⟩
end
end DL
end
section
namespace DL
open PySem PySem.Spec PyProof.Rows L2 PySem.W PySem.Calls
structure XA (K : PySem.W.Frag) (C : Addr) (bm : List Value) : Prop where
  ob : XO K C bm
  be : bm.contains (Value.type "BaseException") = true
  bo : bm.contains (Value.type "object") = true
  ga : findIn K (.ref C) "__getattribute__" = some (some (.builtin "BaseException.__getattribute__"))
  gn : findIn K (.ref C) "__getattr__" = some none
  gc : findIn K (.ref C) "__class__" = some (some (.builtin "object.__class__"))
  gg : specialIn K (.builtin "object.__class__") "__get__" = some (some (.builtin "getset_descriptor.__get__"))
  gt : takesIn K (.builtin "object.__class__") = some true
theorem zex {K : PySem.W.Frag} {a C : Addr} {od : Option Addr} {bm : List Value} (x : XA K C bm) : KitX K (.ref a) (.ref C) (XcO a C od) := by
  obtain ⟨N1,nm1,q1,bs1,hd1,sn1,sub1,ab1,col1,dd1,a0,a1,a2,a3,a5,nw1,z1⟩ := x.ob
  refine ⟨fun M h kin hx A Q E s hk hq => ?_,fun M h kin hx A Q E s hk hq => ?_,fun h tp dd its n sl kin ht => ?_,fun {prog w A E Q s} kin hx hq => ?_⟩
  · obtain ⟨oe,vs,e1,e2,_⟩ := hx
    exact wpAny_typeOf_ref (hk _ _ e1) (by rw [e2]; exact hq)
  · obtain ⟨hh,hg,hdr,ht,ho⟩ := s
    exact ks_wpAny_isType_cls (hk _ _ (kin _ _ z1)) rfl hq
  · cases hb : (Value.ref C == Value.ref tp) with
    | false => rfl
    | true =>
      have e : Value.ref C = Value.ref tp := eq_of_beq hb
      cases e
      have := kin _ _ z1
      rw [ht] at this
      have h2 := congrArg Obj.data (Option.some.inj this)
      cases h2
  · obtain ⟨oe,vs,e1,e2,_⟩ := hx
    unfold getAttr?
    refine wpAny_bind (wpAny_mkText ?_)
    unfold getAttrBy?
    refine wpAny_bind (wpAny_attempt (zea kin (kin _ _ z1) e1 e2 x.be x.ga x.gn ?_))
    exact zeD (s := { heap := s.heap,gens := s.gens,drawn := s.drawn,toks := s.toks + 1,os := s.os }) kin (kin _ _ z1) e1 e2 x.bo x.gc x.gg x.gt (wpAny_pure hq)
end DL
end
section
namespace DL
open PySem PySem.Spec PyProof.Rows L2 PySem.W PySem.Calls
noncomputable def isxD (tab : Str→Option Bool) : D→Option D
  | .non => some (.bl false)
  | .obj 0 ((_,.str nm)::_) => (tab nm).map .bl
  | _ => none
structure IsxOk (K : PySem.W.Frag) (c : Value) (tab : Str→Option Bool) : Prop where
  no : kitOne K (.type "NoneType") c = some false
  ex : ∀ nm b C,tab nm = some b→XN K nm C→∃ bm,XA K C bm∧kitOne K (.ref C) c = some b
section
variable {X : Cx} {g : GE} {m : List Md} {e : Expr} {f : FE} {pos p p2 : Pos}
theorem zeN {c : Value} {cv : V} (hcv : ∀ u,RelV cv u→u = c) : zb1 X (.builtin "isinstance") (fun xs H Q => ∃ x b,xs = [x,cv]∧((x = .non∧kitOne X.K (.type "NoneType") c = some b)∨∃ a C od bm,x = .ref a∧H a = some (.ext (XcO a C od))∧XA X.K C bm∧kitOne X.K (.ref C) c = some b)∧Q (.bl b) H) := by
  intro pins s σ H xs us Q I r h
  obtain ⟨x,b,rfl,h,q⟩ := h
  obtain ⟨u,w',rfl,rx,ry⟩ := ze9 r
  have := hcv _ ry
  subst this
  have fin : ∀ tk,EP X pins σ Q (.bool b) { s with toks := tk } := fun tk => ⟨.bl b,H,I.tok tk,rfl,q⟩
  rcases h with ⟨rfl,e⟩ | ⟨a,C,od,bm,rfl,ea,xa,e⟩
  · cases rx
    exact PySem.W.kia_one PySem.W.kitx_none I.kIn True.intro e (fun z => nomatch z) fin
  · cases (show u = Value.ref a from rx)
    exact PySem.W.kia_one (zex xa) I.kIn (I.hok a _ ea).1 e (fun z => nomatch z) fin
theorem RB.exc {K : PySem.W.Frag} {G : GH} {H : Hp} {v : V} {k : Str} {nm : Str} {ds : List (Str × D)} (gk : GOk K G H) (h : RB K G H v (.obj 0 ((k,.str nm)::ds))) : ∃ a C od,v = .ref a∧H a = some (.ext (XcO a C od))∧XN K nm C := by
  rcases h with h | ⟨a,rfl,h⟩
  · cases h with
    | scl s => cases s
    | ref e =>
      cases gk _ _ e with
      | exc r n f => exact ⟨_,_,_,rfl,r,n⟩
    | kc k => cases k
  · cases h.ob
theorem zeS {c : Value} {cv : V} {tab : Str→Option Bool} {a2 : Expr} (hcv : ∀ u,RelV cv u→u = c) (hx : IsxOk X.K c tab) (h2 : PE X a2 (tC cv)) (hg : Gl X "isinstance") (hm : X.mg "isinstance" = none) (he : SB X g m e f)
    (hs1 : starEach [e,a2] X.env = (false,eval e X.env)::starEach [a2] X.env := by rfl) (hs2 : starEach [a2] X.env = (false,eval a2 X.env)::starEach [] X.env := by rfl)
    (hpl : (backTo pos (starEach [a2] X.env)).any (·.1) = false := by rfl) :
    SE X g m (.Call (.Name "isinstance" p) [e,a2] [] pos) (f1 f (isxD tab)) := by
  refine PE.imp (zcM (zeN hcv) hg hm (by first | exact PyProof.Rows.boot_isinstance | rfl) (zam he (zam h2 za1 hs2) hs1) (by decide) (by decide) hs1 hpl) fun σ H Q ⟨r,G,si,q⟩ => ⟨r,G,si,zac (zad q) fun d q1 v G1 H1 w1 r1 => ?_⟩
  obtain ⟨d',e',q2⟩ := zar q1
  unfold isxD at e'
  split at e'
  · cases e'
    have hv : v = .non := r1.non w1.ok
    subst hv
    exact ⟨.non,false,rfl,.inl ⟨rfl,hx.no⟩,q2 _ G1 H1 w1 (.scl (.bl _))⟩
  · rename_i k nm ds
    cases ht : tab nm with
    | none => rw [ht] at e'; cases e'
    | some b =>
      rw [ht] at e'
      cases e'
      obtain ⟨a,C,od,rfl,ha,xn⟩ := RB.exc w1.ok r1
      obtain ⟨bm,xa,hk⟩ := hx.ex nm b C ht xn
      exact ⟨.ref a,b,rfl,.inr ⟨a,C,od,bm,rfl,ha,xa,hk⟩,q2 _ G1 H1 w1 (.scl (.bl _))⟩
  · cases e'
theorem zbu {x : Str} {T : Addr} {tab : Str→Option Bool} (hmT : X.mg x = some (.ref T)) (hx : IsxOk X.K (.ref T) tab) (hgT : Gl X x) (hg : Gl X "isinstance") (hm : X.mg "isinstance" = none) (he : SB X g m e f) (hd : (x == ("__debug__" : Str)) = false := by decide)
    (hs1 : starEach [e,.Name x p2] X.env = (false,eval e X.env)::starEach [.Name x p2] X.env := by rfl) (hs2 : starEach [.Name x p2] X.env = (false,eval (.Name x p2) X.env)::starEach [] X.env := by rfl)
    (hpl : (backTo pos (starEach [.Name x p2] X.env)).any (·.1) = false := by rfl) :
    SE X g m (.Call (.Name "isinstance" p) [e,.Name x p2] [] pos) (f1 f (isxD tab)) :=
  zeS (cv := .ref T) (fun u h => h) hx (zfq (v := .ref T) hgT hmT rfl hd) hg hm he hs1 hs2 hpl
theorem zgn {x : Str} {T : String} {tab : Str→Option Bool} (hv : bootBuiltins x = some (.type T)) (hmT : X.mg x = none) (hx : IsxOk X.K (.type T) tab) (hgT : Gl X x) (hg : Gl X "isinstance") (hm : X.mg "isinstance" = none) (he : SB X g m e f) (hn : x≠"__name__" := by decide) (hd : (x == ("__debug__" : Str)) = false := by decide)
    (hs1 : starEach [e,.Name x p2] X.env = (false,eval e X.env)::starEach [.Name x p2] X.env := by rfl) (hs2 : starEach [.Name x p2] X.env = (false,eval (.Name x p2) X.env)::starEach [] X.env := by rfl)
    (hpl : (backTo pos (starEach [.Name x p2] X.env)).any (·.1) = false := by rfl) :
    SE X g m (.Call (.Name "isinstance" p) [e,.Name x p2] [] pos) (f1 f (isxD tab)) :=
  zeS (cv := .ty T) (fun u h => h) hx (zfu (v := .ty T) hgT hmT hv rfl hn hd) hg hm he hs1 hs2 hpl
end
end DL
end
section
namespace DL
open PySem PySem.Spec PyProof.Rows L2 PySem.W PySem.Calls
section
variable {X : Cx} {g : GE} {m : List Md} {e : Expr} {es : List Expr} {fl : Rho → Res (List D)} {k : Nat} {ps : List Str} {F : List D → Res D} {x : Str} {p pos : Pos} {ms : List Md}
end
theorem XN.uniq {K : PySem.W.Frag} {nm : Str} {C c : Addr} (h : XN K nm C) (k : (K.all fun e => match e.2.data with | .cls cd => cd.name != nm || e.1 == c | _ => true) = true) : C = c := by
  obtain ⟨o,cd,h1,h2,h3⟩ := h
  have hm : (C,o)∈(K : List (Addr × Obj)) := by
    have key : ∀ l : List (Addr × Obj),l.lookup C = some o→(C,o)∈l := by
      intro l
      induction l with
      | nil => intro h; cases h
      | cons q l ih =>
        intro h
        rw [List.lookup] at h
        split at h
        · rename_i hb
          have := eq_of_beq hb
          cases h
          rw [this]; exact List.mem_cons_self
        · exact List.mem_cons_of_mem _ (ih h)
    exact key K h1
  have := List.all_eq_true.mp k _ hm
  simp only [h2] at this
  rw [h3] at this
  simpa using this
end DL
end
section
namespace DL
open PySem PySem.Spec PyProof.Rows L2 PySem.W PySem.Calls
noncomputable def xoIn (K : PySem.W.Frag) (C : Addr) : Option (List Value × Str) := match K.lookup C with
  | some ⟨.type "type",_,.cls cd,sl⟩ => (match cd.mro,sl.toList with
    | .ref C'::bm,[_,_,_,_,some (.builtin _),_] => if (C' == C && ! cd.hasDel) = true then some (bm,cd.name) else none
    | _,_ => none)
  | _ => none
theorem ze8 {K : PySem.W.Frag} {C : Addr} {bm : List Value} {nm : Str} (h : xoIn K C = some (bm,nm)) : XO K C bm∧XN K nm C := by
  unfold xoIn at h
  split at h
  · rename_i dict cd sl hk
    split at h
    · rename_i C' bm' k0 k1 k2 k3 n k5 hm hs
      split at h
      · rename_i hc
        cases h
        simp only [Bool.and_eq_true,beq_iff_eq,Bool.not_eq_true'] at hc
        obtain ⟨rfl,hd⟩ := hc
        refine ⟨?_,_,cd,hk,rfl,rfl⟩
        obtain ⟨nm',bs,mro,ns,q,hdct,sn,sub,ab,col,hdel⟩ := cd
        have e1 : mro = Value.ref C'::bm := hm
        have e2 : hdel = false := hd
        subst e1 e2
        have e3 : sl = #[k0,k1,k2,k3,some (Value.builtin n),k5] := by
          cases sl with
          | mk l => exact congrArg Array.mk hs
        subst e3
        exact ⟨_,_,_,_,_,_,_,_,_,_,_,_,_,_,_,_,hk⟩
      · cases h
    · cases h
  · cases h
noncomputable def unIn (K : PySem.W.Frag) (nm : Str) (c : Addr) : Bool := K.all fun e => match e.2.data with
  | .cls cd => cd.name != nm || e.1 == c
  | _ => true
structure CF (K : PySem.W.Frag) (nm : Str) (c : Addr) (bm : List Value) : Prop where
  xa : XA K c bm
  xn : XN K nm c
  un : unIn K nm c = true
theorem ziD {K : PySem.W.Frag} {nm : Str} {c : Addr} {bm : List Value} (o : xoIn K c = some (bm,nm)) (be : bm.contains (Value.type "BaseException") = true) (bo : bm.contains (Value.type "object") = true)
    (ga : findIn K (.ref c) "__getattribute__" = some (some (.builtin "BaseException.__getattribute__"))) (gn : findIn K (.ref c) "__getattr__" = some none) (gc : findIn K (.ref c) "__class__" = some (some (.builtin "object.__class__")))
    (gg : specialIn K (.builtin "object.__class__") "__get__" = some (some (.builtin "getset_descriptor.__get__"))) (gt : takesIn K (.builtin "object.__class__") = some true) (un : unIn K nm c = true) : CF K nm c bm :=
  ⟨⟨(ze8 o).1,be,bo,ga,gn,gc,gg,gt⟩,(ze8 o).2,un⟩
theorem CF.eq {K : PySem.W.Frag} {nm : Str} {c C : Addr} {bm : List Value} (f : CF K nm c bm) (h : XN K nm C) : C = c := XN.uniq h f.un
theorem zix {K : PySem.W.Frag} {c : Value} {tab : Str→Option Bool} (l : List (Str × Addr × List Value)) (n : kitOne K (.type "NoneType") c = some false) (h : ∀ q∈l,CF K q.1 q.2.1 q.2.2∧kitOne K (.ref q.2.1) c = tab q.1) (hh : ∀ nm b,tab nm = some b→∃ q∈l,q.1 = nm) : IsxOk K c tab := by
  refine ⟨n,fun nm b C ht xn => ?_⟩
  obtain ⟨q,hq,rfl⟩ := hh nm b ht
  obtain ⟨f,hc⟩ := h q hq
  have := f.eq xn
  subst this
  exact ⟨_,f.xa,by rw [hc,ht]⟩
theorem ziB {K : PySem.W.Frag} {h : Heap} {mg : Str→Option Value} {x : Str} {C : Addr} (KX : K.In h) (G : h.Ns mainGlobals mg) (a : PySem.W.nsIn K mainGlobals x = some (some (.ref C))) (e : excIn K C vErr "ValueError.__new__" = true) : XC K mg x C := ⟨PySem.W.mg_of KX G a,e⟩
end DL
end
section
namespace DL
open PySem PySem.Spec PyProof.Rows L2 PySem.W PySem.Calls
section
variable {prog : Program} {w : World} {A : Around} {E : Value → Shared → Prop} {s : Shared} {nm q : Str} {C N a : Addr} {bs bm : List Value} {sn : List Str} {sub : List Value} {ab : Bool} {col : Option Bool} {dd : Option Addr} {k0 k1 k2 k3 k5 : Option Value} {newId : String} {oe : Obj}
theorem zhj {K : PySem.W.Frag} {name : Str} {tk : Tok} {dx : Addr} {mA : Str→Option Value} {v : Value} {vs : Array Value} {Q : Value→Shared→Prop} (kin : K.In s.heap)
    (hC : s.heap.get? C = some (excClassObj nm q C N bs bm true sn sub ab col dd k0 k1 k2 k3 k5 newId)) (he : s.heap.get? a = some oe) (hc : oe.cls = .ref C) (hda : oe.data = .fields vs) (hdi : oe.dict = some dx) (hn : s.heap.Ns dx mA)
    (g1 : findIn K (.ref C) name = some none) (hv : mA name = some v) (ho : handedOut v = pure v) (hq : Q v s) :
    wpAny (model prog w) A (Builtin.«object.__getattribute__» ⟨[.ref a,.str name tk],[]⟩) (fun fin s' => ∃ u,fin = .done (.ret u)∧handedOut u = pure u∧Q u s') E s := by
  obtain ⟨oc,odi,oda,osl⟩ := oe
  dsimp only at hc hda hdi
  subst hc hda hdi
  unfold Builtin.«object.__getattribute__»
  refine wpAny_bind ?_
  show wpAny _ _ (pure ((Value.ref a,[Value.str name tk]) : Value × List Value)) _ _ _
  refine wpAny_pure ?_
  show wpAny _ _ (Builtin.ObjectAttr.attrName (Value.str name tk) >>= _) _ _ _
  refine wpAny_bind ?_
  show wpAny _ _ (pure name) _ _ _
  refine wpAny_pure (wpAny_bind (wpAny_typeOf_ref he ?_))
  refine wpAny_bind ?_
  unfold Builtin.ObjectAttr.find
  refine wpAny_bind (looks_findIn kin g1 _ _ _ _ (fun b o e => e) ?_)
  refine wpAny_bind ?_
  show wpAny _ _ (pure none) _ _ _
  refine wpAny_pure (wpAny_bind ?_)
  show wpAny _ _ (pure none) _ _ _
  refine wpAny_pure ?_
  unfold Builtin.ObjectAttr.ownThenClass Builtin.ObjectAttr.inOwnDict Builtin.ObjectAttr.ownDict
  refine wpAny_bind (wpAny_bind (wpAny_bind (wpAny_loadPart he ?_)))
  unfold instanceDict
  refine wpAny_bind (wpAny_loadPart he ?_)
  refine wpAny_bind ?_
  unfold classData
  refine wpAny_bind (wpAny_load hC (wpAny_pure ?_))
  dsimp only
  refine wpAny_pure ?_
  refine wpAny_nsGet hn ?_
  rw [hv]
  exact wpAny_bind (wpAny_rule (wpAny_pure (wpAny_pure ⟨v,rfl,ho,hq⟩)))
end
end DL
end
section
namespace DL
open PySem PySem.Spec PyProof.Rows L2 PySem.W PySem.Calls
noncomputable abbrev xObj (C t : Addr) (od : Option Addr) : Obj := { cls := .ref C,dict := od,data := .fields #[.ref t,.none,.none,.none,.bool false,.none] }
section
variable {prog : Program} {w : World} {A : Around} {E : Value → Shared → Prop} {h : Heap} {gs : Array GenState} {dr : Drawn} {tk : Nat} {os : OsState}
variable {nm ql : Str} {C N fI : Addr} {bs bm bB : List Value} {hdct : Bool} {sn : List Str} {sub : List Value} {ab : Bool} {col : Option Bool} {dd : Option Addr} {k0 k1 k2 k3 k5 : Option Value} {B nw ini : String} {mN : Str → Option Value} {us : List Value} {oI : Obj}
theorem zfc {Q : Fin→Shared→Prop} (XF : ExcBaseFacts B nw ini bB) (T : OwnTail h bB bm) (hC : h.get? C = some (excClassObj nm ql C N bs bm hdct sn sub ab col dd k0 k1 k2 k3 k5 nw)) (hn : h.Ns N mN) (hi : mN "__init__" = some (.ref fI))
    (hf : h.get? fI = some oI) (hfc : oI.cls = .type "function") (hz : us.length≤sizeLine)
    (hq : ∀ h' e,Heap.MadeExcOf h h' e (.ref C) us→wpAny (model prog w) A (call (.ref fI) (.ref e::us)) (fun r s' => r = .none∧Q (.done (.ret (.ref e))) s') E ⟨h',gs,dr,tk,os⟩) :
    wpAny (model prog w) A (Builtin.«type.__call__» ⟨.ref C::us,[]⟩) Q E ⟨h,gs,dr,tk,os⟩ := by
  repeat (first
    | with_reducible refine wpAny_loadPart_at hC ?_
    | with_reducible refine wpAny_madeBy_exc hC ?_
    | wp_step)
  refine codeAny_call_builtin_code (Code.quiet_builtin _ XF.quiet) (wpAny_check_new_subT XF T hC (codeAny_exc_new_subT XF T hC ?_ hz))
  show wpAny _ _ _ _ _ _
  have hk : ∀ b o,h.get? b = some o→((h.push { cls := .type "tuple",data := .seq us.toArray }).push (xObj C h.objs.size none)).get? b = some o := fun b o e => Heap.get?_push_of_some _ (Heap.get?_push_of_some _ e)
  have hg : ((h.push { cls := .type "tuple",data := .seq us.toArray }).push (xObj C h.objs.size none)).get? (h.objs.size + 1) = some (xObj C h.objs.size none) := by heap_get
  have hg2 : ((h.push { cls := .type "tuple",data := .seq us.toArray }).push (xObj C h.objs.size none)).get? h.objs.size = some { cls := .type "tuple",data := .seq us.toArray } := Heap.get?_push_of_some _ (Heap.get?_push_at rfl rfl)
  have hC1 := hk _ _ hC
  have hf1 := hk _ _ hf
  have hn1 := hn.keeps hk
  have T1 := T.keeps hk
  have hcC : (Value.ref C::bm).contains (.ref C) = true := by simp
  unfold isInstance
  repeat (first
    | with_reducible refine wpAny_loadPart_at hg ?_
    | (with_reducible refine wpAny_isSubtype_exc hC1 ?_; rw [hcC])
    | wp_step)
  show wpAny _ _ (typeLookup (.ref C) _) _ _ _
  refine wpAny_typeLookup_tail hC1 hn1 T1 XF.mroIs XF.init.lookup ?_
  rw [hi]
  refine wpAny_holding (wpAny_bind ?_)
  unfold bindSpecial
  refine wpAny_bind (wpAny_typeOf (T := "function") ⟨_,hf1,hfc⟩ ?_)
  rw [if_pos (by decide)]
  refine wpAny_pure (wpAny_bind (wpAny_mono (hq _ (h.objs.size + 1) ⟨hk,Heap.get?_none_of_le (Nat.le_succ _),h.objs.size,hg,Heap.get?_none_of_le (Nat.le_refl _),hg2⟩) (fun r s' hr => ?_) fun _ _ z => z))
  obtain ⟨rfl,hQ⟩ := hr
  wp_walk
  exact hQ
theorem zd7 {Q : Value→Shared→Prop} (XF : ExcBaseFacts B nw ini bB) (T : OwnTail h bB bm) (hC : h.get? C = some (excClassObj nm ql C N bs bm hdct sn sub ab col dd k0 k1 k2 k3 k5 nw)) (hn : h.Ns N mN) (hi : mN "__init__" = some (.ref fI))
    (hf : h.get? fI = some oI) (hfc : oI.cls = .type "function") (hz : us.length≤sizeLine)
    (hq : ∀ h' e,Heap.MadeExcOf h h' e (.ref C) us→wpAny (model prog w) (A.under (.builtin "type.__call__" ⟨.ref C::us,[]⟩)) (call (.ref fI) (.ref e::us)) (fun r s' => r = .none∧Q (.ref e) s') E ⟨h',gs,dr,tk,os⟩) :
    wpAny (model prog w) A (call (.ref C) us) Q E ⟨h,gs,dr,tk,os⟩ := by
  have f1 := tc_lookup
  have f2 := tc_bind (.ref C)
  have hT : Shared.TypeIs ⟨h,gs,dr,tk,os⟩ (.ref C) "type" := ⟨_,hC,rfl⟩
  refine wpAny_call (codeAny_of_tree ?_)
  show wpAny _ _ (callAny (.ref C) _) _ _ _
  repeat (any_goals (first
    | assumption
    | with_reducible refine wpAny_loadPart_at hC ?_
    | wp_step))
  exact ⟨rfl,codeAny_call_builtin_at (Code.quiet_builtin _ (by decide +kernel)) entry_typeCall (wpAny_check_type_call_sub hC (zfc XF T hC hn hi hf hfc hz fun h' e hm => hq h' e hm))⟩
end
end DL
end
section
namespace DL
open PySem PySem.Spec PyProof.Rows L2 PySem.W PySem.Calls
theorem zcv {self : Value} {bm : List Value} {h : Heap} (T : OwnTail h vErr bm) : refuseLoop self "__setattr__" bm = pure () := by
  induction T with
  | base => exact PySem.F.store_ValueError.passes self
  | own _ _ _ _ ih => rw [refuseLoop_ref]; exact ih
section
variable {prog : Program} {w : World} {A : Around} {E : Value → Shared → Prop} {h : Heap} {gs : Array GenState} {dr : Drawn} {tk : Nat} {os : OsState}
variable {nm ql : Str} {C N e t : Addr} {bs bm : List Value} {sn : List Str} {sub : List Value} {ab : Bool} {col : Option Bool} {dd : Option Addr} {k0 k1 k2 k3 k5 : Option Value} {nw : String} {K : PySem.W.Frag} {name : Str} {v : Value}
theorem setx {Q : Unit→Shared→Prop} (kin : K.In h) (hC : h.get? C = some (excClassObj nm ql C N bs bm true sn sub ab col dd k0 k1 k2 k3 k5 nw)) (T : OwnTail h vErr bm) (he : h.get? e = some (xObj C t none))
    (g0 : findIn K (.ref C) "__setattr__" = some (some (.builtin "object.__setattr__"))) (g1 : findIn K (.ref C) name = some none)
    (hq : ∀ h' dx tk',h.get? dx = none→h'.get? e = some (xObj C t (some dx))→h'.Ns1 dx (fun y => if y = name then some v else none)→(∀ b o,b≠e→h.get? b = some o→h'.get? b = some o)→Q () ⟨h',gs,dr,tk',os⟩) :
    wpAny (model prog w) A (setAttr (.ref e) name v) Q E ⟨h,gs,dr,tk,os⟩ := by
  have f3 := PySem.F.store_ValueError.slot.bind (.ref e)
  have hcB : (Value.ref C::bm).contains (.type "object") = true := by rw [List.contains_cons,zef T (by decide +kernel),Bool.or_true]
  have L0 : Looks (model prog w) h (isInstance (.ref e) (.type "object")) true := by
    intro A Q E s k q
    unfold isInstance
    refine wpAny_bind (wpAny_typeOf_ref (k _ _ he) ?_)
    obtain ⟨hh,a1,a2,a3,a4⟩ := s
    exact wpAny_isSubtype_exc (k _ _ hC) (by rw [hcB]; exact q)
  unfold setAttr callSpecial? specialOf
  refine wpAny_bind (wpAny_mkText ?_)
  refine wpAny_bind (wpAny_bind (wpAny_bind (wpAny_typeOf_ref he (looks_findIn kin g0 _ _ _ _ (fun b o e => e) ?_))))
  refine wpAny_holding ?_
  rw [f3]
  refine wpAny_bind (wpAny_pure (wpAny_bind (wpAny_call ?_)))
  have SF := PySem.F.store_object
  refine codeAny_call_builtin SF.slot.plain SF.entry (@check_slot (model prog w) _ _ ⟨h,gs,dr,tk + 1,os⟩ "object.__setattr__" "object" "__setattr__" (.ref e) [.str name tk,v] [] _ SF.kind SF.split L0 (SF.args (.ref e) (.str name tk) v) ?_)
  show wpAny _ _ (Builtin.«object.__setattr__» ⟨[.ref e,.str name tk,v],[]⟩) _ _ _
  rw [osa_eq,refuse_eq]
  refine wpAny_bind (wpAny_bind (wpAny_typeOf_ref he (wpAny_bind (wpAny_mroOf_exc hC ?_))))
  rw [refuseLoop_ref,zcv T]
  refine wpAny_pure (wpAny_bind (wpAny_typeOf_ref he (wpAny_bind (looks_findIn kin g1 _ _ _ _ (fun b o e => e) ?_))))
  refine wpAny_bind ?_
  show wpAny _ _ (pure none) _ _ _
  refine wpAny_pure ?_
  have hx1 : (h.push { cls := .type "dict",data := .dict #[] }).get? e = some (xObj C t none) := Heap.get?_push_of_some _ he
  have hxs : e≠h.objs.size := Nat.ne_of_lt (Heap.lt_size he)
  refine wpAny_bind (wpAny_pure (wpAny_bind (wpAny_bind (wpAny_loadPart he (wpAny_bind ?_)))))
  unfold classData
  refine wpAny_bind (wpAny_load hC (wpAny_pure ?_))
  refine wpAny_bind (wpAny_alloc' (wpAny_bind (wpAny_update' hx1 (wpAny_pure ?_))))
  have hgd : ((h.push { cls := .type "dict",data := .dict #[] }).update e fun o => { o with dict := some h.objs.size }).get? h.objs.size = some { cls := .type "dict",data := .dict #[] } :=
    (Heap.get?_update_ne _ _ _ _ hxs.symm).trans (Heap.get?_push_at rfl rfl)
  have hnd : ((h.push { cls := .type "dict",data := .dict #[] }).update e fun o => { o with dict := some h.objs.size }).Ns h.objs.size (fun _ => none) := ⟨_,#[],_,hgd,rfl,fun e he => absurd he (by simp),fun _ => rfl⟩
  show wpAny _ _ (Builtin.ObjectAttr.storeInDict h.objs.size (.str name tk) name v) _ _ _
  unfold Builtin.ObjectAttr.storeInDict Builtin.ObjectAttr.newKeyGuard
  refine wpAny_bind (wpAny_pure (wpAny_bind (wpAny_nsSet1 (Heap.Ns1.of_empty hnd) fun h' hn' hs => ?_)))
  obtain ⟨oD,esD,epD,hoD,hdD,hcD⟩ := hn'.count (Within.cons name v Within.nil)
  refine wpAny_bind (wpAny_lookBehind hoD (by rw [hdD]; exact pastItsLine_dict (Nat.le_trans hcD (by rw [List.length_cons,List.length_nil,sizeLine_eq]; omega))) ?_)
  have hx' : h'.get? e = some (xObj C t (some h.objs.size)) := (hs.2 e hxs).trans (Heap.get?_update_self _ hx1 rfl)
  refine wpAny_pure (show wpAny _ _ (pure (some Value.none)) _ _ _ from wpAny_pure (wpAny_pure (hq h' h.objs.size _ (Heap.get?_none_of_le (Nat.le_refl _)) hx' hn' fun b o hb hbo => ?_)))
  exact (hs.2 b (Nat.ne_of_lt (Heap.lt_size hbo))).trans ((Heap.get?_update_ne _ _ _ _ hb).trans (Heap.get?_push_of_some _ hbo))
theorem zf0 {x : Value} {Q : Value→Shared→Prop} (hC : h.get? C = some (excClassObj nm ql C N bs bm true sn sub ab col dd k0 k1 k2 k3 k5 "ValueError.__new__")) (T : OwnTail h vErr bm) (he : h.get? e = some (xObj C t none))
    (hq : ∀ h' t',h'.get? e = some (xObj C t' none)→(∀ b o,b≠e→h.get? b = some o→h'.get? b = some o)→Q .none ⟨h',gs,dr,tk,os⟩) :
    wpAny (model prog w) A (call (.builtin "ValueError.__init__") [.ref e,x]) Q E ⟨h,gs,dr,tk,os⟩ := by
  have XF := PySem.F.excBase_ValueError
  refine wpAny_call (codeAny_call_builtin XF.init.plain XF.initEntry (wpAny_check_init_subT XF T hC he rfl ?_))
  wp_walk
  refine hq _ h.objs.size ?_ fun b o hb hbo => ?_
  · rw [Heap.get?_update_self _ (Heap.get?_push_of_some _ he) rfl]; rfl
  · rw [Heap.get?_update_ne _ _ _ _ hb]; exact Heap.get?_push_of_some _ hbo
end
end DL
end
section
namespace DL
open PySem PySem.Spec PyProof.Rows L2 PySem.W PySem.Calls
noncomputable def XR (e C : Addr) (od : Option Addr) : Heap→Prop := fun h => ∃ t,h.get? e = some (xObj C t od)
theorem XR.ok {P : Program} {w : World} {H : Hp} {h : Heap} {e C t : Addr} {od : Option Addr} (x : h.get? e = some (xObj C t od)) : zaz P w H h e (.ext (XR e C od)) :=
  ⟨⟨t,x⟩,⟨_,x⟩,fun h1 h2 ⟨t,q⟩ k => ⟨t,k _ q⟩⟩
structure XI (K : PySem.W.Frag) (C : Addr) (bm : List Value) (f : Str) : Prop where
  ob : ∃ N nm q bs sn sub ab col dd k0 k1 k2 k3 k5,K.lookup C = some (excClassObj nm q C N bs bm true sn sub ab col dd k0 k1 k2 k3 k5 "ValueError.__new__")
  tl : ∀ h,K.In h→OwnTail h vErr bm
  g0 : findIn K (.ref C) "__setattr__" = some (some (.builtin "object.__setattr__"))
  g1 : findIn K (.ref C) f = some none
structure XT (K : PySem.W.Frag) (T : Addr) : Prop where
  sp : specialIn K (.ref T) "__getattribute__" = some (some (.builtin "type.__getattribute__"))
  rd : readsIn K T (.type "type") = true
  fc : findCls K (.ref T) (.type "type") "__init__" = some (.val (.builtin "ValueError.__init__"))
section
variable {X : Cx} {e : Expr} {ps : List Expr} {te : TE} {n k : Nat} {c : L2.St → Prop} {pos : Pos} {v₁ v₂ : Expr}
noncomputable def PJ (X : Cx) (ps : List Expr) (n : Nat) (c : L2.St→Prop) : Prop := ∀ (pins : List (Addr × Obj)) (s : Shared) (σ : L2.St) (H : Hp) (out : Str) (Q : Value→Shared→Prop),Inv X pins σ H s→c σ→out.length + n≤1000000 →
  (∀ x t s',x.length≤sizeLine→Inv X pins σ H s'→Q (.str x t) s')→wpAny (model X.prog X.w) X.A (joinParts out (evalEach ps X.env)) Q X.xe s
theorem zb7 : PJ X [] 0 c := fun pins s σ H out Q I _ hl q => by
  have hz : out.length≤sizeLine := by rw [sizeLine_eq]; omega
  exact joinParts_nil (q out _ _ hz (I.tok _)) hz
theorem zdv (he : PE X e te) (hr : PJ X ps n c) (h : ∀ σ H Q,c σ→(∀ x : Str,x.length≤k→Q (.str x) H)→te σ H Q) (hs : evalEach (e::ps) X.env = eval e X.env::evalEach ps X.env := by rfl) : PJ X (e::ps) (k + n) c := fun pins s σ H out Q I hc hl q => by
  rw [hs]
  refine joinParts_cons (thn (he pins s σ H (fun x H1 => ∃ y : Str,y.length≤k∧x = .str y∧H1 = H) I (h σ H _ hc fun x hx => ⟨x,hx,rfl,rfl⟩)) fun u s1 ⟨x,H1,I1,r,y,hy,hx,hH⟩ => ?_)
  subst hx hH
  obtain ⟨t,rfl⟩ := (show ∃ t,u = Value.str y t from r)
  have e1 : (out++y).length = out.length + y.length := strLen_append _ _
  refine ⟨by rw [sizeLine_eq]; omega,hr pins s1 σ _ _ Q I1 hc (by omega) q⟩
theorem zbP {a : Str} {j : Nat} {p : Pos} (hr : PJ X ps n c) (hs : evalEach (.Constant (.str a) j p::ps) X.env = eval (.Constant (.str a) j p) X.env::evalEach ps X.env := by rfl) : PJ X (.Constant (.str a) j p::ps) (a.length + n) c :=
  zdv zdx hr (fun σ H Q _ q => q a (Nat.le_refl _)) hs
theorem zgO {tv : TE} (hv : PE X e tv) : PE X (.FormattedValue e (-1) none pos) (fun σ H Q => tv σ H fun x H1 => ∃ i : Int,x = .int i∧i.natAbs.log2 < 64∧∀ z : Str,z.length≤65→Q (.str z) H1) := by
  intro pins s σ H Q I h
  refine FormattedValue_plain (thn (hv pins s σ H _ I h) fun u s1 ⟨x,H1,I1,r,i,hx,hi,q⟩ => ?_)
  subst hx
  obtain ⟨t,rfl⟩ := (show ∃ t,u = Value.int i t from r)
  refine formatField_int_small (by omega) ⟨.str (Str.ofString (toString i)),H1,I1.tok _,⟨_,rfl⟩,q _ ?_⟩
  rw [PySem.ofString_length]
  exact int_text_length_le (by omega) hi
theorem zb8 {j : Nat} {x : Str} {p : Pos} (hN : X.N[j]? = some x) (hv : Vis X.env.scope x) (hr : PJ X ps n c) (hc : ∀ σ,c σ→∃ i : Int,σ[j]? = some (some (.int i))∧i.natAbs.log2 < 64) (hd : (x == ("__debug__" : Str)) = false := by decide) (hcd : (x == ("__classdict__" : Str)) = false := by decide)
    (hs : evalEach (.FormattedValue (.Name x p) (-1) none pos::ps) X.env = eval (.FormattedValue (.Name x p) (-1) none pos) X.env::evalEach ps X.env := by rfl) : PJ X (.FormattedValue (.Name x p) (-1) none pos::ps) (65 + n) c :=
  zdv (zgO (zao hN hv hd hcd)) hr (fun σ H Q h q => by
    obtain ⟨i,e1,e2⟩ := hc σ h
    exact ⟨_,e1,i,rfl,e2,q⟩) hs
theorem zdz (h : PJ X (v₁::v₂::ps) n c) (hn : n≤1000000) (hs : evalEach (v₁::v₂::ps) X.env = eval v₁ X.env::eval v₂ X.env::evalEach ps X.env := by rfl) : PE X (.JoinedStr (v₁::v₂::ps) pos) (fun σ H Q => c σ∧∀ x : Str,x.length≤sizeLine→Q (.str x) H) := by
  intro pins s σ H Q I ⟨hc,q⟩
  refine JoinedStr_many ?_
  have := h pins s σ H Str.empty (EP X pins σ Q) I hc (by show 0 + n≤_; omega) fun x t s' hx I' => ⟨.str x,H,I',⟨t,rfl⟩,q x hx⟩
  rw [hs] at this
  exact this
end
section
variable {X : Cx} {a : Expr} {as : List Expr} {t : TA} {x : Str} {T : Addr} {p apos pos : Pos} {pl : Sem Bool}
theorem zbp (hg : Gl X x) (hm : X.mg x = some (.ref T)) (hT : XT X.K T) (ha : PA X (a::as) t) (hdb : (x == ("__debug__" : Str)) = false := by decide)
    (ht : eval (.Call (.Attribute (.Name x p) "__init__" apos) (a::as) [] pos) X.env = (do
      let ov ← eval (.Name x p) X.env
      standAt apos.atName
      let (f,first) ← holding [ov] (getMethod ov "__init__" pl)
      callWith pos f first (backTo pos (starEach (a::as) X.env)) (backToKw pos (keywordEach [] X.env))) := by rfl)
    (hs : starEach (a::as) X.env = (false,eval a X.env)::starEach as X.env := by rfl) (hplain : (backTo pos (starEach as X.env)).any (·.1) = false := by rfl) :
    PE X (.Call (.Attribute (.Name x p) "__init__" apos) (a::as) [] pos) (fun σ H Q => t σ H fun vs H1 => ∃ e C bm f y,vs = [.ref e,y]∧H1 e = some (.ext (XR e C none))∧XI X.K C bm f∧Q .non H1) := by
  intro pins s σ H Q I h
  refine methodCall_KW (pl := pl) (zbF I hg hm ?_ hdb) ht
  refine method_cls I.kIn hT.sp (cls_value (mc := .type "type") I.kIn hT.rd hT.fc rfl ?_)
  have I0 := I.tok (s.toks + 1)
  have hA := ha pos pins _ σ H _ I0 h
  rw [hs] at hA ⊢
  refine Calls.callWith_builtin (by show (false || (backTo pos (starEach as X.env)).any (·.1)) = false; rw [hplain] <;> rfl) (Calls.evalArgs_plain ?_)
  refine thn hA fun us s1 ⟨vs,H1,I1,r,e,C,bm,f,y,hv,he,xi,q⟩ => ?_
  subst hv
  obtain ⟨u,z,rfl,r1,r2⟩ := ze9 r
  cases (show u = Value.ref e from r1)
  obtain ⟨⟨t,g1⟩,_,_⟩ := I1.hok e _ he
  obtain ⟨N,nm,ql,bs,sn,sub,ab,col,dd,k0,k1,k2,k3,k5,ob⟩ := xi.ob
  refine zf0 (I1.kIn _ _ ob) (xi.tl _ I1.kIn) g1 fun h' t' g2 g3 => ⟨.non,H1,?_,rfl,q⟩
  have := I1.write (x := e) (e := e) (o := .ext (XR e C none)) (h' := h') (t' := s1.toks) (by rw [he]; trivial) (.inl rfl) g3 ⟨_,g2⟩ (XR.ok g2)
  rw [show upd H1 e (.ext (XR e C none)) = H1 from by funext b; unfold upd; split <;> simp_all] at this
  exact this
theorem zbn {o v : Expr} {f : Str} {to tv : TE} {p' : Pos} (ho : PE X o to) (hv : PE X v tv) (hs : swapsWith v (some (.Attribute o f p')) pos.line X.env = pure false := by rfl) :
    PS X (.Assign [.Attribute o f p'] v pos) (fun D σ H => tv σ H fun y H1 => to σ H1 fun x H2 => ∃ e C bm,x = .ref e∧H2 e = some (.ext (XR e C none))∧XI X.K C bm f∧∀ dx,H2 dx = none→dx≠e→D.nx σ (upd (upd H2 dx (.xd [(f,y)])) e (.ext (XR e C (some dx))))) := by
  intro pins s σ H D I h
  refine plainObj_wpAny_Assign_Attribute (thn (hv pins s σ H _ I h) fun u s1 ⟨y,H1,I1,ry,q⟩ => thn (ho pins s1 σ H1 _ I1 q) fun ov s2 ⟨x,H2,I2,rx,e,C,bm,ex,he,xi,q2⟩ => ?_) hs
  subst ex
  obtain rfl : ov = Value.ref e := rx
  obtain ⟨⟨t,g1⟩,_,_⟩ := I2.hok e _ he
  obtain ⟨N,nm,ql,bs,sn,sub,ab,col,dd,k0,k1,k2,k3,k5,ob⟩ := xi.ob
  refine setx I2.kIn (I2.kIn _ _ ob) (xi.tl _ I2.kIn) g1 xi.g0 xi.g1 fun h' dx tk' n1 n2 n3 n4 => ?_
  have hdx : H2 dx = none := by
    cases z : H2 dx with
    | none => rfl
    | some ho => obtain ⟨o,z2⟩ := zcO (I2.hok dx _ z); rw [n1] at z2; cases z2
  have hde : dx≠e := fun z => by rw [z,g1] at n1; cases n1
  have old : ∀ b u,H2 b = some u→b≠e→upd (upd H2 dx (.xd [(f,y)])) e (.ext (XR e C (some dx))) b = some u := fun b u hb hne => by
    rw [zaa hne,zaa (fun z => by rw [z,hdx] at hb; cases hb)]; exact hb
  refine ⟨σ,upd (upd H2 dx (.xd [(f,y)])) e (.ext (XR e C (some dx))),?_,q2 dx hdx hde⟩
  refine I2.call' (ch := []) rfl ⟨fun b o hb hn _ _ => n4 b o (fun z => by rw [z,he] at hn; cases hn) hb,fun b o hb hn _ _ => ⟨o.slots,n4 b o (fun z => by rw [z,he] at hn; cases hn) hb⟩,fun b o hb hn _ => ?_,fun b o hb _ => ?_,fun b xs hb => old b _ hb (fun z => by rw [z,he] at hb; cases hb),fun b o u hb => old b _ hb (fun z => by rw [z,he] at hb; cases hb),fun b ps hb => ⟨#[],by simpa using old b _ hb (fun z => by rw [z,he] at hb; cases hb)⟩⟩ (fun b u hb => ?_) I2.bare fun b hb => absurd hb (by simp)
  · rw [zaa (fun z => by rw [z,he] at hn; cases hn),zaa (fun z => by rw [z,n1] at hb; cases hb)]; exact hn
  · by_cases z : b = e
    · exact ⟨_,by rw [z]; exact n2⟩
    · exact ⟨o,n4 b o z hb⟩
  · by_cases z : b = e
    · subst z
      rw [zab] at hb; cases hb
      exact XR.ok n2
    · rw [zaa z] at hb
      by_cases z2 : b = dx
      · subst z2
        rw [zab] at hb; cases hb
        refine ⟨_,n3,fun g => ?_⟩
        show RelO (List.lookup g [(f,y)]) _
        rw [List.lookup]
        by_cases hg : g = f
        · subst hg
          simp only [beq_self_eq_true,if_pos]
          exact ry
        · rw [show (g == f) = false from by simpa using hg,if_neg hg]
          exact True.intro
      · rw [zaa z2] at hb
        refine (I2.hok b u hb).stay (fun c v hc hcv => n4 c v (fun zz => ?_) hcv) (fun c hc => old c _ hc fun zz => by rw [zz,he] at hc; cases hc) fun c xs hc => old c _ hc fun zz => by rw [zz,he] at hc; cases hc
        rcases hc with rfl | hc
        · exact z zz
        · rw [zz,he] at hc; cases hc
end
end DL
end
section
namespace DL
open PySem PySem.Spec PyProof.Rows L2 PySem.W PySem.Calls
theorem zh2 {K : PySem.W.Frag} {h : Heap} {N : Addr} {mg : Str→Option Value} {n : Str} {v : Value} (X : K.In h) (G : h.Ns N mg) (e : nsIn K N n = some (some v)) : mg n = some v := by
  obtain ⟨o,es,ep,ho,hd,_,hf⟩ := G
  unfold nsIn at e
  split at e
  · rename_i c d es' n' sl q
    have hx := X _ _ q
    rw [ho] at hx
    cases hx
    cases hd
    split at e
    · rename_i en he
      rw [← hf]
      unfold nsFind findBy
      rw [← Array.find?_toList,he]
      first | exact Option.some.inj e | (cases e; rfl)
    · split at e <;> cases e
  · cases e
noncomputable def spI (C : Addr) (f : Str) : Sp := fun vs H Q _ => ∃ e i,vs = [.ref e,.int i]∧i.natAbs.log2 < 64∧H e = some (.ext (XR e C none))∧∀ dx,H dx = none→dx≠e→Q .non (upd (upd H dx (.xd [(f,.int i)])) e (.ext (XR e C (some dx))))
noncomputable def cI (σ : L2.St) : Prop := ∃ i : Int,σ[1]? = some (some (.int i))∧i.natAbs.log2 < 64
noncomputable def tIni (K : PySem.W.Frag) (f : Str) : TS := tSeq (zfd (fun σ H Q => zdm (tVar 0) (zdm (fun σ H Q => cI σ∧∀ x : Str,x.length≤sizeLine→Q (.str x) H) tNil) σ H fun vs H1 => ∃ e C bm f y,vs = [.ref e,y]∧H1 e = some (.ext (XR e C none))∧XI K C bm f∧Q .non H1))
  (fun D σ H => tVar 1 σ H fun y H1 => tVar 0 σ H1 fun x H2 => ∃ e C bm,x = .ref e∧H2 e = some (.ext (XR e C none))∧XI K C bm f∧∀ dx,H2 dx = none→dx≠e→D.nx σ (upd (upd H2 dx (.xd [(f,y)])) e (.ext (XR e C (some dx)))))
theorem zbH {P : Program} {w : World} {K : PySem.W.Frag} {mg : Str→Option Value} {base : Heap} {qual y f : Str} {st : Stmt} {fI C : Addr} {fd : FuncData} {bm : List Value} {k : Nat} (F : Fun K "__init__" qual st fI fd) (S : FnScope ["self",y] ["self",y] (defScope st)) (xi : XI K C bm f)
    (hb : ∀ (cdv : Value) (A : Around) (outer : List Env) (s : Shared) (H : Hp) (E : XK),PSs (cxOf CX0 P w K mg base ["self",y] qual (defScope st) fI cdv A outer s H E).nox (defBody st) (tIni K f)) : FnOk P w K mg base CX0 (k + 1) fI fd ["self",y] (spI C f) := by
  refine F.ok S (fun vs H Q E ⟨e,i,h,_⟩ => by rw [h]; rfl) fun cdv A outer s H vs Q E hr ⟨e,i,hv,hi,he,q⟩ => ⟨_,hb cdv A outer s H E,?_⟩
  subst hv
  exact ⟨_,rfl,⟨i,rfl,hi⟩,fun x _ => ⟨e,C,bm,f,_,rfl,he,xi,_,rfl,_,rfl,e,C,bm,rfl,he,xi,fun dx h1 h2 => q dx h1 h2⟩⟩
structure XCI (P : Program) (w : World) (K : PySem.W.Frag) (mg : Str→Option Value) (base : Heap) (x : Str) (C : Addr) (f : Str) : Prop where
  bound : mg x = some (.ref C)
  keep : keepIn K (.ref C) = true
  ex : ∃ bm fI fd y oI N nm ql bs sn sub ab col dd k0 k1 k2 k3 k5,XI K C bm f∧K.lookup C = some (excClassObj nm ql C N bs bm true sn sub ab col dd k0 k1 k2 k3 k5 "ValueError.__new__")∧nsOkIn K N = true∧nsIn K N "__init__" = some (some (.ref fI))∧K.lookup fI = some oI∧oI.cls = .type "function" ∧
    zbw K fd ["self",y] []∧FnOk P w K mg base CX0 1 fI fd ["self",y] (spI C f)
section
variable {X : Cx} {pins : List (Addr × Obj)} {σ : L2.St} {H : Hp} {s : Shared}
theorem Inv.exc {h' : Heap} {e C : Addr} {vs : List Value} (I : Inv X pins σ H s) (m : s.heap.MadeExcOf h' e (.ref C) vs) : H e = none∧Inv X pins σ (upd H e (.ext (XR e C none))) { heap := h',gens := s.gens,drawn := s.drawn,toks := s.toks,os := s.os } := by
  obtain ⟨t,m1,m2,m3⟩ := m.there
  have hn : H e = none := by
    cases z : H e with
    | none => rfl
    | some u => obtain ⟨o,z2⟩ := zcO (I.hok e u z); rw [m.new] at z2; cases z2
  have old : ∀ b u,H b = some u→upd H e (.ext (XR e C none)) b = some u := fun b u hb => by rw [zaa (fun z => by rw [z,hn] at hb; cases hb)]; exact hb
  refine ⟨hn,I.call' (ch := []) rfl ⟨fun b o hb _ _ _ => m.keeps b o hb,fun b o hb _ _ _ => ⟨o.slots,m.keeps b o hb⟩,fun b o hb hz _ => ?_,fun b o hb _ => ⟨o,m.keeps b o hb⟩,fun b xs hb => old b _ hb,fun b o u hb => old b _ hb,fun b ps hb => ⟨#[],by simpa using old b _ hb⟩⟩ (fun b u hb => ?_) I.bare fun b hb => absurd hb (by simp)⟩
  · rw [zaa (fun z => by rw [z,m.new] at hb; cases hb)]; exact hz
  · by_cases z : b = e
    · subst z
      rw [zab] at hb; cases hb
      exact XR.ok m1
    · rw [zaa z] at hb
      exact (I.hok b u hb).stay (fun c v _ hc => m.keeps c v hc) (fun c hc => old c _ hc) fun c xs hc => old c _ hc
theorem Fly.init {s' : Shared} {h' : Heap} {e C dx : Addr} {vs : List Value} {f : Str} {y : V} (I : Inv X pins σ H s) (m : s.heap.MadeExcOf h' e (.ref C) vs) (os : s'.os = s.os) (bare : AllBare s'.gens)
    (un : Un (frs X.stack) [] (upd H e (.ext (XR e C none))) (upd (upd (upd H e (.ext (XR e C none))) dx (.xd [(f,y)])) e (.ext (XR e C (some dx)))) h' s'.heap)
    (hok : HOk X.prog X.w (upd (upd (upd H e (.ext (XR e C none))) dx (.xd [(f,y)])) e (.ext (XR e C (some dx)))) s'.heap) (hdx : upd H e (.ext (XR e C none)) dx = none) (hde : dx≠e) :
    H dx = none∧Fly X.prog X.w X.stack H s (upd H dx (.xd [(f,y)])) e (.ref C) (some dx) s' := by
  obtain ⟨hn,I2⟩ := Inv.exc I m
  have hd : H dx = none := by rw [zaa hde] at hdx; exact hdx
  have ne : ∀ b o,s.heap.get? b = some o→b≠e := fun b o hb z => by rw [z,m.new] at hb; cases hb
  have up : ∀ b,b≠e→upd (upd (upd H e (.ext (XR e C none))) dx (.xd [(f,y)])) e (.ext (XR e C (some dx))) b = upd H dx (.xd [(f,y)]) b := fun b hb => by
    rw [zaa hb]
    by_cases z : b = dx
    · subst z; rw [zab,zab]
    · rw [zaa z,zaa z,zaa hb]
  have up0 : ∀ b,b≠e→upd H e (.ext (XR e C none)) b = H b := fun b hb => zaa hb
  have he2 : upd H dx (.xd [(f,y)]) e = none := by rw [zaa hde.symm]; exact hn
  have inn : ∀ b u,upd H dx (.xd [(f,y)]) b = some u→b≠e := fun b u hb z => by rw [z,he2] at hb; cases hb
  obtain ⟨⟨t,g1⟩,_,_⟩ := hok e _ zab
  have un2 : Un (frs X.stack) [] H (upd H dx (.xd [(f,y)])) s.heap s'.heap := by
    refine ⟨fun b o hb hz hf hx => un.keep b o (m.keeps b o hb) (by rw [up0 b (ne b o hb)]; exact hz) hf hx,fun b o hb hz hf hx => un.slot b o (m.keeps b o hb) (by rw [up0 b (ne b o hb)]; exact hz) hf hx,fun b o hb hz hx => ?_,fun b o hb hx => un.there b o (m.keeps b o hb) hx,fun b xs hb => ?_,fun b o u hb => ?_,fun b ps hb => ?_⟩
    · rw [← up b (ne b o hb)]; exact un.free b o (m.keeps b o hb) (by rw [up0 b (ne b o hb)]; exact hz) hx
    · have hbe : b≠e := fun z => by rw [z,hn] at hb; cases hb
      rw [← up b hbe]; exact un.tups b xs (by rw [up0 b hbe]; exact hb)
    · have hbe : b≠e := fun z => by rw [z,hn] at hb; cases hb
      rw [← up b hbe]; exact un.frzs b o u (by rw [up0 b hbe]; exact hb)
    · have hbe : b≠e := fun z => by rw [z,hn] at hb; cases hb
      rw [← up b hbe]; exact un.tbls b ps (by rw [up0 b hbe]; exact hb)
  have hok2 : HOk X.prog X.w (upd H dx (.xd [(f,y)])) s'.heap := fun b u hb => by
    refine (hok b u (by rw [up b (inn b u hb)]; exact hb)).stay (fun c v _ hc => hc) (fun c hc => ?_) fun c xs hc => ?_
    · have : c≠e := fun z => by rw [z,zab] at hc; cases hc
      rw [← up c this]; exact hc
    · have : c≠e := fun z => by rw [z,zab] at hc; cases hc
      rw [← up c this]; exact hc
  refine ⟨hd,os,bare,un2,hok2,hideAll s'.heap (e::frs X.stack),fun b o hb => of_hideAll _ hb,hideAll_none _ List.mem_cons_self,?_,⟨_,_,g1,rfl,fun d hd => by cases hd; rfl,rfl,.inl rfl⟩,fun b o hb hf => ?_,fun b u hb => ?_⟩
  · have key : ∀ l : List Env,(∀ b∈frs l,b∈frs X.stack)→s.heap.FunFrames X.base l→s'.heap.FunFrames (hideAll s'.heap (e::frs X.stack)) l := by
      intro l
      induction l with
      | nil => intro _ _; unfold Heap.FunFrames; trivial
      | cons env l ih =>
        intro hs hf
        unfold Heap.FunFrames at hf ⊢
        obtain ⟨f1,⟨L,o,f2,f3,f4,f5⟩,f6⟩ := hf
        have hL : L∈frs X.stack := hs L (by unfold frs; rw [List.filterMap_cons,f2]; exact List.mem_cons_self)
        obtain ⟨sl,hsl⟩ := un2.slot L o f4 (I.stkFree L hL) hL (by simp)
        refine ⟨f1,⟨L,_,f2,hideAll_none _ (List.mem_cons_of_mem _ hL),hsl,f5⟩,ih (fun b hb => hs b ?_) f6⟩
        unfold frs; rw [List.filterMap_cons,f2]; exact List.mem_cons_of_mem _ hb
    exact key X.stack (fun _ hb => hb) I.stack
  · obtain ⟨o',ho'⟩ := un2.there b o hb (by simp)
    exact ⟨o',hideAll_get _ ho' fun z => by
      rcases List.mem_cons.mp z with z | z
      · exact ne b o hb z
      · exact hf z⟩
  · obtain ⟨o,eo⟩ := zcO (hok2 b u hb)
    refine ⟨o,hideAll_get _ eo fun z => ?_⟩
    rcases List.mem_cons.mp z with z | z
    · exact inn b u hb z
    · have h1 := I.stkFree b z
      by_cases zz : b = dx
      · obtain ⟨_,ob,hob,_⟩ := I.stack.mem z
        have := un2.free b ob hob h1 (by simp)
        rw [this] at hb; cases hb
      · rw [zaa zz,h1] at hb; cases hb
end
section
variable {X : Cx} {pins : List (Addr × Obj)} {σ : L2.St} {H : Hp} {s : Shared} {x f : Str} {C : Addr} {np cpos pos : Pos} {a : Expr} {t : TA}
end
end DL
end
section
namespace DL
open PySem PySem.Spec PyProof.Rows L2 PySem.W PySem.Calls
section
variable {X : Cx} {g : GE} {ro : Bool} {m mb : List Md} {a e : Expr} {fl : Rho → Res (List D)} {fe : FE} {x f nm : Str} {C : Addr} {p np pos : Pos}
noncomputable def xatD (hit : Str→Bool) (f : Str) : D→Option D
  | .obj 0 ((_,.str nm)::ds) => if hit nm = true then ds.lookup f else none
  | _ => none
noncomputable def zcm (K : PySem.W.Frag) (f : Str) (hit : Str→Bool) : Prop := ∀ nm C,hit nm = true→XN K nm C→∃ bm,XA K C bm∧XI K C bm f
theorem zgH {ta : TE} (he : PE X e ta) (hb : attributeBase e f X.env (eval e X.env) = eval e X.env) : PE X (.Attribute e f pos) (fun σ H Q => ta σ H fun x H1 => ∃ a C bm dx fs v,x = .ref a∧H1 a = some (.ext (XcO a C (some dx)))∧XA X.K C bm∧XI X.K C bm f∧H1 dx = some (.xd fs)∧fs.lookup f = some v ∧
    (∀ u,RelV v u→handedIn u = true)∧Q v H1) := by
  intro pins s σ H Q I h
  refine zf3 hb (thn (he pins s σ H _ I h) fun u s1 ⟨x,H1,I1,rx,a,C,bm,dx,fs,v,ex,ea,xa,xi,ed,l,hh,q⟩ => ?_)
  subst ex
  obtain rfl : u = Value.ref a := rx
  obtain ⟨⟨oe,vs,o1,o2,o3,o4⟩,_,_⟩ := I1.hok a _ ea
  obtain ⟨N,nm,ql,bs,sn,sub,ab,col,dd,k0,k1,k2,k3,k5,ob⟩ := xi.ob
  obtain ⟨mA,n1,n2⟩ := I1.hok dx _ ed
  have n3 := n2 f
  rw [l] at n3
  unfold getAttr
  refine wpAny_bind (wpAny_mkText ?_)
  cases hm : mA f with
  | none => rw [hm] at n3; exact False.elim n3
  | some z =>
    rw [hm] at n3
    exact zea (s := { heap := s1.heap,gens := s1.gens,drawn := s1.drawn,toks := s1.toks + 1,os := s1.os }) I1.kIn (I1.kIn _ _ ob) o1 o2 xa.be xa.ga xa.gn (zhj (s := { heap := s1.heap,gens := s1.gens,drawn := s1.drawn,toks := s1.toks + 1,os := s1.os }) I1.kIn (I1.kIn _ _ ob) o1 o2 o4 (o3 dx rfl) n1.ns xi.g1 hm (handedOut_of (hh z n3)) ⟨v,H1,I1.tok _,n3,q⟩)
theorem RFs.look {K : PySem.W.Frag} {G : GH} {fs : List (Str × V)} {ds : List (Str × D)} {d : D} (h : RFs K G fs ds) (l : ds.lookup f = some d) : ∃ v,fs.lookup f = some v∧RG K G v d := by
  induction h with
  | nil => cases l
  | @cons p q fs ds r _ ih =>
    obtain ⟨a,v⟩ := p
    obtain ⟨b,d'⟩ := q
    obtain ⟨r1,r2⟩ := r
    have r1 : a = b := r1
    subst r1
    rw [List.lookup] at l ⊢
    split at l
    · rename_i hb
      cases l
      exact ⟨v,rfl,r2⟩
    · rename_i hb
      exact ih l
theorem zc8 {hit : Str→Bool} (hx : zcm X.K f hit) (he : SB X g m e fe) (hb : attributeBase e f X.env (eval e X.env) = eval e X.env := by rfl) : SE X g m (.Attribute e f pos) (f1 fe (xatD hit f)) := by
  refine PE.imp (zgH he hb) fun σ H Q ⟨r,G,si,q⟩ => ⟨r,G,si,zac (zad q) fun d q1 v G1 H1 w1 r1 => ?_⟩
  obtain ⟨d',e',q2⟩ := zar q1
  unfold xatD at e'
  split at e'
  · rename_i k nm ds
    split at e'
    · rename_i hh
      obtain ⟨a,C,dx,rfl,ha,xn,hG⟩ : ∃ a C dx,v = .ref a∧H1 a = some (.ext (XcO a C (some dx)))∧XN X.K nm C∧G1 dx = some (.obj 1 ds) := by
        rcases r1 with h | ⟨a,rfl,h⟩
        · cases h with
          | scl s => cases s
          | ref e2 =>
            cases w1.ok _ _ e2 with
            | @exc _ _ od _ r n fl =>
              cases od with
              | none => cases (show ds = [] from fl); cases e'
              | some dx => exact ⟨_,_,dx,rfl,r,n,fl⟩
          | kc k => cases k
        · cases h.ob
      obtain ⟨bm,xa,xi⟩ := hx nm C hh xn
      cases w1.ok _ _ hG with
      | fld hd rf =>
        obtain ⟨v',l,rv⟩ := rf.look e'
        refine ⟨a,C,bm,dx,_,v',rfl,ha,xa,xi,hd,l,fun u hu => ?_,q2 v' G1 H1 w1 rv⟩
        cases rv with
        | scl s => cases s <;> first | (obtain ⟨_,rfl⟩ := hu; rfl) | (cases hu; rfl)
        | ref _ => cases (show u = Value.ref _ from hu); rfl
        | kc _ => cases (show u = Value.ref _ from hu); rfl
    · cases e'
  · cases e'
end
end DL
end
section
namespace DL
open PySem PySem.Spec PyProof.Rows L2 PySem.W PySem.Calls
noncomputable def nsOf (K : PySem.W.Frag) (C : Addr) : Option Addr := match K.lookup C with
  | some ⟨_,_,.cls cd,_⟩ => some cd.ns
  | _ => none
noncomputable def zkIn (K : PySem.W.Frag) (C N : Addr) : Bool := match K.lookup C with
  | some ⟨.type "type",_,.cls cd,sl⟩ => (match cd.mro,sl.toList with
    | .ref C'::bm,[_,_,_,_,some (.builtin n),_] => C' == C && n == "ValueError.__new__" && ! cd.hasDel && cd.hasDict && tailIn K vErr bm && nsOkIn K cd.ns && cd.ns == N
    | _,_ => false)
  | _ => false
theorem zhD {K : PySem.W.Frag} {C N : Addr} (h : zkIn K C N = true) : ∃ bm,(∃ nm q bs sn sub ab col dd k0 k1 k2 k3 k5,K.lookup C = some (excClassObj nm q C N bs bm true sn sub ab col dd k0 k1 k2 k3 k5 "ValueError.__new__"))∧tailIn K vErr bm = true∧nsOkIn K N = true := by
  unfold zkIn at h
  split at h
  · rename_i dict cd sl hk
    split at h
    · rename_i C' bm k0 k1 k2 k3 n k5 hm hs
      simp only [Bool.and_eq_true,beq_iff_eq,Bool.not_eq_true'] at h
      obtain ⟨⟨⟨⟨⟨⟨rfl,rfl⟩,hd⟩,hx⟩,ht⟩,hn⟩,rfl⟩ := h
      obtain ⟨nm',bs,mro,ns,q,hdct,sn,sub,ab,col,hdel⟩ := cd
      have e1 : mro = Value.ref C'::bm := hm
      have e2 : hdel = false := hd
      have e4 : hdct = true := hx
      subst e1 e2 e4
      have e3 : sl = #[k0,k1,k2,k3,some (Value.builtin "ValueError.__new__"),k5] := by
        cases sl with
        | mk l => exact congrArg Array.mk hs
      subst e3
      exact ⟨bm,⟨_,_,_,_,_,_,_,_,_,_,_,_,_,hk⟩,ht,hn⟩
    · cases h
  · cases h
theorem ze7 {K : PySem.W.Frag} {C N : Addr} {bm : List Value} {nm : Str} (h : zkIn K C N = true) (o : xoIn K C = some (bm,nm)) : (∃ nm q bs sn sub ab col dd k0 k1 k2 k3 k5,K.lookup C = some (excClassObj nm q C N bs bm true sn sub ab col dd k0 k1 k2 k3 k5 "ValueError.__new__"))∧tailIn K vErr bm = true∧nsOkIn K N = true := by
  obtain ⟨bm',⟨nm',q,bs,sn,sub,ab,col,dd,k0,k1,k2,k3,k5,h1⟩,h2,h3⟩ := zhD h
  obtain ⟨⟨N1,nm1,q1,bs1,hd1,sn1,sub1,ab1,col1,dd1,a0,a1,a2,a3,a5,nw1,z1⟩,_⟩ := ze8 o
  rw [h1] at z1
  have : bm' = bm := by
    have e1 := congrArg Obj.data (Option.some.inj z1)
    have e2 := Data.cls.inj e1
    have e3 := congrArg ClassData.mro e2
    exact (List.cons.inj e3).2
  subst this
  exact ⟨⟨_,_,_,_,_,_,_,_,_,_,_,_,_,h1⟩,h2,h3⟩
theorem ziA {K : PySem.W.Frag} {C N : Addr} {bm : List Value} {nm f : Str} (h : zkIn K C N = true) (o : xoIn K C = some (bm,nm)) (g0 : findIn K (.ref C) "__setattr__" = some (some (.builtin "object.__setattr__"))) (g1 : findIn K (.ref C) f = some none) : XI K C bm f := by
  obtain ⟨⟨nm',q,bs,sn,sub,ab,col,dd,k0,k1,k2,k3,k5,h1⟩,h2,h3⟩ := ze7 h o
  exact ⟨⟨N,nm',q,bs,sn,sub,ab,col,dd,k0,k1,k2,k3,k5,h1⟩,fun h kin => tail_of_in kin h2,g0,g1⟩
theorem zit {P : Program} {w : World} {K : PySem.W.Frag} {h : Heap} {mg : Str→Option Value} {x y f qual nm : Str} {C N fI : Addr} {bm : List Value} {st : Stmt} {fd : FuncData} (KX : K.In h) (G : h.Ns mainGlobals mg) (a : nsIn K mainGlobals x = some (some (.ref C))) (kp : keepIn K (.ref C) = true)
    (z : zkIn K C N = true) (o : xoIn K C = some (bm,nm)) (xi : XI K C bm f) (i : nsIn K N "__init__" = some (some (.ref fI))) (F : Fun K "__init__" qual st fI fd) (fc : typeIn K (.ref fI) = some (.type "function"))
    (hb : ∀ (kV doc pm : Value) (an : Option Addr) (cdv ct : Value) (us : List Value),us.length = ([("self" : Str),y]).length→bindArgs (PySem.W.fnOf "__init__" qual (defArgs st) (defBody st) (defScope st) .none kV doc pm an cdv ct) ⟨us,[]⟩ = pure (([("self" : Str),y]).zip us))
    (ok : ∀ base,FnOk P w K mg base CX0 1 fI fd ["self",y] (spI C f)) (base : Heap) : XCI P w K mg base x C f := by
  obtain ⟨⟨nm',q,bs,sn,sub,ab,col,dd,k0,k1,k2,k3,k5,h1⟩,h2,h3⟩ := ze7 z o
  obtain ⟨oI,lI,hI⟩ := Option.map_eq_some_iff.mp (show (K.lookup fI).map (·.cls) = some (.type "function") from fc)
  exact ⟨mg_of KX G a,kp,bm,fI,fd,y,oI,N,nm',q,bs,sn,sub,ab,col,dd,k0,k1,k2,k3,k5,xi,h1,h3,i,lI,hI,F.binds hb,ok base⟩
noncomputable def zbQ (s : Stmt) : Stmt := match s with
  | .ClassDef _ _ _ (d::_) _ _ _ _ _ _ _ => d
  | _ => s
section
variable {P : Program} {w : World} {K : PySem.W.Frag} {mg : Str → Option Value} {base : Heap}
end
theorem ziz {K : PySem.W.Frag} {f : Str} {hit : Str→Bool} (l : List (Str × Addr × List Value)) (h : ∀ q∈l,CF K q.1 q.2.1 q.2.2∧XI K q.2.1 q.2.2 f) (hh : ∀ nm,hit nm = true→∃ q∈l,q.1 = nm) : zcm K f hit := by
  intro nm C hn xn
  obtain ⟨q,hq,rfl⟩ := hh nm hn
  obtain ⟨c,xi⟩ := h q hq
  have := c.eq xn
  subst this
  exact ⟨_,c.xa,xi⟩
end DL
end
section
namespace DL
open PySem PySem.Spec PyProof.Rows L2 PySem.W PySem.Calls
section
variable {X : Cx} {tg : Expr}
end
section
variable {X : Cx} {g : GE} {ro : Bool} {m mb : List Md} {tg iter : Expr} {sts : List Stmt} {s1 : FS} {pos : Pos}
end
end DL
end
section
namespace DL
open PySem PySem.Spec PyProof.Rows L2 PySem.W PySem.Calls
section
variable {X : Cx} {pins : List (Addr × Obj)} {σ : L2.St} {H H' : Hp} {s s' : Shared} {a : Addr} {cls : Value} {od : Option Addr}
end
noncomputable abbrev _root_.L2.Cx.loop (X : Cx) : Cx := X.wish (notedBy (model X.prog X.w) X.A X.env (cameBackBy (model X.prog X.w) X.A X.env X.xe))
section
variable {X : Cx} {tg : Expr}
end
section
variable {X : Cx} {g : GE} {ro : Bool} {m mb : List Md} {tg iter : Expr} {sts : List Stmt} {s1 : FS} {pos : Pos}
end
end DL
end
section
namespace DL
open PySem PySem.Spec PyProof.Rows L2 PySem.W PySem.Calls
section
variable {X : Cx} {g : GE} {m mb : List Md} {fl : Rho → Res (List D)} {pos pos' apos cpos : Pos} {ro : Bool} {x name : Str} {T id : String} {R : V → List V → Hp → VK → Prop} {mk : D → List D → Option D}
end
structure IsxT (K : PySem.W.Frag) (cs : List Addr) (tab : Str→Option Bool) : Prop where
  no : kitAny K (.type "NoneType") (cs.map Value.ref) = some false
  ex : ∀ nm b C,tab nm = some b→XN K nm C→∃ bm,XA K C bm∧kitAny K (.ref C) (cs.map Value.ref) = some b
section
variable {X : Cx} {g : GE} {m : List Md} {e : Expr} {f : FE} {pos p q1 q2 q3 : Pos}
end
end DL
end
section
namespace DL
open PySem PySem.Spec PyProof.Rows L2 PySem.W PySem.Calls
theorem XcO.okx {P : Program} {w : World} {H : Hp} {h : Heap} {e C t : Addr} {od : Option Addr} (x : h.get? e = some (xObj C t od)) : zaz P w H h e (.ext (XcO e C od)) :=
  ⟨⟨_,_,x,rfl,fun dx z => by rw [z],rfl⟩,⟨_,x⟩,fun h1 h2 ⟨oe,vs,q1,q2⟩ k => ⟨oe,vs,k _ q1,q2⟩⟩
theorem zdk {H : Hp} {e : Addr} {a b : HO} : upd (upd H e a) e b = upd H e b := by
  funext c
  by_cases z : c = e
  · subst z; rw [zab,zab]
  · rw [zaa z,zaa z,zaa z]
theorem zee {H : Hp} {e d : Addr} {a b x y : HO} (hde : d≠e) : upd (upd (upd (upd H e a) d b) e x) e y = upd (upd H d b) e y := by
  rw [zdk]
  funext c
  by_cases z : c = e
  · subst z; rw [zab,zab]
  · rw [zaa z,zaa z]
    by_cases z2 : c = d
    · subst z2; rw [zab,zab]
    · rw [zaa z2,zaa z2,zaa z]
section
variable {X : Cx} {pins : List (Addr × Obj)} {σ : L2.St} {H : Hp} {s : Shared}
theorem Inv.xco {e C : Addr} {od : Option Addr} (I : Inv X pins σ H s) (he : H e = some (.ext (XR e C od))) : Inv X pins σ (upd H e (.ext (XcO e C od))) s := by
  obtain ⟨⟨t,g⟩,_,_⟩ := I.hok e _ he
  have := I.write (x := e) (e := e) (o := .ext (XcO e C od)) (h' := s.heap) (t' := s.toks) (by rw [he]; trivial) (.inl rfl) (fun b o _ z => z) ⟨_,g⟩ (XcO.okx g)
  exact this
end
section
variable {prog : Program} {w : World} {A : Around} {E : Value → Shared → Prop} {s : Shared} {env : Env}
variable {nm ql : Str} {C N : Addr} {bs bm bB : List Value} {hdct : Bool} {sn : List Str} {sub : List Value} {ab : Bool} {col : Option Bool} {dd : Option Addr} {k0 k1 k2 k3 k5 : Option Value} {B nw ini : String}
theorem zeu (XF : ExcBaseFacts B nw ini bB) {mN : Str→Option Value} {x : Str} {np cpos : Pos} {as : List Expr} {Q : Value→Shared→Prop} (hp : (backTo cpos (starEach as env)).any (·.1) = false) (hi : mN "__init__" = none)
    (h : wpAny (model prog w) A (eval (.Name x np) env) (fun f s1 => f = .ref C∧wpAny (model prog w) A (evalArgs (.ref C) true (backTo cpos (starEach as env)) []) (fun a s2 => a.kw = []∧a.pos.length≤sizeLine∧s2.heap.get? C = some (excClassObj nm ql C N bs bm hdct sn sub ab col dd k0 k1 k2 k3 k5 nw)∧s2.heap.Ns N mN∧OwnTail s2.heap bB bm ∧
        ∀ h' e,Heap.MadeExcOf s2.heap h' e (.ref C) a.pos→Q (.ref e) { s2 with heap := h' }) E s1) E s) : wpAny (model prog w) A (eval (.Call (.Name x np) as [] cpos) env) Q E s := by
  refine wpAny_Call_ofName (wpAny_mono h (fun f s1 h1 => ?_) fun _ _ z => z)
  obtain ⟨rfl,h1⟩ := h1
  unfold callWith
  refine wpAny_bind (wpAny_holding (wpAny_mono h1 (fun a s2 h2 => wpAny_bind (wpAny_standAt ?_)) fun _ _ z => z))
  obtain ⟨ap,ak⟩ := a
  obtain ⟨hkw,hl,hC,hn,T,h2⟩ := h2
  obtain rfl : ak = [] := hkw
  obtain ⟨h0,gs,dr,tk,os⟩ := s2
  simp only [hp]
  exact wpAny_bind (wpAny_keeperOf_exc hC (wpAny_bind (wpAny_call_exc_subT (hrest := hl) XF T hC hn hi fun h' e hm => wpAny_bind (wpAny_holding (wpAny_point (wpAny_pure (h2 h' e hm)))))))
end
structure XCG (P : Program) (w : World) (K : PySem.W.Frag) (mg : Str→Option Value) (base : Heap) (x : Str) (C : Addr) (f : Str) (sp : Sp) : Prop where
  bound : mg x = some (.ref C)
  keep : keepIn K (.ref C) = true
  ex : ∃ bm fI fd y oI N nm ql bs sn sub ab col dd k0 k1 k2 k3 k5,XI K C bm f∧K.lookup C = some (excClassObj nm ql C N bs bm true sn sub ab col dd k0 k1 k2 k3 k5 "ValueError.__new__")∧nsOkIn K N = true∧nsIn K N "__init__" = some (some (.ref fI))∧K.lookup fI = some oI∧oI.cls = .type "function" ∧
    zbw K fd ["self",y] []∧FnOk P w K mg base CX0 1 fI fd ["self",y] sp
theorem XCI.toG {P : Program} {w : World} {K : PySem.W.Frag} {mg : Str→Option Value} {base : Heap} {x : Str} {C : Addr} {f : Str} (c : XCI P w K mg base x C f) : XCG P w K mg base x C f (spI C f) := ⟨c.bound,c.keep,c.ex⟩
section
variable {X : Cx} {x f : Str} {C : Addr} {np cpos pos : Pos} {a e₀ : Expr} {rest : List Expr} {t : TA}
theorem zgK (c : XC X.K X.mg x C) (hg : Gl X x) (ha : PA X (e₀::rest) t)
    (hdb : (x == ("__debug__" : Str)) = false := by decide) (he : starEach (e₀::rest) X.env = (false,eval e₀ X.env)::starEach rest X.env := by rfl) (hpl : (backTo cpos (starEach rest X.env)).any (·.1) = false := by rfl) :
    PE X (.Call (.Name x np) (e₀::rest) [] cpos) (fun σ H Q => t σ H fun vs H1 => vs.length≤sizeLine∧∀ e,H1 e = none→Q (.ref e) (upd H1 e (.ext (XcO e C none)))) := by
  intro pins s σ H Q I h
  obtain ⟨bm,N,nm,q,bs,hdct,sn,sub,ab,col,dd,k0,k1,k2,k3,k5,mN,c1,c2,c3,c4⟩ := zfT I.ok.mod.kin c.exc
  refine zeu (nm := nm) (ql := q) (C := C) (N := N) (bs := bs) (bm := bm) (hdct := hdct) (sn := sn) (sub := sub) (ab := ab) (col := col) (dd := dd) (k0 := k0) (k1 := k1) (k2 := k2) (k3 := k3) (k5 := k5) (mN := mN) F.excBase_ValueError ?_ c3 ?_
  · rw [he]; exact hpl
  refine zbF I hg c.bound ⟨rfl,?_⟩ hdb
  rw [he]
  refine evalArgs_plain ?_
  have hp := ha cpos pins s σ H _ I h
  rw [he] at hp
  refine thn hp fun us s1 ⟨vs,H1,I1,r,hl,q⟩ => ⟨rfl,?_,I1.bk _ _ c1,c2.keeps I1.bk,c4.keeps I1.bk,fun h' e m => ?_⟩
  · show us.length≤sizeLine
    rw [← r.length]; exact hl
  · obtain ⟨hn,I2⟩ := Inv.exc I1 m
    have I3 := Inv.xco I2 zab
    rw [zdk] at I3
    exact ⟨.ref e,_,I3,rfl,q e hn⟩
theorem zdy {sp : Sp} {ok : V→Hp→Prop} (c : XCG X.prog X.w X.K X.mg X.base x C f sp) (hr : Room 2 X.A) (hg : Gl X x) (ha : PA X [a] t)
    (hsp : ∀ e v H Q E,H e = none→ok v H→(∀ dx,upd H e (.ext (XR e C none)) dx = none→dx≠e→Q .non (upd (upd (upd H e (.ext (XR e C none))) dx (.xd [(f,v)])) e (.ext (XR e C (some dx)))))→sp [.ref e,v] (upd H e (.ext (XR e C none))) Q E)
    (hdb : (x == ("__debug__" : Str)) = false := by decide) (he : starEach [a] X.env = (false,eval a X.env)::starEach [] X.env := by rfl) (hpl : (backTo cpos (starEach [] X.env)).any (·.1) = false := by rfl) :
    PE X (.Call (.Name x np) [a] [] cpos) (fun σ H Q => t σ H fun vs H1 => ∃ v,vs = [v]∧ok v H1∧∀ e dx,H1 e = none→H1 dx = none→dx≠e→Q (.ref e) (upd (upd H1 dx (.xd [(f,v)])) e (.ext (XcO e C (some dx))))) := by
  intro pins s σ H Q I h
  obtain ⟨bm,fI,fd,y,oI,N,nm,ql,bs,sn,sub,ab,col,dd,k0,k1,k2,k3,k5,xi,ob,hns,hni,hfI,hfc,hbd,F⟩ := c.ex
  refine wpAny_Call_Name_kw (zbF I hg c.bound ?_ hdb)
  refine callWith_K (h₀ := X.base) I.ok.mod.kin c.keep (thn (ha cpos pins s σ H _ I h) fun us s1 ⟨vs,H1,I1,r,v,hv,hok,q⟩ => ⟨I1.kIn,?_⟩) he hpl
  subst hv
  obtain ⟨u,rfl,ru⟩ := r.one
  obtain ⟨hp,gs,dr,tk,os⟩ := s1
  refine zd7 (us := [u]) PySem.F.excBase_ValueError (xi.tl _ I1.kIn) (I1.kIn _ _ ob) (Heap.Ns.of_isNs (isNs_of_in I1.kIn hns)) (zh2 I1.kIn (Heap.Ns.of_isNs (isNs_of_in I1.kIn hns)) hni) (I1.kIn _ _ hfI) hfc (by rw [sizeLine_eq]; show 1≤16777216; decide) fun h' e m => ?_
  obtain ⟨hn,I2⟩ := Inv.exc I1 m
  have e0 := I2.env0.make C [u] []
  refine wpAny_call (codeAny_mono (F.run _ X.stack _ _ ⟨[.ref e,u],[]⟩ [.ref e,u] [.ref e,v] (fun z H' => z = .non∧∃ dx,upd H1 e (.ext (XR e C none)) dx = none∧dx≠e∧H' = upd (upd (upd H1 e (.ext (XR e C none))) dx (.xd [(f,v)])) e (.ext (XR e C (some dx)))) (fun _ _ _ => False) (hr.make C [u] []) e0 (hbd _ [.ref e,u] I2.kIn rfl) (.cons rfl (.cons ru .nil)) (hsp e v H1 _ _ hn hok fun dx h1 h2 => ⟨rfl,dx,h1,h2,rfl⟩)) fun r s' hq => ?_)
  cases r with
  | error e => exact False.elim hq
  | ok fl =>
    cases fl with
    | ret z =>
      obtain ⟨v',H',o1,o2,o3,o4,o5,rfl,dx,d1,d2,rfl⟩ := hq
      have I3 := I2.call' (ch := []) o1 o3 o4 o2 (fun b z => absurd z (by simp))
      have I4 := Inv.xco I3 zab
      rw [zee d2] at I4
      rw [zaa d2] at d1
      exact ⟨o5,.ref e,_,I4,rfl,q e dx hn d1 d2⟩
    | next => exact False.elim hq
    | brk => exact False.elim hq
    | cont => exact False.elim hq
end
noncomputable abbrev zes (n : Str) (i : Int) : PyData := .tuple [.str n,.int i]
noncomputable def shwP (n : Str) (i : Int) : Prop := (zes n i).showable = true∧(zes n i).shown.length≤1000
noncomputable instance (n : Str) (i : Int) : Decidable (shwP n i) := by unfold shwP; infer_instance
noncomputable def okT (K : PySem.W.Frag) (v : V) (H : Hp) : Prop := ∃ p n i,v = .ref p∧SqT K H p [.str n,.int i]∧shwP n i
section
variable {X : Cx} {e : Expr} {te : TE} {pos p : Pos}
theorem zfr {tv : TE} {kr : Nat} (hv : PE X e tv) (hr : Room kr X.A) : PE X (.FormattedValue e 114 none pos) (fun σ H Q => tv σ H fun x H1 => okT X.K x H1∧∀ z : Str,z.length≤1000→Q (.str z) H1) := by
  intro pins s σ H Q I h
  refine wpAny_FormattedValue_repr (thn (hv pins s σ H _ I h) fun u s1 ⟨x,H1,I1,r,⟨p,n,i,hx,sq,h1,h2⟩,q⟩ => ?_)
  subst hx
  cases (show u = Value.ref p from r)
  obtain ⟨its,rv,⟨o,ho,hc,k,hd⟩,_⟩ := I1.tuple sq
  obtain ⟨u1,u2,rfl,r1,r2⟩ := ze9 rv
  obtain ⟨t1,rfl⟩ := (show ∃ t,u1 = Value.str n t from r1)
  obtain ⟨t2,rfl⟩ := (show ∃ t,u2 = Value.int i t from r2)
  have rd : Reads s1.heap (.ref p) (zes n i) ([]++([]++[])) := .tuple ho hc hd (.cons (.str n t1) (.cons (.int i t2) .nil))
  have dp : (zes n i).depth≤3 := by simp [PyData.depth,PyData.depthAll]
  have un := hr.un
  refine pyReprObj_of_reads rd h1 (fun z => absurd z (by simp [PyData.hasDict,PyData.hasDictAll])) hr.gd (by omega) (fun b o z => z) (fun h' u tk hk => ?_) (by rw [sizeLine_eq]; omega)
  exact wpAny_formatField_str ⟨.str _,H1,I1.kept (t' := tk) hk,⟨_,rfl⟩,q _ h2⟩ ⟨.str _,H1,(I1.kept (t' := tk) hk).tok _,⟨_,rfl⟩,q _ h2⟩ (by rw [sizeLine_eq]; omega)
theorem zgN {a : Str} {j i kr : Nat} {p2 : Pos} (hv : PE X e (tVar i)) (hr : Room kr X.A) (ha : a.length≤1000) :
    PE X (.JoinedStr [.Constant (.str a) j p,.FormattedValue e 114 none p2] pos) (fun σ H Q => tVar i σ H fun x H1 => okT X.K x H1∧∀ z : Str,z.length≤sizeLine→Q (.str z) H1) := by
  intro pins s σ H Q I h
  refine JoinedStr_many ?_
  refine joinParts_cons (thn (zdx (x := a) pins s σ H (fun x H1 => x = .str a∧H1 = H) I ⟨rfl,rfl⟩) fun u s1 ⟨x,H1,I1,r,hx,hH⟩ => ?_)
  subst hx hH
  obtain ⟨t,rfl⟩ := (show ∃ t,u = Value.str a t from r)
  have e1 : (Str.empty++a).length = 0 + a.length := strLen_append _ _
  refine ⟨by rw [sizeLine_eq]; omega,?_⟩
  refine joinParts_cons (thn (zfr hv hr pins s1 σ H1 (fun x H2 => ∃ y : Str,y.length≤1000∧x = .str y∧∀ z : Str,z.length≤sizeLine→Q (.str z) H2) I1 ?_) fun u s2 ⟨x,H2,I2,r,y,hy,hx,q⟩ => ?_)
  · obtain ⟨v,hv,hok,q⟩ := h
    exact ⟨v,hv,hok,fun z hz => ⟨z,hz,rfl,q⟩⟩
  · subst hx
    obtain ⟨t,rfl⟩ := (show ∃ t,u = Value.str y t from r)
    have e2 : (Str.empty++a++y).length = (Str.empty++a).length + y.length := strLen_append _ _
    refine ⟨by rw [sizeLine_eq]; omega,?_⟩
    have hz : (Str.empty++a++y).length≤sizeLine := by rw [sizeLine_eq]; omega
    exact joinParts_nil ⟨.str _,H2,I2.tok _,⟨_,rfl⟩,q _ hz⟩ hz
end
noncomputable def spT (K : PySem.W.Frag) (C : Addr) (f : Str) : Sp := fun vs H Q _ => ∃ e v,vs = [.ref e,v]∧okT K v H∧H e = some (.ext (XR e C none))∧∀ dx,H dx = none→dx≠e→Q .non (upd (upd H dx (.xd [(f,v)])) e (.ext (XR e C (some dx))))
noncomputable def zhH (K : PySem.W.Frag) (f : Str) : TS := tSeq (zfd (fun σ H Q => zdm (tVar 0) (zdm (fun σ H Q => tVar 1 σ H fun x H1 => okT K x H1∧∀ z : Str,z.length≤sizeLine→Q (.str z) H1) tNil) σ H fun vs H1 => ∃ e C bm f y,vs = [.ref e,y]∧H1 e = some (.ext (XR e C none))∧XI K C bm f∧Q .non H1))
  (fun D σ H => tVar 1 σ H fun y H1 => tVar 0 σ H1 fun x H2 => ∃ e C bm,x = .ref e∧H2 e = some (.ext (XR e C none))∧XI K C bm f∧∀ dx,H2 dx = none→dx≠e→D.nx σ (upd (upd H2 dx (.xd [(f,y)])) e (.ext (XR e C (some dx)))))
theorem zez {P : Program} {w : World} {K : PySem.W.Frag} {mg : Str→Option Value} {base : Heap} {qual y f : Str} {st : Stmt} {fI C : Addr} {fd : FuncData} {bm : List Value} {k : Nat} (F : Fun K "__init__" qual st fI fd) (S : FnScope ["self",y] ["self",y] (defScope st)) (xi : XI K C bm f)
    (hb : ∀ (cdv : Value) (A : Around) (outer : List Env) (s : Shared) (H : Hp) (E : XK),Room k (A.deeper (envOfC qual (defScope st) s.heap.objs.size fI cdv))→PSs (cxOf CX0 P w K mg base ["self",y] qual (defScope st) fI cdv A outer s H E).nox (defBody st) (zhH K f)) : FnOk P w K mg base CX0 (k + 1) fI fd ["self",y] (spT K C f) := by
  refine F.ok S (fun vs H Q E ⟨e,v,h,_⟩ => by rw [h]; rfl) fun cdv A outer s H vs Q E hr ⟨e,v,hv,hok,he,q⟩ => ⟨_,hb cdv A outer s H E hr,?_⟩
  subst hv
  exact ⟨_,rfl,_,rfl,hok,fun x _ => ⟨e,C,bm,f,_,rfl,he,xi,_,rfl,_,rfl,e,C,bm,rfl,he,xi,fun dx h1 h2 => q dx h1 h2⟩⟩
theorem ziu {P : Program} {w : World} {K : PySem.W.Frag} {h : Heap} {mg : Str→Option Value} {x y f qual nm : Str} {C N fI : Addr} {bm : List Value} {st : Stmt} {fd : FuncData} {sp : Sp} (KX : K.In h) (G : h.Ns mainGlobals mg) (a : nsIn K mainGlobals x = some (some (.ref C))) (kp : keepIn K (.ref C) = true)
    (z : zkIn K C N = true) (o : xoIn K C = some (bm,nm)) (xi : XI K C bm f) (i : nsIn K N "__init__" = some (some (.ref fI))) (F : Fun K "__init__" qual st fI fd) (fc : typeIn K (.ref fI) = some (.type "function"))
    (hb : ∀ (kV doc pm : Value) (an : Option Addr) (cdv ct : Value) (us : List Value),us.length = ([("self" : Str),y]).length→bindArgs (PySem.W.fnOf "__init__" qual (defArgs st) (defBody st) (defScope st) .none kV doc pm an cdv ct) ⟨us,[]⟩ = pure (([("self" : Str),y]).zip us))
    (ok : ∀ base,FnOk P w K mg base CX0 1 fI fd ["self",y] sp) (base : Heap) : XCG P w K mg base x C f sp := by
  obtain ⟨⟨nm',q,bs,sn,sub,ab,col,dd,k0,k1,k2,k3,k5,h1⟩,h2,h3⟩ := ze7 z o
  obtain ⟨oI,lI,hI⟩ := Option.map_eq_some_iff.mp (show (K.lookup fI).map (·.cls) = some (.type "function") from fc)
  exact ⟨mg_of KX G a,kp,bm,fI,fd,y,oI,N,nm',q,bs,sn,sub,ab,col,dd,k0,k1,k2,k3,k5,xi,h1,h3,i,lI,hI,F.binds hb,ok base⟩
noncomputable def mkxF (nm : Str) (fl : Rho→Res (List D)) : FE := fun r => (fl r).bind fun ds => if ds.length≤100 then .ok (xD nm []) else .stuck
noncomputable def mkxI (nm f : Str) : List D→Option D
  | [.int i] => if i.natAbs.log2 < 64 then some (xD nm [(f,.int i)]) else none
  | _ => none
noncomputable def mkxT (nm f : Str) : List D→Option D
  | [.tup [.str n,.int i]] => if shwP n i then some (xD nm [(f,.tup [.str n,.int i])]) else none
  | _ => none
section
variable {X : Cx} {g : GE} {m : List Md} {a b e : Expr} {es : List Expr} {fl : Rho → Res (List D)} {fa fb : FE} {x f nm : Str} {C : Addr} {p np pos : Pos}
theorem zdr (c : XC X.K X.mg x C) (xn : XN X.K nm C) (hg : Gl X x) (ha : SA X g m (e::es) fl) (hdb : (x == ("__debug__" : Str)) = false := by decide)
    (he : starEach (e::es) X.env = (false,eval e X.env)::starEach es X.env := by rfl) (hpl : (backTo p (starEach es X.env)).any (·.1) = false := by rfl) : SE X g m (.Call (.Name x np) (e::es) [] p) (mkxF nm fl) := by
  refine PE.imp (zgK c hg ha hdb he hpl) fun σ H Q ⟨r,G,si,q⟩ => ⟨r,G,si,zac (zad q) fun ds q vs G1 H1 w1 rs => ?_⟩
  have hl : vs.length = ds.length := Paired.length rs
  split at q
  · refine ⟨by rw [sizeLine_eq]; omega,fun a ha => ?_⟩
    have gw : Grow X.K G1 H1 (gset G1 a (xD nm [])) (upd H1 a (.ext (XcO a C none))) := Grow.newF w1.ok ha (OB.exc zab xn rfl)
    exact q (.ref a) _ _ (w1.trans gw) (.ref zag)
  · exact q.elim
theorem ze0 {G : GH} {H : Hp} {v : V} {d : D} {e dx : Addr} (gk : GOk X.K G H) (xn : XN X.K nm C) (r : RG X.K G v d) (he : H e = none) (hd : H dx = none) (hde : dx≠e) : Grow X.K G H (gset (gset G dx (.obj 1 [(f,d)])) e (xD nm [(f,d)])) (upd (upd H dx (.xd [(f,v)])) e (.ext (XcO e C (some dx)))) := by
  have g1 : Grow X.K G H (gset G dx (.obj 1 [(f,d)])) (upd H dx (.xd [(f,v)])) := by
    have g0 := Grow.new gk hd (.xd [(f,v)])
    refine Grow.newF gk hd (OB.fld zab (.cons ⟨rfl,r⟩ .nil))
  have he2 : upd H dx (.xd [(f,v)]) e = none := by rw [zaa hde.symm]; exact he
  exact g1.trans (Grow.newF g1.ok he2 (OB.exc zab xn zag))
theorem zb5 (c : XCI X.prog X.w X.K X.mg X.base x C f) (xn : XN X.K nm C) (hr : Room 2 X.A) (hg : Gl X x) (ha : SA X g m [a] fl) (hdb : (x == ("__debug__" : Str)) = false := by decide)
    (he : starEach [a] X.env = (false,eval a X.env)::starEach [] X.env := by rfl) (hpl : (backTo p (starEach [] X.env)).any (·.1) = false := by rfl) : SE X g m (.Call (.Name x np) [a] [] p) (fC fl (mkxI nm f)) := by
  refine PE.imp (zdy (ok := fun v _ => ∃ i : Int,v = .int i∧i.natAbs.log2 < 64) c.toG hr hg ha (fun e v H Q E hn ⟨i,hv,hi⟩ k => ⟨e,i,by rw [hv],hi,zab,fun dx h1 h2 => by have := k dx h1 h2; rw [hv] at this; exact this⟩) hdb he hpl) fun σ H Q ⟨r,G,si,q⟩ => ⟨r,G,si,zac (zad q) fun ds q vs G1 H1 w1 rs => ?_⟩
  obtain ⟨d,ed,q⟩ := zar q
  unfold mkxI at ed
  split at ed
  · rename_i i
    split at ed
    · rename_i hi
      cases ed
      cases rs with
      | cons r1 rest =>
        cases rest
        have hv := r1.int w1.ok
        subst hv
        refine ⟨_,rfl,⟨i,rfl,hi⟩,fun e dx h1 h2 h3 => ?_⟩
        exact q (.ref e) _ _ (w1.trans (ze0 w1.ok xn (.scl (.int i)) h1 h2 h3)) (.ref zag)
    · cases ed
  · cases ed
theorem zgl (c : XCG X.prog X.w X.K X.mg X.base x C f (spT X.K C f)) (xn : XN X.K nm C) (hr : Room 2 X.A) (hg : Gl X x) (ha : SA X g m [a] fl) (hdb : (x == ("__debug__" : Str)) = false := by decide)
    (he : starEach [a] X.env = (false,eval a X.env)::starEach [] X.env := by rfl) (hpl : (backTo p (starEach [] X.env)).any (·.1) = false := by rfl) : SE X g m (.Call (.Name x np) [a] [] p) (fC fl (mkxT nm f)) := by
  refine PE.imp (zdy (ok := okT X.K) c hr hg ha (fun e v H Q E hn hk k => ⟨e,v,rfl,?_,zab,fun dx h1 h2 => k dx h1 h2⟩) hdb he hpl) fun σ H Q ⟨r,G,si,q⟩ => ⟨r,G,si,zac (zad q) fun ds q vs G1 H1 w1 rs => ?_⟩
  · obtain ⟨p,n,i,h1,h2,h3⟩ := hk
    refine ⟨p,n,i,h1,?_,h3⟩
    rcases h2 with z | z
    · exact .inl (Rd.mono (H := H) z fun b o hb => zdl hn _ _ hb)
    · exact .inr z
  obtain ⟨d,ed,q⟩ := zar q
  unfold mkxT at ed
  split at ed
  · rename_i n i
    split at ed
    · rename_i hi
      cases ed
      cases rs with
      | cons r1 rest =>
        cases rest
        obtain ⟨p,xs,rfl,sq,rx⟩ := r1.tup w1.ok
        have hx : xs = [.str n,.int i] := by
          cases rx with
          | cons a1 t1 =>
            cases t1 with
            | cons a2 t2 =>
              cases t2
              rw [a1.str w1.ok,a2.int w1.ok]
        subst hx
        refine ⟨_,rfl,⟨p,n,i,rfl,sq,hi⟩,fun e dx h1 h2 h3 => ?_⟩
        exact q (.ref e) _ _ (w1.trans (ze0 w1.ok xn r1 h1 h2 h3)) (.ref zag)
    · cases ed
  · cases ed
end
end DL
end
section
namespace DL
open PySem PySem.Spec PyProof.Rows L2 PySem.W PySem.Calls PySem.Builtin PySem.Builtin.Str
section
variable {prog : Program} {w : World} {A : Around} {E : Value → Shared → Prop} {s : Shared} {x y : Str} {t u : Tok} {Q : Value → Shared → Prop}
end
section
variable {X : Cx}
end
section
variable {X : Cx} {g : GE} {m : List Md} {a b : Expr} {fa fb : FE} {pos : Pos}
noncomputable def zej (x : Str) (n : Int) : Str := if n < 1 then Str.empty else if (n == 1 || x.length == 0) = true then x else ⟨(List.replicate n.toNat x.cps).foldl (·++·) #[]⟩
noncomputable def zek : D→D→Option D
  | .str x,.int n => if x.length≤100∧0≤n∧n≤100 then some (.str (zej x n)) else none
  | _,_ => none
theorem zcL (c : Array Nat) : ∀ (k : Nat) (acc : Array Nat),((List.replicate k c).foldl (·++·) acc).size = acc.size + k * c.size
  | 0,acc => by simp
  | k + 1,acc => by rw [List.replicate_succ,List.foldl_cons,zcL c k,Array.size_append,Nat.succ_mul]; omega
theorem zfv : OpR X (binaryOp .Mult) (fun a b H Q => ∃ (x : Str) (n : Int),a = .str x∧b = .int n∧x.length≤100∧0≤n∧n≤100∧Q (.str (zej x n)) H) := by
  intro pins s σ H x y v u Q I rx ry ⟨x',n,ex,en,h1,h2,h3,q⟩
  subst ex en
  obtain ⟨t,rfl⟩ := (show ∃ t,v = Value.str x' t from rx)
  obtain ⟨t',rfl⟩ := (show ∃ t,u = Value.int n t from ry)
  have hm : x'.length * n.toNat≤100 * 100 := Nat.mul_le_mul h1 (by omega)
  refine P.mul_str (by rw [decide_eq_false (by omega),decide_eq_false (by omega)]; rfl) (fun z _ => ?_) (fun _ _ => ?_) ?_
  · have hn0 : (0 : Int) < n := by omega
    have hmi : (x'.length : Int) * n≤100 * 100 := by
      have : ((x'.length * n.toNat : Nat) : Int) = (x'.length : Int) * n := by rw [Int.natCast_mul,Int.toNat_of_nonneg h2]
      omega
    have := (Int.le_ediv_iff_mul_le (a := (x'.length : Int)) (b := 2 ^ 63 - 1) hn0).mpr (by omega)
    omega
  · unfold tooLong
    rw [decide_eq_false (by rw [sizeLine_eq]; omega)]
  · unfold zej at q
    by_cases c1 : n < 1
    · rw [if_pos c1] at q ⊢
      exact ⟨by decide,.str _,H,I.tok _,⟨_,rfl⟩,q⟩
    · rw [if_neg c1] at q ⊢
      by_cases c2 : (n == 1 || x'.length == 0) = true
      · rw [if_pos c2] at q ⊢
        exact ⟨.str _,H,I,⟨_,rfl⟩,q⟩
      · rw [if_neg c2] at q ⊢
        refine ⟨?_,.str _,H,I.tok _,⟨_,rfl⟩,q⟩
        show ((List.replicate n.toNat x'.cps).foldl (·++·) #[]).size≤sizeLine
        rw [zcL,sizeLine_eq]
        have : n.toNat * x'.cps.size = x'.length * n.toNat := Nat.mul_comm _ _
        simp only [Array.size_empty]
        omega
theorem zgk (ha : SB X g m a fa) (hb : SB X g m b fb) : SE X g m (.BinOp a .Mult b pos) (f2 fa fb zek) := by
  refine zcu zfv (fun G H v1 v2 d1 d2 d Q gk r1 r2 e q => ?_) ha hb
  unfold zek at e
  split at e
  · split at e
    · rename_i x n h
      cases e
      exact ⟨x,n,r1.str gk,r2.int gk,h.1,h.2.1,h.2.2,q _ G H (Grow.refl gk) (.scl (.str _))⟩
    · cases e
  · cases e
end
section
variable {X : Cx} {g : GE} {m : List Md} {e : Expr} {f fa : FE} {pos p2 : Pos}
end
end DL
end
section
namespace Rg
theorem zbX {α : Type} [DecidableEq α] : ∀ {l m : List α},l.Nodup→(∀ x∈l,x∈m)→l.length≤m.length
  | [],_,_,_ => Nat.zero_le _
  | a::l,m,hn,hs => by
    have hn' := List.nodup_cons.mp hn
    have h1 := zbX (l := l) (m := m.erase a) hn'.2 fun x hx => by
      have hxa : x≠a := by rintro rfl; exact hn'.1 hx
      exact (List.mem_erase_of_ne hxa).mpr (hs x (List.mem_cons_of_mem _ hx))
    have ha : a∈m := hs a List.mem_cons_self
    rw [List.length_erase_of_mem ha] at h1
    have := List.length_pos_of_mem ha
    simp only [List.length_cons]; omega
structure S where
  line : List Nat
  things : List Nat
section
variable (W : Nat → List Nat) (O : Nat → Option Nat)
noncomputable def best (row things : List Nat) : Nat := (row.find? fun x => decide (x∈things)).getD 0
noncomputable def tgt (s : S) (h : Nat) : Nat := best (W h) s.things
noncomputable def pt (s : S) (x : Nat) : Nat := (s.line.find? fun h => decide (O h = some x)).getD (s.line.headD 0)
noncomputable def nxt (s : S) (h : Nat) : Nat := pt O s (tgt W s h)
noncomputable def zh5 (s : S) (C : List Nat) : S := ⟨s.line.filter fun h => decide (h∉C),s.things.filter fun x => decide (x∉C.map (tgt W s))⟩
noncomputable def it {α : Type} (f : α→α) : Nat→α→α
  | 0,x => x
  | n + 1,x => it f n (f x)
structure Ok (s : S) : Prop where
  nl : s.line.Nodup
  nt : s.things.Nodup
  le : s.line.length≤s.things.length
  row : ∀ h∈s.line,∀ x∈s.things,x∈W h
  inj : ∀ h k x,O h = some x→O k = some x→h = k
  own : ∀ h∈s.line,∀ x,O h = some x→x∈s.things
structure Cyc (s : S) (C : List Nat) : Prop where
  sub : ∀ h∈C,h∈s.line
  cl : ∀ h∈C,nxt W O s h∈C
  per : ∀ h∈C,∃ k,it (nxt W O s) (k + 1) h = h
variable {W O}
variable {s : S}
theorem Cyc.it_mem {C : List Nat} (c : Cyc W O s C) {h : Nat} (hh : h∈C) : ∀ n,it (nxt W O s) n h∈C := by
  intro n
  induction n generalizing h with
  | zero => exact hh
  | succ n ih => exact ih (c.cl h hh)
theorem Cyc.out {C E : List Nat} (c : Cyc W O s C) (e : Cyc W O s E) {h : Nat} (hc : h∈C) (he : h∉E) : nxt W O s h∉E := by
  intro z
  obtain ⟨k,hk⟩ := c.per h hc
  exact he (by rw [← hk]; exact e.it_mem z k)
noncomputable def less (E C : List Nat) : List Nat := E.filter fun h => decide (h∉C)
inductive TTC (W : Nat→List Nat) (O : Nat→Option Nat) (a : Nat→Nat) : S→Prop where
  | nil {s : S} : s.line = []→TTC W O a s
  | step {s : S} (C : List Nat) : Cyc W O s C→(∀ h∈C,a h = tgt W s h)→TTC W O a (zh5 W s C)→TTC W O a s
end
end Rg
end
section
namespace Rg
section
variable {W : Nat → List Nat} {O : Nat → Option Nat} {s : S} {a : Nat → Nat}
end
end Rg
end
section
namespace Rg
section
variable {W W' : Nat → List Nat} {O : Nat → Option Nat} {s : S} {a b : Nat → Nat}
end
end Rg
end
section
namespace Law
open PySem PySem.Spec PyProof.Rows L2 DL
noncomputable abbrev gv (i : Nat) : DL.FE := fun r => DL.getV r i
noncomputable abbrev ci (i : Int) : DL.FE := fun _ => .ok (.int i)
noncomputable abbrev q0 : List DL.Md := [.bw,.bw,.sh,.sh]
noncomputable abbrev q101 : List DL.Md := [.sh,.sh,.sh,.sh,.sh,.sh,.sh]
theorem zh8 {α : Type} (us : List α) (h : us.length = 1) : ∃ a0,us = [a0] := by
  match us,h with
  | [_],_ => exact ⟨_,rfl⟩
theorem zcA {α : Type} (us : List α) (h : us.length = 2) : ∃ a0 a1,us = [a0,a1] := by
  match us,h with
  | [_,_],_ => exact ⟨_,_,rfl⟩
noncomputable def top (i : Nat) : Stmt := PySem.Challenge.pw_ringtrade_k06_refusals_made.main.body.getD i (.Pass ⟨0,0,0,0⟩)
structure Txt (K : PySem.W.Frag) (mg : Str→Option Value) : Prop where
  b_len : mg "len" = none
  b_isinstance : mg "isinstance" = none
  b_ValueError : mg "ValueError" = none
  b_enumerate : mg "enumerate" = none
  b_range : mg "range" = none
noncomputable def za5 : Str→Option Bool := fun nm => if (["NoDeed"] : List Str).contains nm = true then some true else if (["TradeError","TooMany","NotSquare","NoFraction","NoLine","NoRow","NoOwn","NotOwned","NoOrder","NoText","NoTable"] : List Str).contains nm = true then some false else none
noncomputable def zaw : Str→Option Bool := fun nm => if (["NoFraction"] : List Str).contains nm = true then some true else if (["TradeError","TooMany","NotSquare","NoDeed","NoLine","NoRow","NoOwn","NotOwned","NoOrder","NoText","NoTable"] : List Str).contains nm = true then some false else none
noncomputable def zaA : Str→Option Bool := fun nm => if (["NotSquare"] : List Str).contains nm = true then some true else if (["TradeError","TooMany","NoFraction","NoDeed","NoLine","NoRow","NoOwn","NotOwned","NoOrder","NoText","NoTable"] : List Str).contains nm = true then some false else none
noncomputable def zaR : Str→Option Bool := fun nm => if (["TooMany"] : List Str).contains nm = true then some true else if (["TradeError","NotSquare","NoFraction","NoDeed","NoLine","NoRow","NoOwn","NotOwned","NoOrder","NoText","NoTable"] : List Str).contains nm = true then some false else none
noncomputable def zaG : Str→Option Bool := fun nm => if (["NotOwned"] : List Str).contains nm = true then some true else if (["TradeError","TooMany","NotSquare","NoFraction","NoDeed","NoLine","NoRow","NoOwn","NoOrder","NoText","NoTable"] : List Str).contains nm = true then some false else none
noncomputable def zbe : Str→Option Bool := fun nm => if (["NoOwn"] : List Str).contains nm = true then some true else if (["TradeError","TooMany","NotSquare","NoFraction","NoDeed","NoLine","NoRow","NotOwned","NoOrder","NoText","NoTable"] : List Str).contains nm = true then some false else none
noncomputable def zbd : Str→Option Bool := fun nm => if (["NoRow"] : List Str).contains nm = true then some true else if (["TradeError","TooMany","NotSquare","NoFraction","NoDeed","NoLine","NoOwn","NotOwned","NoOrder","NoText","NoTable"] : List Str).contains nm = true then some false else none
noncomputable def za4 : Str→Option Bool := fun nm => if (["NoLine"] : List Str).contains nm = true then some true else if (["TradeError","TooMany","NotSquare","NoFraction","NoDeed","NoRow","NoOwn","NotOwned","NoOrder","NoText","NoTable"] : List Str).contains nm = true then some false else none
noncomputable def zaS : Str→Option Bool := fun nm => if (["NoTable"] : List Str).contains nm = true then some true else if (["TradeError","TooMany","NotSquare","NoFraction","NoDeed","NoLine","NoRow","NoOwn","NotOwned","NoOrder","NoText"] : List Str).contains nm = true then some false else none
noncomputable def za3 : Str→Option Bool := fun nm => if (["NoText"] : List Str).contains nm = true then some true else if (["TradeError","TooMany","NotSquare","NoFraction","NoDeed","NoLine","NoRow","NoOwn","NotOwned","NoOrder","NoTable"] : List Str).contains nm = true then some false else none
noncomputable def zaT : Str→Option Bool := fun nm => if (["NoOrder"] : List Str).contains nm = true then some true else if (["TradeError","TooMany","NotSquare","NoFraction","NoDeed","NoLine","NoRow","NoOwn","NotOwned","NoText","NoTable"] : List Str).contains nm = true then some false else none
noncomputable def zau : Str→Option Bool := fun nm => if (["TradeError","TooMany","NotSquare","NoFraction","NoDeed","NoLine","NoRow","NoOwn","NotOwned","NoOrder","NoText","NoTable"] : List Str).contains nm = true then some true else if ([] : List Str).contains nm = true then some false else none
noncomputable def zav : Str→Option Bool := fun nm => if (["TradeError","TooMany","NotSquare","NoFraction","NoDeed","NoLine","NoRow","NoOwn","NotOwned","NoOrder","NoText","NoTable"] : List Str).contains nm = true then some true else if ([] : List Str).contains nm = true then some false else none
noncomputable def zaJ : Str→Bool := fun nm => (["NoRow","NoOwn","NotOwned"] : List Str).contains nm
noncomputable def zbZ : Str→Bool := fun nm => (["NoTable"] : List Str).contains nm
noncomputable def zbR : Str→Bool := fun nm => (["NoOrder","NoText"] : List Str).contains nm
noncomputable abbrev zaZ : Stmt := zbQ (top 8)
theorem zdq : FnScope ["self","hand"] ["self","hand"] (defScope zaZ) := ⟨rfl,rfl,rfl,by decide +kernel,rfl,by decide +kernel,by decide +kernel⟩
theorem zhC : ∀ (kV doc pm : Value) (an : Option Addr) (cdv ct : Value) (us : List Value),us.length = ([("self" : Str),"hand"]).length→bindArgs (PySem.W.fnOf "__init__" "NoOwn.__init__" (defArgs zaZ) (defBody zaZ) (defScope zaZ) .none kV doc pm an cdv ct) ⟨us,[]⟩ = pure (([("self" : Str),"hand"]).zip us) := fun _ _ _ _ _ _ us hl => by obtain ⟨u0,u1,rfl⟩ := zcA us hl; kernel_rfl
theorem zhf {P : Program} {w : World} {K : PySem.W.Frag} {mg : Str→Option Value} {C T fI : Addr} {bm : List Value} {fd : FuncData} (F : Fun K "__init__" "NoOwn.__init__" zaZ fI fd) (xi : XI K C bm "hand") (hm : mg "TradeError" = some (.ref T)) (hT : XT K T) (base : Heap) : FnOk P w K mg base CX0 1 fI fd ["self","hand"] (spI C "hand") :=
  zbH (k := 0) F zdq xi fun cdv A outer s H E => zaU (zbo (zbp (by rfl) hm hT (zam (zao (i := 0) rfl (by first | exact Or.inl rfl | exact Or.inr (Or.inl rfl) | exact Or.inr (Or.inr rfl))) (zam (zdz (c := cI) (zbP (zb8 (j := 1) rfl (by first | exact Or.inl rfl | exact Or.inr (Or.inl rfl) | exact Or.inr (Or.inr rfl)) zb7 (fun _ h => h))) (by decide +kernel)) za1)))) (zbm (zbn (zao (i := 0) rfl (by first | exact Or.inl rfl | exact Or.inr (Or.inl rfl) | exact Or.inr (Or.inr rfl))) (zao (i := 1) rfl (by first | exact Or.inl rfl | exact Or.inr (Or.inl rfl) | exact Or.inr (Or.inr rfl)))))
noncomputable abbrev zaY : Stmt := zbQ (top 7)
theorem zdp : FnScope ["self","hand"] ["self","hand"] (defScope zaY) := ⟨rfl,rfl,rfl,by decide +kernel,rfl,by decide +kernel,by decide +kernel⟩
theorem zhB : ∀ (kV doc pm : Value) (an : Option Addr) (cdv ct : Value) (us : List Value),us.length = ([("self" : Str),"hand"]).length→bindArgs (PySem.W.fnOf "__init__" "NoRow.__init__" (defArgs zaY) (defBody zaY) (defScope zaY) .none kV doc pm an cdv ct) ⟨us,[]⟩ = pure (([("self" : Str),"hand"]).zip us) := fun _ _ _ _ _ _ us hl => by obtain ⟨u0,u1,rfl⟩ := zcA us hl; kernel_rfl
theorem zhe {P : Program} {w : World} {K : PySem.W.Frag} {mg : Str→Option Value} {C T fI : Addr} {bm : List Value} {fd : FuncData} (F : Fun K "__init__" "NoRow.__init__" zaY fI fd) (xi : XI K C bm "hand") (hm : mg "TradeError" = some (.ref T)) (hT : XT K T) (base : Heap) : FnOk P w K mg base CX0 1 fI fd ["self","hand"] (spI C "hand") :=
  zbH (k := 0) F zdp xi fun cdv A outer s H E => zaU (zbo (zbp (by rfl) hm hT (zam (zao (i := 0) rfl (by first | exact Or.inl rfl | exact Or.inr (Or.inl rfl) | exact Or.inr (Or.inr rfl))) (zam (zdz (c := cI) (zbP (zb8 (j := 1) rfl (by first | exact Or.inl rfl | exact Or.inr (Or.inl rfl) | exact Or.inr (Or.inr rfl)) (zbP zb7) (fun _ h => h))) (by decide +kernel)) za1)))) (zbm (zbn (zao (i := 0) rfl (by first | exact Or.inl rfl | exact Or.inr (Or.inl rfl) | exact Or.inr (Or.inr rfl))) (zao (i := 1) rfl (by first | exact Or.inl rfl | exact Or.inr (Or.inl rfl) | exact Or.inr (Or.inr rfl)))))
noncomputable abbrev zaC : Stmt := zbQ (top 12)
theorem zcq : FnScope ["self","why"] ["self","why"] (defScope zaC) := ⟨rfl,rfl,rfl,by decide +kernel,rfl,by decide +kernel,by decide +kernel⟩
theorem zgc : ∀ (kV doc pm : Value) (an : Option Addr) (cdv ct : Value) (us : List Value),us.length = ([("self" : Str),"why"]).length→bindArgs (PySem.W.fnOf "__init__" "NoTable.__init__" (defArgs zaC) (defBody zaC) (defScope zaC) .none kV doc pm an cdv ct) ⟨us,[]⟩ = pure (([("self" : Str),"why"]).zip us) := fun _ _ _ _ _ _ us hl => by obtain ⟨u0,u1,rfl⟩ := zcA us hl; kernel_rfl
theorem zfK {P : Program} {w : World} {K : PySem.W.Frag} {mg : Str→Option Value} {C T fI : Addr} {bm : List Value} {fd : FuncData} (F : Fun K "__init__" "NoTable.__init__" zaC fI fd) (xi : XI K C bm "why") (hm : mg "TradeError" = some (.ref T)) (hT : XT K T) (base : Heap) : FnOk P w K mg base CX0 1 fI fd ["self","why"] (spT K C "why") :=
  zez (k := 0) F zcq xi fun cdv A outer s H E hr => zaU (zbo (zbp (by rfl) hm hT (zam (zao (i := 0) rfl (by first | exact Or.inl rfl | exact Or.inr (Or.inl rfl) | exact Or.inr (Or.inr rfl))) (zam (zgN (zao (i := 1) rfl (by first | exact Or.inl rfl | exact Or.inr (Or.inl rfl) | exact Or.inr (Or.inr rfl))) hr (by decide +kernel)) za1)))) (zbm (zbn (zao (i := 0) rfl (by first | exact Or.inl rfl | exact Or.inr (Or.inl rfl) | exact Or.inr (Or.inr rfl))) (zao (i := 1) rfl (by first | exact Or.inl rfl | exact Or.inr (Or.inl rfl) | exact Or.inr (Or.inr rfl)))))
noncomputable abbrev zaN : Stmt := zbQ (top 11)
theorem zc6 : FnScope ["self","at"] ["self","at"] (defScope zaN) := ⟨rfl,rfl,rfl,by decide +kernel,rfl,by decide +kernel,by decide +kernel⟩
theorem zhx : ∀ (kV doc pm : Value) (an : Option Addr) (cdv ct : Value) (us : List Value),us.length = ([("self" : Str),"at"]).length→bindArgs (PySem.W.fnOf "__init__" "NoText.__init__" (defArgs zaN) (defBody zaN) (defScope zaN) .none kV doc pm an cdv ct) ⟨us,[]⟩ = pure (([("self" : Str),"at"]).zip us) := fun _ _ _ _ _ _ us hl => by obtain ⟨u0,u1,rfl⟩ := zcA us hl; kernel_rfl
theorem zgb {P : Program} {w : World} {K : PySem.W.Frag} {mg : Str→Option Value} {C T fI : Addr} {bm : List Value} {fd : FuncData} (F : Fun K "__init__" "NoText.__init__" zaN fI fd) (xi : XI K C bm "at") (hm : mg "TradeError" = some (.ref T)) (hT : XT K T) (base : Heap) : FnOk P w K mg base CX0 1 fI fd ["self","at"] (spI C "at") :=
  zbH (k := 0) F zc6 xi fun cdv A outer s H E => zaU (zbo (zbp (by rfl) hm hT (zam (zao (i := 0) rfl (by first | exact Or.inl rfl | exact Or.inr (Or.inl rfl) | exact Or.inr (Or.inr rfl))) (zam (zdz (c := cI) (zbP (zb8 (j := 1) rfl (by first | exact Or.inl rfl | exact Or.inr (Or.inl rfl) | exact Or.inr (Or.inr rfl)) zb7 (fun _ h => h))) (by decide +kernel)) za1)))) (zbm (zbn (zao (i := 0) rfl (by first | exact Or.inl rfl | exact Or.inr (Or.inl rfl) | exact Or.inr (Or.inr rfl))) (zao (i := 1) rfl (by first | exact Or.inl rfl | exact Or.inr (Or.inl rfl) | exact Or.inr (Or.inr rfl)))))
noncomputable abbrev zaD : Stmt := zbQ (top 10)
theorem zcr : FnScope ["self","at"] ["self","at"] (defScope zaD) := ⟨rfl,rfl,rfl,by decide +kernel,rfl,by decide +kernel,by decide +kernel⟩
theorem zgd : ∀ (kV doc pm : Value) (an : Option Addr) (cdv ct : Value) (us : List Value),us.length = ([("self" : Str),"at"]).length→bindArgs (PySem.W.fnOf "__init__" "NoOrder.__init__" (defArgs zaD) (defBody zaD) (defScope zaD) .none kV doc pm an cdv ct) ⟨us,[]⟩ = pure (([("self" : Str),"at"]).zip us) := fun _ _ _ _ _ _ us hl => by obtain ⟨u0,u1,rfl⟩ := zcA us hl; kernel_rfl
theorem zfL {P : Program} {w : World} {K : PySem.W.Frag} {mg : Str→Option Value} {C T fI : Addr} {bm : List Value} {fd : FuncData} (F : Fun K "__init__" "NoOrder.__init__" zaD fI fd) (xi : XI K C bm "at") (hm : mg "TradeError" = some (.ref T)) (hT : XT K T) (base : Heap) : FnOk P w K mg base CX0 1 fI fd ["self","at"] (spI C "at") :=
  zbH (k := 0) F zcr xi fun cdv A outer s H E => zaU (zbo (zbp (by rfl) hm hT (zam (zao (i := 0) rfl (by first | exact Or.inl rfl | exact Or.inr (Or.inl rfl) | exact Or.inr (Or.inr rfl))) (zam (zdz (c := cI) (zbP (zb8 (j := 1) rfl (by first | exact Or.inl rfl | exact Or.inr (Or.inl rfl) | exact Or.inr (Or.inr rfl)) zb7 (fun _ h => h))) (by decide +kernel)) za1)))) (zbm (zbn (zao (i := 0) rfl (by first | exact Or.inl rfl | exact Or.inr (Or.inl rfl) | exact Or.inr (Or.inr rfl))) (zao (i := 1) rfl (by first | exact Or.inl rfl | exact Or.inr (Or.inl rfl) | exact Or.inr (Or.inr rfl)))))
noncomputable abbrev zax : Stmt := zbQ (top 9)
theorem zb4 : FnScope ["self","hand"] ["self","hand"] (defScope zax) := ⟨rfl,rfl,rfl,by decide +kernel,rfl,by decide +kernel,by decide +kernel⟩
theorem zf1 : ∀ (kV doc pm : Value) (an : Option Addr) (cdv ct : Value) (us : List Value),us.length = ([("self" : Str),"hand"]).length→bindArgs (PySem.W.fnOf "__init__" "NotOwned.__init__" (defArgs zax) (defBody zax) (defScope zax) .none kV doc pm an cdv ct) ⟨us,[]⟩ = pure (([("self" : Str),"hand"]).zip us) := fun _ _ _ _ _ _ us hl => by obtain ⟨u0,u1,rfl⟩ := zcA us hl; kernel_rfl
theorem zeZ {P : Program} {w : World} {K : PySem.W.Frag} {mg : Str→Option Value} {C T fI : Addr} {bm : List Value} {fd : FuncData} (F : Fun K "__init__" "NotOwned.__init__" zax fI fd) (xi : XI K C bm "hand") (hm : mg "TradeError" = some (.ref T)) (hT : XT K T) (base : Heap) : FnOk P w K mg base CX0 1 fI fd ["self","hand"] (spI C "hand") :=
  zbH (k := 0) F zb4 xi fun cdv A outer s H E => zaU (zbo (zbp (by rfl) hm hT (zam (zao (i := 0) rfl (by first | exact Or.inl rfl | exact Or.inr (Or.inl rfl) | exact Or.inr (Or.inr rfl))) (zam (zdz (c := cI) (zbP (zb8 (j := 1) rfl (by first | exact Or.inl rfl | exact Or.inr (Or.inl rfl) | exact Or.inr (Or.inr rfl)) zb7 (fun _ h => h))) (by decide +kernel)) za1)))) (zbm (zbn (zao (i := 0) rfl (by first | exact Or.inl rfl | exact Or.inr (Or.inl rfl) | exact Or.inr (Or.inr rfl))) (zao (i := 1) rfl (by first | exact Or.inl rfl | exact Or.inr (Or.inl rfl) | exact Or.inr (Or.inr rfl)))))
noncomputable abbrev zbr : Stmt := top 14
noncomputable abbrev zbL : List Str := ["_law_script","_law_k","_law_cell_here","_law_stirred"]
noncomputable abbrev zbb : List Str := ["_law_script","_law_k"]
theorem zaI : FnScope zbL zbb (defScope zbr) := ⟨rfl,rfl,rfl,by decide +kernel,rfl,by decide +kernel,by decide +kernel⟩
noncomputable def zaF : FS :=
  (seqF (setF q0 2 (ci 0)) (seqF (ifF q0 (zaM (f2 (gv 1) (fC (zae (gv 0) lNil) lenD) ltI)) (seqF (setF q0 2 (f2 (f2 (gv 0) (gv 1) ixA) (f2 (ci 10) (ci 60) powI) modI)) za0) za0) (seqF (ifF q0 (fAnd (zaM (f2 (fC (zae (gv 0) lNil) lenD) (ci 0) gtI)) (zaM (f2 (f2 (f2 (gv 0) (ci 0) ixA) (ci 2) modI) (ci 0) eqD))) (seqF (retF q0 (gv 2)) za0) za0) (seqF (setF q0 3 (f2 (f2 (f2 (f2 (f2 (f2 (f2 (gv 2) (f2 (f2 (ci 7) (gv 1) mulI) (gv 1) mulI) addA) (f2 (ci 13) (gv 1) mulI) addA) (ci 5) addA) (ci 48271) mulI) (ci 2147483647) modI) (ci 69621) mulI) (ci 1000000007) modI)) (seqF (retF q0 (f2 (f2 (f2 (f2 (f2 (gv 3) (ci 1) addA) (ci 40692) mulI) (ci 2147483629) modI) (ci 39373) mulI) (ci 999999937) modI)) za0)))))
noncomputable def zak : List D→Res D := fun ds => outR false (zaF (zaH zbL.length ds))
theorem zeT {P : Program} {w : World} {K : PySem.W.Frag} {mg : Str→Option Value} {base : Heap} (T : Txt K mg) (A : DefAt K mg "_law_cell" zbr) : Callee P w K mg base "_law_cell" zbb [] 1 false [.bw,.bw] zak := by
  refine zeU (k := 0) (fs := zaF) (m' := q0) A zaI rfl (fun _ _ _ _ _ _ us hl => by obtain ⟨u0,u1,rfl⟩ := zcA us hl; kernel_rfl) fun f cdv A outer s H g E hr => ?_
  have hu1 := zfN hr
  have hu64 := hr.units
  exact (zai (zbC 2 zaI.nd (by rfl) (by first | exact Or.inl rfl | exact Or.inr rfl) zal)
      (zai (s_if (q_lt (vb_ 1) (SE.toB (zgm (by rfl) T.b_len (zd9 (vb_ 0) zf2)))) (zai (zbC 2 zaI.nd (by rfl) (by first | exact Or.inl rfl | exact Or.inr rfl) (zbM (SE.toB (zbS hu1 (vb_ 0) (vb_ 1))) (SE.toB (zhO (SE.toB zal) (SE.toB zal)))))
      zaW)
      zaW)
      (zai (s_if (SW.toQ (zhS (q_gt (SE.toB (zgm (by rfl) T.b_len (zd9 (vb_ 0) zf2))) (SE.toB zal)) (zgz (q_eq hu64 (SE.toB (zbM (SE.toB (zbS hu1 (vb_ 0) (SE.toB zal))) (SE.toB zal))) (SE.toB zal))))) (zai (zc9 (v_ 2))
      zaW)
      zaW)
      (zai (zbC 3 zaI.nd (by rfl) (by first | exact Or.inl rfl | exact Or.inr rfl) (zbM (SE.toB (zcs (SE.toB (zbM (SE.toB (zcs (SE.toB (zbs (SE.toB (zbs (SE.toB (zbs (vb_ 2) (SE.toB (zcs (SE.toB (zcs (SE.toB zal) (vb_ 1))) (vb_ 1))))) (SE.toB (zcs (SE.toB zal) (vb_ 1))))) (SE.toB zal))) (SE.toB zal))) (SE.toB zal))) (SE.toB zal))) (SE.toB zal)))
      (zai (zc9 (zbM (SE.toB (zcs (SE.toB (zbM (SE.toB (zcs (SE.toB (zbs (vb_ 3) (SE.toB zal))) (SE.toB zal))) (SE.toB zal))) (SE.toB zal))) (SE.toB zal)))
      zaW)))))
noncomputable abbrev zbf : Stmt := top 15
noncomputable abbrev zbt : List Str := ["_law_e","_law_some"]
noncomputable abbrev za2 : List Str := ["_law_e"]
theorem zaB : FnScope zbt za2 (defScope zbf) := ⟨rfl,rfl,rfl,by decide +kernel,rfl,by decide +kernel,by decide +kernel⟩
noncomputable def zaK : FS :=
  (seqF (setF [.bw,.sh] 1 (mkL (zae (f1 (gv 0) (isxD zaR)) (zae (f1 (gv 0) (isxD zaA)) (zae (f1 (gv 0) (isxD zaw)) (zae (f1 (gv 0) (isxD za5)) lNil)))))) (seqF (setF [.bw,.sh] 1 (f2 (gv 1) (mkL (zae (f1 (gv 0) (isxD za4)) (zae (f1 (gv 0) (isxD zbd)) (zae (f1 (gv 0) (isxD zbe)) (zae (f1 (gv 0) (isxD zaG)) lNil))))) addA)) (seqF (setF [.bw,.sh] 1 (f2 (gv 1) (mkL (zae (f1 (gv 0) (isxD zaT)) (zae (f1 (gv 0) (isxD za3)) (zae (f1 (gv 0) (isxD zaS)) lNil)))) addA)) (seqF (retF [.bw,.sh] (f2 (gv 1) (mkL (zae (f1 (gv 0) (isxD zav)) (zae (f1 (gv 0) (isxD zau)) lNil))) addA)) za0))))
noncomputable def zay : List D→Res D := fun ds => outR false (zaK (zaH zbt.length ds))
theorem zet {P : Program} {w : World} {K : PySem.W.Frag} {mg : Str→Option Value} {base : Heap} (T : Txt K mg) (A : DefAt K mg "_law_sorts" zbf) {C_NoDeed : Addr} (xb_NoDeed : mg "NoDeed" = some (.ref C_NoDeed)) (ix_NoDeed : IsxOk K (.ref C_NoDeed) za5) {C_NoFraction : Addr} (xb_NoFraction : mg "NoFraction" = some (.ref C_NoFraction)) (ix_NoFraction : IsxOk K (.ref C_NoFraction) zaw) {C_NotSquare : Addr} (xb_NotSquare : mg "NotSquare" = some (.ref C_NotSquare)) (ix_NotSquare : IsxOk K (.ref C_NotSquare) zaA) {C_TooMany : Addr} (xb_TooMany : mg "TooMany" = some (.ref C_TooMany)) (ix_TooMany : IsxOk K (.ref C_TooMany) zaR) {C_NotOwned : Addr} (xb_NotOwned : mg "NotOwned" = some (.ref C_NotOwned)) (ix_NotOwned : IsxOk K (.ref C_NotOwned) zaG) {C_NoOwn : Addr} (xb_NoOwn : mg "NoOwn" = some (.ref C_NoOwn)) (ix_NoOwn : IsxOk K (.ref C_NoOwn) zbe) {C_NoRow : Addr} (xb_NoRow : mg "NoRow" = some (.ref C_NoRow)) (ix_NoRow : IsxOk K (.ref C_NoRow) zbd) {C_NoLine : Addr} (xb_NoLine : mg "NoLine" = some (.ref C_NoLine)) (ix_NoLine : IsxOk K (.ref C_NoLine) za4) {C_NoTable : Addr} (xb_NoTable : mg "NoTable" = some (.ref C_NoTable)) (ix_NoTable : IsxOk K (.ref C_NoTable) zaS) {C_NoText : Addr} (xb_NoText : mg "NoText" = some (.ref C_NoText)) (ix_NoText : IsxOk K (.ref C_NoText) za3) {C_NoOrder : Addr} (xb_NoOrder : mg "NoOrder" = some (.ref C_NoOrder)) (ix_NoOrder : IsxOk K (.ref C_NoOrder) zaT) (ix_ValueError : IsxOk K (.type "ValueError") zau) {C_TradeError : Addr} (xb_TradeError : mg "TradeError" = some (.ref C_TradeError)) (ix_TradeError : IsxOk K (.ref C_TradeError) zav) : Callee P w K mg base "_law_sorts" za2 [] 1 false [Md.bw] zay := by
  refine zeU (k := 0) (fs := zaK) (m' := [.bw,.sh]) A zaB rfl (fun _ _ _ _ _ _ us hl => by obtain ⟨u0,rfl⟩ := zh8 us hl; kernel_rfl) fun f cdv A outer s H g E hr => ?_
  have hu1 := zfN hr
  have hu64 := hr.units
  exact (zai (zbC 1 zaB.nd (by rfl) (by first | exact Or.inl rfl | exact Or.inr rfl) (SO.toE (zcx (zaf (zbu xb_TooMany ix_TooMany (by rfl) (by rfl) T.b_isinstance (vb_ 0)) (zaf (zbu xb_NotSquare ix_NotSquare (by rfl) (by rfl) T.b_isinstance (vb_ 0)) (zaf (zbu xb_NoFraction ix_NoFraction (by rfl) (by rfl) T.b_isinstance (vb_ 0)) (zaf (zbu xb_NoDeed ix_NoDeed (by rfl) (by rfl) T.b_isinstance (vb_ 0)) zaQ)))))))
      (zai (zbC 1 zaB.nd (by rfl) (by first | exact Or.inl rfl | exact Or.inr rfl) (zbs (vb_ 1) (SO.toB (zcx (zaf (zbu xb_NoLine ix_NoLine (by rfl) (by rfl) T.b_isinstance (vb_ 0)) (zaf (zbu xb_NoRow ix_NoRow (by rfl) (by rfl) T.b_isinstance (vb_ 0)) (zaf (zbu xb_NoOwn ix_NoOwn (by rfl) (by rfl) T.b_isinstance (vb_ 0)) (zaf (zbu xb_NotOwned ix_NotOwned (by rfl) (by rfl) T.b_isinstance (vb_ 0)) zaQ))))))))
      (zai (zbC 1 zaB.nd (by rfl) (by first | exact Or.inl rfl | exact Or.inr rfl) (zbs (vb_ 1) (SO.toB (zcx (zaf (zbu xb_NoOrder ix_NoOrder (by rfl) (by rfl) T.b_isinstance (vb_ 0)) (zaf (zbu xb_NoText ix_NoText (by rfl) (by rfl) T.b_isinstance (vb_ 0)) (zaf (zbu xb_NoTable ix_NoTable (by rfl) (by rfl) T.b_isinstance (vb_ 0)) zaQ)))))))
      (zai (zc9 (zbs (vb_ 1) (SO.toB (zcx (zaf (zbu xb_TradeError ix_TradeError (by rfl) (by rfl) T.b_isinstance (vb_ 0)) (zaf (zgn (x := "ValueError") rfl T.b_ValueError ix_ValueError (by rfl) (by rfl) T.b_isinstance (vb_ 0)) zaQ))))))
      zaW))))
noncomputable abbrev zcI : Stmt := top 16
noncomputable abbrev zeP : List Str := ["_law_script","_law_text","_law_number","_law_why","_law_made","_law_k","_law_e"]
noncomputable abbrev zhz : List Str := ["_law_script"]
theorem zbh : FnScope zeP zhz (defScope zcI) := ⟨rfl,rfl,rfl,by decide +kernel,rfl,by decide +kernel,by decide +kernel⟩
noncomputable abbrev zed : FS :=
  (seqF (ifF q101 (zaM (f2 (zbk (zae (gv 6) lNil) [] zay) (zdg 1 [5] (fRng rng1 (zae (ci 13) lNil)) (ftN 0) (fun _ => Res.ok true) (f2 (gv 0) (mkT (zae (gv 1) (zae (ci 11) (zae (ci 12) lNil)))) inD)) neD)) (seqF (retF q101 (fun _ => Res.ok (D.bl false))) za0) za0) za0)
noncomputable def zeQ : FS :=
  (seqF (setF q101 1 (f2 (fun _ => Res.ok (D.str "ab ")) (f2 (zbk (zae (gv 0) (zae (ci 1) lNil)) [] zak) (ci 20) modI) zek)) (seqF (setF q101 2 (f2 (f2 (zbk (zae (gv 0) (zae (ci 2) lNil)) [] zak) (ci 9) modI) (ci 1) subI)) (seqF (setF q101 3 (mkT (zae (f2 (mkL (zae (fun _ => Res.ok (D.str "row")) (zae (fun _ => Res.ok (D.str "column")) lNil))) (f2 (zbk (zae (gv 0) (zae (ci 3) lNil)) [] zak) (ci 2) modI) ixA) (zae (f2 (f2 (zbk (zae (gv 0) (zae (ci 3) lNil)) [] zak) (ci 2) zdV) (ci 7) modI) lNil)))) (seqF (setF q101 4 (mkL (zae (mkxF "TooMany" (zae (gv 1) lNil)) (zae (mkxF "NotSquare" (zae (gv 1) lNil)) (zae (mkxF "NoFraction" (zae (gv 1) lNil)) (zae (mkxF "NoDeed" (zae (gv 1) lNil)) (zae (mkxF "NoLine" (zae (gv 1) lNil)) (zae (fC (zae (gv 2) lNil) (mkxI "NoRow" "hand")) (zae (fC (zae (gv 2) lNil) (mkxI "NoOwn" "hand")) lNil))))))))) (seqF (setF q101 4 (f2 (gv 4) (mkL (zae (fC (zae (gv 2) lNil) (mkxI "NotOwned" "hand")) (zae (fC (zae (gv 2) lNil) (mkxI "NoOrder" "at")) (zae (fC (zae (gv 2) lNil) (mkxI "NoText" "at")) (zae (fC (zae (gv 3) lNil) (mkxT "NoTable" "why")) lNil))))) addA)) (seqF (zdJ q101 (fEnu (gv 4)) (ftT (zce (ftN 5) (zce (ftN 6) zfP))) zed) (seqF (ifF q101 (fOr (zaM (f2 (f1 (f2 (gv 4) (ci 5) ixA) (xatD zaJ "hand")) (gv 2) neD)) (fOr (zaM (f2 (f1 (f2 (gv 4) (ci 6) ixA) (xatD zaJ "hand")) (gv 2) neD)) (zaM (f2 (f1 (f2 (gv 4) (ci 7) ixA) (xatD zaJ "hand")) (gv 2) neD)))) (seqF (retF q101 (fun _ => Res.ok (D.bl false))) za0) za0) (seqF (retF q101 (vAnd (f2 (f1 (f2 (gv 4) (ci 8) ixA) (xatD zbR "at")) (gv 2) eqD) (vAnd (f2 (f1 (f2 (gv 4) (ci 9) ixA) (xatD zbR "at")) (gv 2) eqD) (f2 (f1 (f2 (gv 4) (ci 10) ixA) (xatD zbZ "why")) (gv 3) eqD)))) za0))))))))
noncomputable def zga : List D→Res D := fun ds => outR false (zeQ (zaH zeP.length ds))
theorem ziv {P : Program} {w : World} {K : PySem.W.Frag} {mg : Str→Option Value} {base : Heap} (T : Txt K mg) {fa : Addr} {fd : FuncData} (A : Fun K "law" "law" zcI fa fd) (c__law_cell : Callee P w K mg base "_law_cell" zbb [] 1 false [.bw,.bw] zak) (c__law_sorts : Callee P w K mg base "_law_sorts" za2 [] 1 false [Md.bw] zay) {C_NoOwn : Addr} (xi_NoOwn : XCI P w K mg base "NoOwn" C_NoOwn "hand") (xn_NoOwn : XN K "NoOwn" C_NoOwn) {C_NoRow : Addr} (xi_NoRow : XCI P w K mg base "NoRow" C_NoRow "hand") (xn_NoRow : XN K "NoRow" C_NoRow) {C_NoLine : Addr} (xc_NoLine : XC K mg "NoLine" C_NoLine) (xn_NoLine : XN K "NoLine" C_NoLine) {C_NoDeed : Addr} (xc_NoDeed : XC K mg "NoDeed" C_NoDeed) (xn_NoDeed : XN K "NoDeed" C_NoDeed) {C_NoFraction : Addr} (xc_NoFraction : XC K mg "NoFraction" C_NoFraction) (xn_NoFraction : XN K "NoFraction" C_NoFraction) {C_NotSquare : Addr} (xc_NotSquare : XC K mg "NotSquare" C_NotSquare) (xn_NotSquare : XN K "NotSquare" C_NotSquare) {C_TooMany : Addr} (xc_TooMany : XC K mg "TooMany" C_TooMany) (xn_TooMany : XN K "TooMany" C_TooMany) {C_NoTable : Addr} (xt_NoTable : XCG P w K mg base "NoTable" C_NoTable "why" (spT K C_NoTable "why")) (xn_NoTable : XN K "NoTable" C_NoTable) {C_NoText : Addr} (xi_NoText : XCI P w K mg base "NoText" C_NoText "at") (xn_NoText : XN K "NoText" C_NoText) {C_NoOrder : Addr} (xi_NoOrder : XCI P w K mg base "NoOrder" C_NoOrder "at") (xn_NoOrder : XN K "NoOrder" C_NoOrder) {C_NotOwned : Addr} (xi_NotOwned : XCI P w K mg base "NotOwned" C_NotOwned "hand") (xn_NotOwned : XN K "NotOwned" C_NotOwned) (at_hand : zcm K "hand" zaJ) (at_why : zcm K "why" zbZ) (at_at : zcm K "at" zbR) : FnOk P w K mg base CX0 3 fa fd zhz (spM K false [Md.sh] zga) := by
  refine ze2 (k := 2) (fs := zeQ) (m' := q101) A zbh rfl fun cdv A outer s H g E hr => ?_
  have hu1 := zfN hr
  have hu64 := hr.units
  exact (zai (zbC 1 zbh.nd (by rfl) (by first | exact Or.inl rfl | exact Or.inr rfl) (zgk (SE.toB zff) (SE.toB (zbM (SE.toB (zcg (dds := []) c__law_cell (hr.mono (by decide)) (m_bw (vb_ 0) (m_bw (SE.toB zal) zdI)))) (SE.toB zal)))))
      (zai (zbC 2 zbh.nd (by rfl) (by first | exact Or.inl rfl | exact Or.inr rfl) (zhN (SE.toB (zbM (SE.toB (zcg (dds := []) c__law_cell (hr.mono (by decide)) (m_bw (vb_ 0) (m_bw (SE.toB zal) zdI)))) (SE.toB zal))) (SE.toB zal)))
      (zai (zbC 3 zbh.nd (by rfl) (by first | exact Or.inl rfl | exact Or.inr rfl) (zgj (zaf (zbS hu1 (SO.toB (zcx (zaf zff (zaf zff zaQ)))) (SE.toB (zbM (SE.toB (zcg (dds := []) c__law_cell (hr.mono (by decide)) (m_bw (vb_ 0) (m_bw (SE.toB zal) zdI)))) (SE.toB zal)))) (zaf (zbM (SE.toB (zgo (SE.toB (zcg (dds := []) c__law_cell (hr.mono (by decide)) (m_bw (vb_ 0) (m_bw (SE.toB zal) zdI)))) (SE.toB zal))) (SE.toB zal)) zaQ))))
      (zai (zbC 4 zbh.nd (by rfl) (by first | exact Or.inl rfl | exact Or.inr rfl) (SO.toE (zcx (zaf (zdr xc_TooMany xn_TooMany (by rfl) (zaf (v_ 1) zaQ)) (zaf (zdr xc_NotSquare xn_NotSquare (by rfl) (zaf (v_ 1) zaQ)) (zaf (zdr xc_NoFraction xn_NoFraction (by rfl) (zaf (v_ 1) zaQ)) (zaf (zdr xc_NoDeed xn_NoDeed (by rfl) (zaf (v_ 1) zaQ)) (zaf (zdr xc_NoLine xn_NoLine (by rfl) (zaf (v_ 1) zaQ)) (zaf (zb5 xi_NoRow xn_NoRow (hr.mono (by decide)) (by rfl) (zaf (v_ 2) zaQ)) (zaf (zb5 xi_NoOwn xn_NoOwn (hr.mono (by decide)) (by rfl) (zaf (v_ 2) zaQ)) zaQ))))))))))
      (zai (zbC 4 zbh.nd (by rfl) (by first | exact Or.inl rfl | exact Or.inr rfl) (zbs (vb_ 4) (SO.toB (zcx (zaf (zb5 xi_NotOwned xn_NotOwned (hr.mono (by decide)) (by rfl) (zaf (v_ 2) zaQ)) (zaf (zb5 xi_NoOrder xn_NoOrder (hr.mono (by decide)) (by rfl) (zaf (v_ 2) zaQ)) (zaf (zb5 xi_NoText xn_NoText (hr.mono (by decide)) (by rfl) (zaf (v_ 2) zaQ)) (zaf (zgl xt_NoTable xn_NoTable (hr.mono (by decide)) (by rfl) (zaf (v_ 3) zaQ)) zaQ))))))))
      (zai (zhQ PassesOwn.never rfl (zhh (by rfl) T.b_enumerate (v_ 4)) (zif rfl (ze1 (zdQ 5 zbh.nd (by rfl) (by first | exact Or.inl rfl | exact Or.inr rfl)) (ze1 (zdQ 6 zbh.nd (by rfl) (by first | exact Or.inl rfl | exact Or.inr rfl)) zig))) (zai (s_if (q_ne hu64 (SE.toB (zcg (dds := []) c__law_sorts (hr.mono (by decide)) (m_bw (vb_ 6) zdI))) (SO.toB (zgY (X := (cxOf CX0 P w K mg base zeP "law" (defScope zcI) fa cdv A outer s H E).nox) (N' := ["_law_j","_law_k"]) (nl := 1) (cap := [5]) zbh.nd rfl (zd1 (osc := (defScope zcI)) (ON := zeP) rfl rfl (by decide +kernel)) (SIt.toC (zeA (by rfl) T.b_range (zd9 (SE.toB zal) zf2))) (fun _ _ _ _ _ _ => (zdQ 0 (show List.Nodup (["_law_j","_law_k"] : List Str) by decide +kernel) (by rfl) (by first | exact Or.inl rfl | exact Or.inr rfl))) (zhn (by decide)) (fun _ _ _ _ _ _ => zgy) (fun _ _ _ _ _ _ => (s_in hu1 (vb_ 0) (SE.toB (zgj (zaf (v_ 1) (zaf zal (zaf zal zaQ)))))))))) (zai (zc9 s_bl)
      zaW)
      zaW)
      zaW))
      (zai (s_if (SW.toQ (q_or (q_ne hu64 (SE.toB (zc8 at_hand (SE.toB (zbS hu1 (vb_ 4) (SE.toB zal))))) (vb_ 2)) (q_or (q_ne hu64 (SE.toB (zc8 at_hand (SE.toB (zbS hu1 (vb_ 4) (SE.toB zal))))) (vb_ 2)) (zhR (q_ne hu64 (SE.toB (zc8 at_hand (SE.toB (zbS hu1 (vb_ 4) (SE.toB zal))))) (vb_ 2)))))) (zai (zc9 s_bl)
      zaW)
      zaW)
      (zai (zc9 (zgr (s_eq hu64 (SE.toB (zc8 at_at (SE.toB (zbS hu1 (vb_ 4) (SE.toB zal))))) (vb_ 2)) (zgr (s_eq hu64 (SE.toB (zc8 at_at (SE.toB (zbS hu1 (vb_ 4) (SE.toB zal))))) (vb_ 2)) (zhP (s_eq hu64 (SE.toB (zc8 at_why (SE.toB (zbS hu1 (vb_ 4) (SE.toB zal))))) (vb_ 3))))))
      zaW))))))))
end Law
end
section
namespace Law
open PySem L2 DL
noncomputable abbrev nD (k : Nat) : D := .int (k : Int)
noncomputable abbrev TN (l : List Nat) : D := .tup (l.map nD)
noncomputable def oD : Option Nat→D
  | none => .non
  | some k => nD k
theorem szOk {ds : List D} (h : ds.length≤1000) : sz ds = some ds := zhK (Nat.le_trans h (by rw [sizeLine_eq]; decide))
@[simp] theorem addA_int (a b : Int) : addA (.int a) (.int b) = some (.int (a + b)) := rfl
theorem zfA {a b : Int} (h : CMul a b) : mulI (.int a) (.int b) = some (.int (a * b)) := by rw [mulI,intsC_int,if_pos h]
theorem zdH {a b : Int} (h : 0 < b) : modI (.int a) (.int b) = some (.int (a % b)) := by rw [modI,intsC_int,if_pos h]
theorem zeE {a b : Int} (h : CDiv a b) : zdV (.int a) (.int b) = some (.int (a / b)) := by rw [zdV,intsC_int,if_pos h]
theorem zaE {s1 s2 : FS} {r r' : Rho} (h : s1 r = .nx r') : seqF s1 s2 r = s2 r' := by unfold seqF; rw [h]
theorem zb3 {s1 s2 : FS} {r : Rho} {d : D} (h : s1 r = .rt d) : seqF s1 s2 r = .rt d := by unfold seqF; rw [h]
theorem za8 {m : List Md} {i : Nat} {f : FE} {r : Rho} {d : D} (h : f r = .ok d) : setF m i f r = .nx (r.set i (some d)) := by unfold setF; rw [h]; rfl
theorem zcK {m : List Md} {f : FE} {r : Rho} {d : D} (h : f r = .ok d) : retF m f r = .rt d := by unfold retF; rw [h]; rfl
theorem zhg {m : List Md} {p : FQ} {s1 s2 : FS} {r : Rho} {b : Bool} (h : p r = .ok b) : ifF m p s1 s2 r = if b = true then s1 r else s2 r := by unfold ifF; rw [h]; rfl
theorem if_t {m : List Md} {p : FQ} {s1 s2 : FS} {r : Rho} (h : p r = .ok true) : ifF m p s1 s2 r = s1 r := by rw [zhg h,if_pos rfl]
theorem if_f {m : List Md} {p : FQ} {s1 s2 : FS} {r : Rho} (h : p r = .ok false) : ifF m p s1 s2 r = s2 r := by rw [zhg h,if_neg Bool.false_ne_true]
theorem zeV {fl : Rho→Res (List D)} {r : Rho} {ds : List D} (h : fl r = .ok ds) (hl : ds.length≤1000) : mkT fl r = .ok (.tup ds) := by unfold mkT; rw [h,bind_ok,szOk hl]; rfl
theorem zbD {fl : Rho→Res (List D)} {r : Rho} {ds : List D} (h : fl r = .ok ds) (hl : ds.length≤1000) : mkL fl r = .ok (.lst ds) := by unfold mkL; rw [h,bind_ok,szOk hl]; rfl
theorem zd5 {fl : Rho→Res (List D)} {dds zs : List D} {F : List D→Res D} {r : Rho} {d : D} (h1 : fl r = .ok zs) (h2 : F (zs++dds) = .ok d) : zbk fl dds F r = .ok d := by unfold zbk; rw [h1,bind_ok,h2]; rfl
theorem zhp {f : FE} {k : D→Option D} {r : Rho} {a d : D} (h1 : f r = .ok a) (h2 : k a = some d) : f1 f k r = .ok d := by unfold f1; rw [h1,bind_ok,h2]; rfl
theorem zas {f f' : FE} {k : D→D→Option D} {r : Rho} {a b d : D} (h1 : f r = .ok a) (h2 : f' r = .ok b) (h3 : k a b = some d) : f2 f f' k r = .ok d := by unfold f2; rw [h1,bind_ok,h2,bind_ok,h3]; rfl
theorem zeF {fl : Rho→Res (List D)} {k : List D→Option D} {r : Rho} {ds : List D} {d : D} (h1 : fl r = .ok ds) (h2 : k ds = some d) : fC fl k r = .ok d := by unfold fC; rw [h1,bind_ok,h2]; rfl
theorem zaj {f : FE} {fl : Rho→Res (List D)} {r : Rho} {d : D} {ds : List D} (h1 : f r = .ok d) (h2 : fl r = .ok ds) : zae f fl r = .ok (d::ds) := by unfold zae; rw [h1,bind_ok,h2]; rfl
theorem za7 {r : Rho} : lNil r = .ok [] := rfl
theorem zbA {f : FE} {r : Rho} {b : Bool} (h : f r = .ok (.bl b)) : zaM f r = .ok b := by unfold zaM; rw [h]; rfl
theorem ziq {p q : FQ} {r : Rho} (h : p r = .ok true) : fAnd p q r = q r := by unfold fAnd; rw [h]; rfl
theorem zir {p q : FQ} {r : Rho} (h : p r = .ok false) : fAnd p q r = .ok false := by unfold fAnd; rw [h]; rfl
theorem or_f {p q : FQ} {r : Rho} (h : p r = .ok false) : fOr p q r = q r := by unfold fOr; rw [h]; rfl
theorem zeR {f f' : FE} {r : Rho} (h : f r = .ok (.bl true)) : vAnd f f' r = f' r := by unfold vAnd; rw [h]; rfl
theorem zfD {m : List Md} {fi : FI} {ft : FT} {b : FS} {r : Rho} {ds : List D} (h : fi r = .ok ds) : zdJ m fi ft b r = forF ft b ds r := by unfold zdJ; rw [h]; rfl
theorem zfQ {ft : FT} {b : FS} {r : Rho} : forF ft b [] r = .nx r := by unfold forF; rfl
theorem zho {ft : FT} {b : FS} {r r1 r' : Rho} {d : D} {ds : List D} (h1 : ft d r = some r1) (h2 : b r1 = .nx r') : forF ft b (d::ds) r = forF ft b ds r' := by
  conv => lhs; unfold forF
  simp only [h1,h2]
theorem zd3 {ft : FT} {q : FQ} {fe : FE} {r0 : Rho} : zbj ft q fe r0 [] = .ok [] := by unfold zbj; rfl
theorem zcf {ft : FT} {q : FQ} {fe : FE} {r0 : Rho} {α : Type} (e : α→D) (keep : α→Bool) (g : α→D) : ∀ (l : List α),(∀ a∈l,∃ r1,ft (e a) r0 = some r1∧q r1 = .ok (keep a)∧(keep a = true→fe r1 = .ok (g a)))→zbj ft q fe r0 (l.map e) = .ok ((l.filter keep).map g)
  | [],_ => zd3
  | a::l,h => by
    obtain ⟨r1,h1,h2,h3⟩ := h a List.mem_cons_self
    have ih := zcf (ft := ft) (q := q) (fe := fe) (r0 := r0) e keep g l fun b hb => h b (List.mem_cons_of_mem _ hb)
    rw [List.map_cons]
    conv => lhs; unfold zbj
    rw [h1,opt_some,bind_ok,h2,bind_ok]
    cases k : keep a with
    | true => rw [if_pos rfl,h3 k,bind_ok,ih,bind_ok,List.filter_cons,if_pos k]; rfl
    | false => rw [if_neg Bool.false_ne_true,ih,List.filter_cons,if_neg (by rw [k]; exact Bool.false_ne_true)]
theorem zfW {nl : Nat} {cap : List Nat} {fi : FI} {ft : FT} {q : FQ} {fe : FE} {r : Rho} {α : Type} {l : List α} (e : α→D) (keep : α→Bool) (g : α→D) (h1 : fi r = .ok (l.map e)) (hl : l.length≤1000)
    (h : ∀ a∈l,∃ r1,ft (e a) (capR nl cap r) = some r1∧q r1 = .ok (keep a)∧(keep a = true→fe r1 = .ok (g a))) : zdg nl cap fi ft q fe r = .ok (.lst ((l.filter keep).map g)) := by
  unfold zdg
  rw [h1,bind_ok,szOk (by simpa using hl),opt_some,bind_ok,zcf e keep g l h,noXL_ok,bind_ok]
theorem zh7 (a b : Nat) : ltI (nD a) (nD b) = some (.bl (decide (a < b))) := by
  show some (D.bl (decide ((a : Int) < (b : Int)))) = _
  simp only [Int.ofNat_lt]
theorem zid (a b : Nat) : gtI (nD a) (nD b) = some (.bl (decide (b < a))) := by
  show some (D.bl (decide ((b : Int) < (a : Int)))) = _
  simp only [Int.ofNat_lt]
theorem zim (a b : Nat) : eqD (nD a) (nD b) = some (.bl (decide (a = b))) := by
  unfold eqD
  rw [eqB_int]
  show some (D.bl ((a : Int) == (b : Int))) = _
  have : ((a : Int) == (b : Int)) = decide (a = b) := by rw [Bool.eq_iff_iff,beq_iff_eq,decide_eq_true_iff]; exact Int.ofNat_inj
  rw [this]
theorem zds {B : FS} {n : Nat} {ds : List D} {d : D} (h : B (zaH n ds) = .rt d) : outR false (B (zaH n ds)) = .ok d := by rw [h]; rfl
@[simp] theorem e_seq (s1 s2 : FS) (r : Rho) : seqF s1 s2 r = (match s1 r with | .nx r' => s2 r' | o => o) := rfl
@[simp] theorem e_skip (r : Rho) : za0 r = .nx r := rfl
@[simp] theorem e_set (m : List Md) (i : Nat) (f : FE) (r : Rho) : setF m i f r = onE m r (f r) fun d => .nx (r.set i (some d)) := rfl
@[simp] theorem e_ret (m : List Md) (f : FE) (r : Rho) : retF m f r = onE m r (f r) fun d => .rt d := rfl
@[simp] theorem e_if (m : List Md) (p : FQ) (s1 s2 : FS) (r : Rho) : ifF m p s1 s2 r = onE m r (p r) fun c => if c = true then s1 r else s2 r := rfl
@[simp] theorem e_getV (r : Rho) (i : Nat) : getV r i = (match r[i]? with | some (some d) => .ok d | _ => .stuck) := rfl
@[simp] theorem e_f1 (f : FE) (k : D→Option D) (r : Rho) : f1 f k r = (f r).bind fun d => opt (k d) := rfl
@[simp] theorem e_f2 (f f' : FE) (k : D→D→Option D) (r : Rho) : f2 f f' k r = (f r).bind fun a => (f' r).bind fun b => opt (k a b) := rfl
@[simp] theorem e_fC (fl : Rho→Res (List D)) (k : List D→Option D) (r : Rho) : fC fl k r = (fl r).bind fun ds => opt (k ds) := rfl
@[simp] theorem e_lN (r : Rho) : lNil r = .ok [] := rfl
@[simp] theorem e_lC (f : FE) (fl : Rho→Res (List D)) (r : Rho) : zae f fl r = (f r).bind fun d => (fl r).bind fun ds => .ok (d::ds) := rfl
@[simp] theorem e_test (f : FE) (r : Rho) : zaM f r = (f r).bind fun d => opt (asB d) := rfl
@[simp] theorem e_tru (f : FE) (r : Rho) : fTru f r = (f r).bind fun d => opt (truD d) := rfl
@[simp] theorem e_not (p : FQ) (r : Rho) : fNot p r = (p r).bind fun c => .ok (! c) := rfl
@[simp] theorem e_and (p q : FQ) (r : Rho) : fAnd p q r = (p r).bind fun c => if c = true then q r else .ok false := rfl
@[simp] theorem e_or (p q : FQ) (r : Rho) : fOr p q r = (p r).bind fun c => if c = true then .ok true else q r := rfl
@[simp] theorem e_vand (f f' : FE) (r : Rho) : vAnd f f' r = (f r).bind fun d => (opt (asB d)).bind fun c => if c = true then f' r else .ok (.bl false) := rfl
@[simp] theorem e_vor (f f' : FE) (r : Rho) : vOr f f' r = (f r).bind fun d => (opt (asB d)).bind fun c => if c = true then .ok (.bl true) else f' r := rfl
@[simp] theorem e_vnot (f : FE) (r : Rho) : vNot f r = (f r).bind fun d => (opt (asB d)).bind fun c => .ok (.bl (! c)) := rfl
@[simp] theorem e_fIf (p : FQ) (f f' : FE) (r : Rho) : fIf p f f' r = (p r).bind fun c => if c = true then f r else f' r := rfl
@[simp] theorem e_call (fl : Rho→Res (List D)) (dds : List D) (F : List D→Res D) (r : Rho) : zbk fl dds F r = (fl r).bind fun ds => noX (F (ds++dds)) := rfl
@[simp] theorem e_asB (b : Bool) : asB (.bl b) = some b := rfl
@[simp] theorem e_truB (b : Bool) : truD (.bl b) = some b := rfl
@[simp] theorem e_truL (ds : List D) : truD (.lst ds) = some (! ds.isEmpty) := rfl
@[simp] theorem e_loop (m : List Md) (fi : FI) (ft : FT) (b : FS) (r : Rho) : zdJ m fi ft b r = onE m r (fi r) fun ds => forF ft b ds r := rfl
@[simp] theorem e_fSeq (k : D→Option (List D)) (f : FE) (r : Rho) : fSeq k f r = (f r).bind fun d => opt (k d) := rfl
@[simp] theorem e_asL (ds : List D) : zf4 (.lst ds) = some ds := rfl
@[simp] theorem e_asT (ds : List D) : zf4 (.tup ds) = some ds := rfl
@[simp] theorem e_mkT (fl : Rho→Res (List D)) (r : Rho) : mkT fl r = (fl r).bind fun ds => (opt (sz ds)).bind fun ds => .ok (.tup ds) := rfl
@[simp] theorem e_mkL (fl : Rho→Res (List D)) (r : Rho) : mkL fl r = (fl r).bind fun ds => (opt (sz ds)).bind fun ds => .ok (.lst ds) := rfl
@[simp] theorem e_sz0 : sz [] = some [] := szOk (by simp)
@[simp] theorem e_sz1 (a : D) : sz [a] = some [a] := szOk (by simp)
@[simp] theorem e_sz2 (a b : D) : sz [a,b] = some [a,b] := szOk (by simp)
@[simp] theorem e_sz3 (a b c : D) : sz [a,b,c] = some [a,b,c] := szOk (by simp)
@[simp] theorem e_lenL (ds : List D) : lenD [.lst ds] = some (.int ds.length) := rfl
@[simp] theorem e_lenT (ds : List D) : lenD [.tup ds] = some (.int ds.length) := rfl
@[simp] theorem e_lenK (ds : List (Key × D)) : lenD [.dic ds] = some (.int ds.length) := rfl
@[simp] theorem e_tupL (ds : List D) : tupD [.lst ds] = some (.tup ds) := rfl
@[simp] theorem e_listL (ds : List D) : zg3 [.lst ds] = some (.lst ds) := rfl
@[simp] theorem e_listT (ds : List D) : zg3 [.tup ds] = some (.lst ds) := rfl
@[simp] theorem e_isNN : isD .non .non = some (.bl true) := rfl
@[simp] theorem e_isLN (ds : List D) : isD (.lst ds) .non = some (.bl false) := rfl
@[simp] theorem e_isn1 : isnD .non .non = some (.bl false) := rfl
@[simp] theorem e_isn2 (i : Int) : isnD (.int i) .non = some (.bl true) := rfl
@[simp] theorem e_isn3 (ds : List D) : isnD (.tup ds) .non = some (.bl true) := rfl
@[simp] theorem e_valsD (kvs : List (Key × D)) : zhE (.dic kvs) = some (.lst (kvs.map (·.2))) := rfl
theorem zh9 {ds : List D} {i : Nat} {d : D} (h : ds[i]? = some d) : ixA (.tup ds) (nD i) = some d := by
  have hl : i < ds.length := (List.getElem?_eq_some_iff.mp h).1
  show atI ds (i : Int) = some d
  unfold atI ixN
  rw [if_pos (Int.natCast_nonneg i),if_pos (by omega)]
  simpa using h
theorem zey {ds : List D} {i : Nat} {d : D} (h : ds[i]? = some d) : ixA (.lst ds) (nD i) = some d := by
  have hl : i < ds.length := (List.getElem?_eq_some_iff.mp h).1
  show atI ds (i : Int) = some d
  unfold atI ixN
  rw [if_pos (Int.natCast_nonneg i),if_pos (by omega)]
  simpa using h
@[simp] theorem ixA_L0 (d : D) (ds : List D) : ixA (.lst (d::ds)) (.int 0) = some d := zey (i := 0) rfl
@[simp] theorem ixA_T0 (d : D) (ds : List D) : ixA (.tup (d::ds)) (.int 0) = some d := zh9 (i := 0) rfl
theorem anyE (l : List Nat) (k : Nat) : (l.map nD).any (fun y => eqs y (nD k)) = decide (k∈l) := by
  rw [List.any_map,Bool.eq_iff_iff,List.any_eq_true,decide_eq_true_iff]
  constructor
  · rintro ⟨x,h1,h2⟩
    have : (((x : Nat) : Int) == (k : Int)) = true := h2
    have := Int.ofNat_inj.mp (eq_of_beq this)
    subst this; exact h1
  · intro h
    exact ⟨k,h,by show (((k : Nat) : Int) == (k : Int)) = true; simp⟩
theorem zik (l : List Nat) : (l.map nD).all zaV = true := by
  rw [List.all_eq_true]
  intro x hx
  obtain ⟨k,_,rfl⟩ := List.mem_map.mp hx
  rfl
end Law
end
section
namespace Law
open PySem L2 DL
theorem zcS {α : Type} (f : α→D) (l : List α) : lenD [.lst (l.map f)] = some (nD l.length) := by
  show some (D.int ((l.map f).length : Int)) = _
  rw [List.length_map]
theorem zgt (n : Nat) : rngD 0 n = (List.range n).map nD := by
  unfold rngD
  refine List.map_congr_left fun i _ => ?_
  show D.int (0 + (i : Int)) = D.int (i : Int)
  rw [Int.zero_add]
theorem zfh (j : Int) : rng1 [.int j] = if -(2 ^ 62)≤j∧j < 2 ^ 62 then some (rngD 0 j.toNat) else none := rfl
theorem zgu {n : Nat} (h : n≤1000) : rng1 [nD n] = some ((List.range n).map nD) := by
  rw [zfh,if_pos ⟨by omega,by omega⟩,Int.toNat_natCast,zgt]
theorem zfS {fl : Rho→Res (List D)} {k : List D→Option (List D)} {r : Rho} {ds es : List D} (h1 : fl r = .ok ds) (h2 : k ds = some es) : fRng k fl r = .ok es := by unfold fRng; rw [h1,bind_ok,h2]; rfl
noncomputable def own (owns : List (Option Nat)) (h : Nat) : Option Nat := (owns[h]?).join
end Law
end
section
namespace Law
open PySem L2 DL
noncomputable def putN (kvs : List (Nat × Nat)) (k v : Nat) : List (Nat × Nat) := if k∈kvs.map (·.1) then kvs.map fun p => if p.1 = k then (p.1,v) else p else kvs++[(k,v)]
theorem zdt (kvs : List (Nat × Nat)) (k v j : Nat) : j∈(putN kvs k v).map (·.1)↔j∈kvs.map (·.1)∨j = k := by
  unfold putN
  by_cases h : k∈kvs.map (·.1)
  · rw [if_pos h,List.map_map]
    have : ((fun p : Nat × Nat => p.1) ∘ fun p => if p.1 = k then (p.1,v) else p) = fun p => p.1 := by
      funext p
      simp only [Function.comp_apply]
      split <;> rfl
    rw [this]
    constructor
    · exact .inl
    · rintro (z | rfl)
      · exact z
      · exact h
  · rw [if_neg h]; simp
theorem zen {kvs : List (Nat × Nat)} {k v : Nat} {f : Nat→Nat} (h : ∀ p∈kvs,p.2 = f p.1) (hv : v = f k) : ∀ p∈putN kvs k v,p.2 = f p.1 := by
  intro p hp
  unfold putN at hp
  split at hp
  · obtain ⟨q,h1,rfl⟩ := List.mem_map.mp hp
    split
    · rename_i e; simp only; rw [e]; exact hv
    · exact h q h1
  · rcases List.mem_append.mp hp with z | z
    · exact h p z
    · rw [List.mem_singleton.mp z]; exact hv
structure GI (t : Nat→Nat) (kvs : List (Nat × Nat)) (L : List Nat) : Prop where
  nd : (kvs.map (·.1)).Nodup
  val : ∀ p∈kvs,p.2 = t p.1
  key : ∀ h,h∈kvs.map (·.1)↔h∈L
theorem zfk {kvs : List (Nat × Nat)} {k v : Nat} (h : (kvs.map (·.1)).Nodup) : ((putN kvs k v).map (·.1)).Nodup := by
  unfold putN
  split
  · rw [List.map_map]
    have : ((fun p : Nat × Nat => p.1) ∘ fun p => if p.1 = k then (p.1,v) else p) = fun p => p.1 := by
      funext p
      simp only [Function.comp_apply]
      split <;> rfl
    rw [this]; exact h
  · rename_i hk
    rw [List.map_append]
    refine List.nodup_append.mpr ⟨h,by simp,fun a ha b hb => ?_⟩
    simp at hb
    rintro rfl
    exact hk (hb ▸ ha)
theorem GI.put {t : Nat→Nat} {kvs : List (Nat × Nat)} {L : List Nat} (g : GI t kvs L) (k : Nat) : GI t (putN kvs k (t k)) (L++[k]) :=
  ⟨zfk g.nd,zen g.val rfl,fun h => by rw [zdt,g.key]; simp⟩
theorem GI.len {t : Nat→Nat} {kvs : List (Nat × Nat)} {L line : List Nat} (g : GI t kvs L) (hs : ∀ h∈L,h∈line) : kvs.length≤line.length := by
  have := Rg.zbX (m := line) g.nd fun h hh => hs h ((g.key h).mp hh)
  simpa using this
theorem GI.congr {t t' : Nat→Nat} {kvs : List (Nat × Nat)} {L : List Nat} (g : GI t kvs L) (h : ∀ x∈L,t' x = t x) : GI t' kvs L :=
  ⟨g.nd,fun p hp => by rw [g.val p hp,h p.1 ((g.key _).mp (List.mem_map.mpr ⟨p,hp,rfl⟩))],g.key⟩
theorem GI.mem {t : Nat→Nat} {kvs : List (Nat × Nat)} {L M : List Nat} (g : GI t kvs L) (h : ∀ x,x∈L↔x∈M) : GI t kvs M := ⟨g.nd,g.val,fun x => (g.key x).trans (h x)⟩
theorem GI.nil (t : Nat→Nat) : GI t [] [] := ⟨by simp,fun _ hp => (nomatch hp),fun h => by simp⟩
theorem zdU {α : Type} (l : List α) : l.filter (fun _ => true) = l := List.filter_eq_self.mpr fun _ _ => rfl
end Law
end
section
namespace Law
open PySem L2 DL
theorem zcQ {a b : Nat} (h : 0 < b) : modI (nD a) (nD b) = some (nD (a % b)) := by
  rw [zdH (by omega : (0 : Int) < (b : Int))]
  show some (D.int _) = some (D.int _)
  rw [Int.natCast_emod]
theorem zfR {a b : Nat} (h : 0 < b) (h2 : b < 1000) : zdV (nD a) (nD b) = some (nD (a / b)) := by
  rw [zeE (⟨by omega,by omega⟩ : CDiv (a : Int) (b : Int))]
  show some (D.int _) = some (D.int _)
  rw [Int.natCast_ediv]
section
variable {f f' : FE} {r : Rho}
theorem zdh {b : Int} (h : ∃ i : Int,f r = .ok (.int i)) (h' : f' r = .ok (.int b)) (hb : 0 < b) : ∃ c : Nat,f2 f f' modI r = .ok (nD c) := by
  obtain ⟨i,hi⟩ := h
  refine ⟨(i % b).toNat,zas hi h' ?_⟩
  rw [zdH hb]
  show some (D.int _) = some (D.int _)
  rw [Int.toNat_of_nonneg (Int.emod_nonneg _ (by omega))]
theorem exN (h : ∃ c : Nat,f r = .ok (nD c)) : ∃ i : Int,f r = .ok (.int i) := let ⟨c,e⟩ := h; ⟨c,e⟩
theorem zbI {b : Int} (h : ∃ i : Int,f r = .ok (.int i)) (h' : f' r = .ok (.int b)) (hb : -(2 ^ 64) < b∧b < 2 ^ 64) : ∃ i : Int,f2 f f' mulI r = .ok (.int i) := by
  obtain ⟨i,hi⟩ := h
  exact ⟨i * b,zas hi h' (zfA (.inr hb))⟩
theorem zeG (h : ∃ i : Int,f r = .ok (.int i)) (h' : ∃ i : Int,f' r = .ok (.int i)) : ∃ i : Int,f2 f f' addA r = .ok (.int i) := by
  obtain ⟨i,hi⟩ := h
  obtain ⟨j,hj⟩ := h'
  exact ⟨i + j,zas hi hj rfl⟩
end
theorem zhq {m : List Md} {i : Nat} {f : FE} {s2 : FS} {r : Rho} (h : ∃ c : Nat,f r = .ok (nD c)) (k : ∀ c : Nat,∃ d : Nat,s2 (r.set i (some (nD c))) = .rt (nD d)) : ∃ d : Nat,seqF (setF m i f) s2 r = .rt (nD d) := by
  obtain ⟨c,hc⟩ := h
  obtain ⟨d,hd⟩ := k c
  exact ⟨d,(zaE (za8 hc)).trans hd⟩
noncomputable abbrev IN (ns : List Int) : D := .lst (ns.map .int)
theorem zbT (ns : List Int) (k : Nat) (hk : k≤1000) : ∃ c : Nat,zak [IN ns,nD k] = .ok (nD c) := by
  suffices h : ∃ c : Nat,zaF (zaH 4 [IN ns,nD k]) = .rt (nD c) by
    obtain ⟨c,hc⟩ := h
    exact ⟨c,zds (B := zaF) (n := 4) hc⟩
  unfold zaF
  have st : seqF (setF q0 2 (ci 0)) = seqF (setF q0 2 (fun _ => Res.ok (nD 0))) := rfl
  rw [st]
  refine zhq ⟨0,rfl⟩ fun c1 => ?_
  show ∃ d : Nat,seqF _ _ [some (IN ns),some (nD k),some (nD c1),none] = _
  have key : ∃ c2 : Nat,(ifF q0 (zaM (f2 (gv 1) (fC (zae (gv 0) lNil) lenD) ltI)) (seqF (setF q0 2 (f2 (f2 (gv 0) (gv 1) ixA) (f2 (ci 10) (ci 60) powI) modI)) za0) za0) [some (IN ns),some (nD k),some (nD c1),none] = .nx [some (IN ns),some (nD k),some (nD c2),none] := by
    have t := zbA (zas (f := gv 1) (r := [some (IN ns),some (nD k),some (nD c1),none]) (a := nD k) rfl (zeF (zaj (f := gv 0) (d := IN ns) rfl za7) (zcS _ _)) (zh7 k ns.length))
    by_cases hlt : k < ns.length
    · rw [decide_eq_true hlt] at t
      have hx : (ns.map D.int)[k]? = some (.int ns[k]) := by rw [List.getElem?_map,List.getElem?_eq_getElem hlt]; rfl
      have hp : powI (.int 10) (.int 60) = some (.int (10 ^ 60)) := by
        show zcd CPow _ _ _ = _
        rw [intsC_int,if_pos (by unfold CPow; decide)]
        rfl
      obtain ⟨c2,h2⟩ := zdh (f := f2 (gv 0) (gv 1) ixA) (f' := f2 (ci 10) (ci 60) powI) (r := [some (IN ns),some (nD k),some (nD c1),none]) ⟨ns[k],zas (a := IN ns) (b := nD k) rfl rfl (zey hx)⟩ (zas rfl rfl hp) (by decide)
      exact ⟨c2,(if_t t).trans ((zaE (za8 h2)).trans rfl)⟩
    · rw [decide_eq_false hlt] at t
      exact ⟨c1,(if_f t).trans rfl⟩
  obtain ⟨c2,h2⟩ := key
  rw [zaE h2]
  have kq : ∃ b,(fAnd (zaM (f2 (fC (zae (gv 0) lNil) lenD) (ci 0) gtI)) (zaM (f2 (f2 (f2 (gv 0) (ci 0) ixA) (ci 2) modI) (ci 0) eqD))) [some (IN ns),some (nD k),some (nD c2),none] = .ok b := by
    have t := zbA (zas (f := fC (zae (gv 0) lNil) lenD) (f' := fun _ => Res.ok (D.int 0)) (r := [some (IN ns),some (nD k),some (nD c2),none]) (b := nD 0) (zeF (zaj (d := IN ns) rfl za7) (zcS _ _)) rfl (zid ns.length 0))
    cases ns with
    | nil => exact ⟨false,zir t⟩
    | cons a ns =>
      rw [decide_eq_true (by simp)] at t
      obtain ⟨c3,h3⟩ := zdh (f := f2 (gv 0) (ci 0) ixA) (f' := fun _ => Res.ok (D.int 2)) (r := [some (IN (a::ns)),some (nD k),some (nD c2),none]) ⟨a,zas (a := IN (a::ns)) (b := .int 0) rfl rfl (ixA_L0 _ _)⟩ rfl (by decide)
      exact ⟨_,(ziq t).trans (zbA (zas h3 (b := nD 0) rfl (zim c3 0)))⟩
  obtain ⟨b,hb⟩ := kq
  cases b with
  | true => exact ⟨c2,zb3 ((if_t hb).trans (zb3 (zcK (d := nD c2) rfl)))⟩
  | false =>
    rw [zaE ((if_f (s2 := za0) hb).trans (e_skip _))]
    refine zhq (zdh (zbI (exN (zdh (zbI (zeG (zeG (zeG ⟨(c2 : Int),rfl⟩ (zbI (b := (k : Int)) (zbI (b := (k : Int)) ⟨7,rfl⟩ rfl (by omega)) rfl (by omega))) (zbI (b := (k : Int)) ⟨13,rfl⟩ rfl (by omega))) ⟨5,rfl⟩) rfl (by decide)) rfl (by decide))) rfl (by decide)) rfl (by decide)) fun c3 => ?_
    obtain ⟨c4,h4⟩ := zdh (f := (f2 (f2 (f2 (f2 (gv 3) (ci 1) addA) (ci 40692) mulI) (ci 2147483629) modI) (ci 39373) mulI)) (f' := fun _ => Res.ok (D.int 999999937)) (r := [some (IN ns),some (nD k),some (nD c2),some (nD c3)]) (zbI (exN (zdh (zbI (zeG ⟨(c3 : Int),rfl⟩ ⟨1,rfl⟩) rfl (by decide)) rfl (by decide))) rfl (by decide)) rfl (by decide)
    exact ⟨c4,zb3 (zcK h4)⟩
end Law
end
section
namespace Law
open PySem PyProof.Rows L2 DL
section
variable {a : Nat → Nat} {n : Nat}
end
end Law
end
section
namespace Law
open PySem PyProof.Rows L2 DL
end Law
end
section
namespace Law
open PySem PyProof.Rows L2 DL
theorem zg2 {nm : Str} {fl : Rho→Res (List D)} {r : Rho} {d : D} (h : fl r = .ok [d]) : mkxF nm fl r = .ok (xD nm []) := by unfold mkxF; rw [h]; rfl
theorem zfC {nm f : Str} {i : Int} (h : i.natAbs.log2 < 64) : mkxI nm f [.int i] = some (xD nm [(f,.int i)]) := by
  show (if i.natAbs.log2 < 64 then some (xD nm [(f,.int i)]) else none) = _
  rw [if_pos h]
theorem zfB {nm f n : Str} {i : Int} (h : shwP n i) : mkxT nm f [.tup [.str n,.int i]] = some (xD nm [(f,.tup [.str n,.int i])]) := by
  show (if shwP n i then some (xD nm [(f,.tup [.str n,.int i])]) else none) = _
  rw [if_pos h]
noncomputable abbrev BL (l : List Bool) : D := .lst (l.map .bl)
theorem zb0 {a b : List D} (h : a.length + b.length≤1000) : addA (.lst a) (.lst b) = some (.lst (a++b)) := by
  show (if a.length + b.length≤sizeLine then _ else _) = _
  rw [if_pos (by rw [sizeLine_eq]; omega)]
theorem ze4 : ∀ l : List Bool,PyData.eqvAll (zbl (l.map D.bl)) (zbl (l.map D.bl)) = true
  | [] => by simp [zbl,PyData.eqvAll]
  | b::l => by
    have ih := ze4 l
    simp only [List.map_cons,zbl,toPy,PyData.eqvAll,PyData.eqv,ih]
    simp
theorem zg0 (l : List Bool) : neD (BL l) (BL l) = some (.bl false) := by
  have s : Shp 60 (BL l) := zco.mpr fun d hd => by obtain ⟨b,_,rfl⟩ := List.mem_map.mp hd; trivial
  unfold neD
  rw [zcZ rfl s s]
  unfold eqb
  simp only [toPy,PyData.eqv,ze4]
  rfl
noncomputable def due (k : Nat) : List Bool := (List.range 13).map fun j => decide (j∈[k,11,12])
theorem zaq {x : D} {b0 b1 b2 b3 b4 b5 b6 b7 b8 b9 b10 b11 b12 : Bool} (h0 : isxD zaR x = some (.bl b0)) (h1 : isxD zaA x = some (.bl b1)) (h2 : isxD zaw x = some (.bl b2)) (h3 : isxD za5 x = some (.bl b3)) (h4 : isxD za4 x = some (.bl b4)) (h5 : isxD zbd x = some (.bl b5)) (h6 : isxD zbe x = some (.bl b6)) (h7 : isxD zaG x = some (.bl b7)) (h8 : isxD zaT x = some (.bl b8)) (h9 : isxD za3 x = some (.bl b9)) (h10 : isxD zaS x = some (.bl b10)) (h11 : isxD zav x = some (.bl b11)) (h12 : isxD zau x = some (.bl b12)) :
    zay [x] = .ok (BL [b0,b1,b2,b3,b4,b5,b6,b7,b8,b9,b10,b11,b12]) := by
  have g : ∀ {y : Option D} {t : Str→Option Bool} {b : Bool},isxD t x = some (.bl b)→f1 (gv 0) (isxD t) [some x,y] = .ok (.bl b) := fun h => zhp (a := x) rfl h
  refine zds (B := zaK) (n := 2) ?_
  unfold zaK
  refine (zaE (r' := [some x,some (BL [b0,b1,b2,b3])]) (za8 (zbD (zaj (g h0) (zaj (g h1) (zaj (g h2) (zaj (g h3) za7)))) (by simp)))).trans ?_
  refine (zaE (r' := [some x,some (BL [b0,b1,b2,b3,b4,b5,b6,b7])]) (za8 (zas (a := BL [b0,b1,b2,b3]) (b := BL [b4,b5,b6,b7]) rfl (zbD (zaj (g h4) (zaj (g h5) (zaj (g h6) (zaj (g h7) za7)))) (by simp)) (zb0 (by simp))))).trans ?_
  refine (zaE (r' := [some x,some (BL [b0,b1,b2,b3,b4,b5,b6,b7,b8,b9,b10])]) (za8 (zas (a := BL [b0,b1,b2,b3,b4,b5,b6,b7]) (b := BL [b8,b9,b10]) rfl (zbD (zaj (g h8) (zaj (g h9) (zaj (g h10) za7))) (by simp)) (zb0 (by simp))))).trans ?_
  exact zb3 (zcK (zas (a := BL [b0,b1,b2,b3,b4,b5,b6,b7,b8,b9,b10]) (b := BL [b11,b12]) rfl (zbD (zaj (g h11) (zaj (g h12) za7)) (by simp)) (zb0 (by simp))))
noncomputable abbrev nms : List Str := ["TooMany","NotSquare","NoFraction","NoDeed","NoLine","NoRow","NoOwn","NotOwned","NoOrder","NoText","NoTable"]
theorem zhL (k : Nat) (nm : Str) (ds : List (Str × D)) (h : nms[k]? = some nm) : zay [xD nm ds] = .ok (BL (due k)) := by
  match k,h with
  | 0,h => cases h; exact zaq rfl rfl rfl rfl rfl rfl rfl rfl rfl rfl rfl rfl rfl
  | 1,h => cases h; exact zaq rfl rfl rfl rfl rfl rfl rfl rfl rfl rfl rfl rfl rfl
  | 2,h => cases h; exact zaq rfl rfl rfl rfl rfl rfl rfl rfl rfl rfl rfl rfl rfl
  | 3,h => cases h; exact zaq rfl rfl rfl rfl rfl rfl rfl rfl rfl rfl rfl rfl rfl
  | 4,h => cases h; exact zaq rfl rfl rfl rfl rfl rfl rfl rfl rfl rfl rfl rfl rfl
  | 5,h => cases h; exact zaq rfl rfl rfl rfl rfl rfl rfl rfl rfl rfl rfl rfl rfl
  | 6,h => cases h; exact zaq rfl rfl rfl rfl rfl rfl rfl rfl rfl rfl rfl rfl rfl
  | 7,h => cases h; exact zaq rfl rfl rfl rfl rfl rfl rfl rfl rfl rfl rfl rfl rfl
  | 8,h => cases h; exact zaq rfl rfl rfl rfl rfl rfl rfl rfl rfl rfl rfl rfl rfl
  | 9,h => cases h; exact zaq rfl rfl rfl rfl rfl rfl rfl rfl rfl rfl rfl rfl rfl
  | 10,h => cases h; exact zaq rfl rfl rfl rfl rfl rfl rfl rfl rfl rfl rfl rfl rfl
  | k + 11,h => cases h
theorem zib (l : List Nat) (k : Nat) : inD (nD k) (TN l) = some (.bl (decide (k∈l))) := by
  show (if zaV (nD k) = true∧(l.map nD).all zaV = true then some ((l.map nD).any fun y => eqs y (nD k)) else none).map D.bl = _
  rw [if_pos ⟨rfl,zik l⟩,anyE]; rfl
section
variable {a0 a1 a2 a3 a4 : Option D}
theorem zeW : ∀ (l : List (List (Str × D))) (k : Nat) (x5 x6 : Option D),k + l.length = 11→∃ y5 y6,forF (ftT (zce (ftN 5) (zce (ftN 6) zfP))) zed (enuD k ((l.zip (nms.drop k)).map fun p => xD p.2 p.1)) [a0,a1,a2,a3,a4,x5,x6] = .nx [a0,a1,a2,a3,a4,y5,y6]
  | [],k,x5,x6,_ => ⟨x5,x6,zfQ⟩
  | ds::l,k,x5,x6,hl => by
    simp only [List.length_cons] at hl
    have hk : k < nms.length := by show k < 11; omega
    obtain ⟨y5,y6,ih⟩ := zeW l (k + 1) (some (nD k)) (some (xD nms[k] ds)) (by omega)
    refine ⟨y5,y6,?_⟩
    rw [← ih,List.drop_eq_getElem_cons hk,List.zip_cons_cons,List.map_cons]
    refine zho (r1 := [a0,a1,a2,a3,a4,some (nD k),some (xD nms[k] ds)]) rfl ?_
    refine zaE ((if_f (zbA (zas (a := BL (due k)) (b := BL (due k)) (zd5 (zaj (d := xD nms[k] ds) rfl za7) (zhL k _ ds (List.getElem?_eq_getElem hk))) ?_ (zg0 _)))).trans (e_skip _))
    refine (zfW (l := List.range 13) nD (fun _ => true) (fun j => .bl (decide (j∈[k,11,12]))) (zfS (zaj (d := nD 13) rfl za7) (zgu (by decide))) (by simp) fun j hj => ⟨[some (nD j),some (nD k)],rfl,rfl,fun _ => ?_⟩).trans ?_
    · exact zas (a := nD j) (b := TN [k,11,12]) rfl (zeV (zaj (d := nD k) rfl (zaj (d := nD 11) rfl (zaj (d := nD 12) rfl za7))) (by simp)) (zib _ _)
    · rw [zdU]
      show Res.ok (D.lst _) = Res.ok (D.lst _)
      unfold due
      rw [List.map_map]; rfl
end
theorem zh4 (i : Int) : neD (.int i) (.int i) = some (.bl false) := by
  show some (D.bl (!(i == i))) = _
  simp
theorem zhs (i : Int) : eqD (.int i) (.int i) = some (.bl true) := by
  show some (D.bl (i == i)) = _
  simp
theorem zfU {w : Str} {z : Nat} (hw : w = "row"∨w = "column") : eqD (.tup [.str w,nD z]) (.tup [.str w,nD z]) = some (.bl true) := by
  have s1 : Shp 59 (.str w) := by
    rcases hw with rfl | rfl
    · exact (show PyData.strOk "row" = true by kernel_rfl)
    · exact (show PyData.strOk "column" = true by kernel_rfl)
  have sh : Shp 60 (.tup [.str w,nD z]) := zcn.mpr fun d hd => by
    rcases List.mem_cons.mp hd with e | e
    · rw [e]; exact s1
    · rw [List.mem_singleton.mp e]; trivial
  unfold eqD
  rw [zcZ rfl sh sh]
  unfold eqb
  simp only [toPy,zbl,PyData.eqv,PyData.eqvAll]
  simp
theorem shw {w : Str} {z : Nat} (hw : w = "row"∨w = "column") (hz : z < 7) : shwP w (z : Int) := by
  rcases hw with rfl | rfl <;> (match z,hz with
    | 0,_ => exact (by decide +kernel)
    | 1,_ => exact (by decide +kernel)
    | 2,_ => exact (by decide +kernel)
    | 3,_ => exact (by decide +kernel)
    | 4,_ => exact (by decide +kernel)
    | 5,_ => exact (by decide +kernel)
    | 6,_ => exact (by decide +kernel))
noncomputable abbrev flds (nb : Int) (w : Str) (z : Nat) : List (List (Str × D)) := [[],[],[],[],[],[("hand",.int nb)],[("hand",.int nb)],[("hand",.int nb)],[("at",.int nb)],[("at",.int nb)],[("why",.tup [.str w,nD z])]]
noncomputable abbrev made (nb : Int) (w : Str) (z : Nat) : List D := [xD "TooMany" [],xD "NotSquare" [],xD "NoFraction" [],xD "NoDeed" [],xD "NoLine" [],xD "NoRow" [("hand",.int nb)],xD "NoOwn" [("hand",.int nb)],xD "NotOwned" [("hand",.int nb)],xD "NoOrder" [("at",.int nb)],xD "NoText" [("at",.int nb)],xD "NoTable" [("why",.tup [.str w,nD z])]]
theorem zh6 (ns : List Int) : zga [IN ns] = .ok (.bl true) := by
  obtain ⟨c1,h1⟩ := zbT ns 1 (by decide)
  obtain ⟨c2,h2⟩ := zbT ns 2 (by decide)
  obtain ⟨c3,h3⟩ := zbT ns 3 (by decide)
  have q1 : c1 % 20 < 20 := Nat.mod_lt _ (by decide)
  have q2 : c2 % 9 < 9 := Nat.mod_lt _ (by decide)
  have q3 : c3 % 2 < 2 := Nat.mod_lt _ (by decide)
  have q4 : c3 / 2 % 7 < 7 := Nat.mod_lt _ (by decide)
  have cell : ∀ (k c : Nat) (x1 x2 x3 x4 x5 x6 : Option D),zak [IN ns,nD k] = .ok (nD c)→zbk (zae (gv 0) (zae (fun _ => Res.ok (D.int (k : Int))) lNil)) [] zak [some (IN ns),x1,x2,x3,x4,x5,x6] = .ok (nD c) := fun k c x1 x2 x3 x4 x5 x6 h => zd5 (zaj (d := IN ns) rfl (zaj (d := nD k) rfl za7)) h
  obtain ⟨w,hw,ew⟩ : ∃ w : Str,(w = "row"∨w = "column")∧([.str "row",.str "column"] : List D)[c3 % 2]? = some (.str w) := by
    generalize c3 % 2 = j at q3
    match j,q3 with
    | 0,_ => exact ⟨_,.inl rfl,rfl⟩
    | 1,_ => exact ⟨_,.inr rfl,rfl⟩
  generalize et : zej "ab " ((c1 % 20 : Nat) : Int) = t
  have hmul : zek (.str "ab ") (nD (c1 % 20)) = some (.str t) := by
    rw [← et]
    show (if (Str.length "ab ")≤100∧(0 : Int)≤((c1 % 20 : Nat) : Int)∧((c1 % 20 : Nat) : Int)≤100 then _ else _) = _
    rw [if_pos ⟨by decide +kernel,by omega,by omega⟩]
  generalize eb : ((c2 % 9 : Nat) : Int) - 1 = nb
  have hb : nb.natAbs.log2 < 64 := by
    have := Nat.log2_le_self nb.natAbs
    omega
  have sw := shw hw q4
  generalize ez : c3 / 2 % 7 = z at q4 sw
  refine zds (B := zeQ) (n := 7) ?_
  unfold zeQ
  refine (zaE (r' := [some (IN ns),some (.str t),none,none,none,none,none]) (za8 (zas (a := .str "ab ") (b := nD (c1 % 20)) rfl (zas (a := nD c1) (b := nD 20) (cell 1 c1 _ _ _ _ _ _ h1) rfl (zcQ (by decide))) hmul))).trans ?_
  refine (zaE (r' := [some (IN ns),some (.str t),some (.int nb),none,none,none,none]) (za8 (zas (a := nD (c2 % 9)) (b := .int 1) (zas (a := nD c2) (b := nD 9) (cell 2 c2 _ _ _ _ _ _ h2) rfl (zcQ (by decide))) rfl (by rw [← eb]; rfl)))).trans ?_
  refine (zaE (r' := [some (IN ns),some (.str t),some (.int nb),some (.tup [.str w,nD z]),none,none,none]) (za8 (zeV (zaj (d := .str w) (zas (a := .lst [.str "row",.str "column"]) (b := nD (c3 % 2)) (zbD (zaj (d := .str "row") rfl (zaj (d := .str "column") rfl za7)) (by simp)) (zas (a := nD c3) (b := nD 2) (cell 3 c3 _ _ _ _ _ _ h3) rfl (zcQ (by decide))) (zey ew)) (zaj (d := nD z) (zas (a := nD (c3 / 2)) (b := nD 7) (zas (a := nD c3) (b := nD 2) (cell 3 c3 _ _ _ _ _ _ h3) rfl (zfR (by decide) (by decide))) rfl (by rw [zcQ (by decide),ez])) za7)) (by simp)))).trans ?_
  have e0 : ∀ (nm : Str) (x4 : Option D),mkxF nm (zae (gv 1) lNil) [some (IN ns),some (.str t),some (.int nb),some (.tup [.str w,nD z]),x4,none,none] = .ok (xD nm []) := fun nm x4 => zg2 (d := .str t) rfl
  have e1 : ∀ (nm f : Str) (x4 : Option D),fC (zae (gv 2) lNil) (mkxI nm f) [some (IN ns),some (.str t),some (.int nb),some (.tup [.str w,nD z]),x4,none,none] = .ok (xD nm [(f,.int nb)]) := fun nm f x4 => zeF (zaj (d := .int nb) rfl za7) (zfC hb)
  refine (zaE (r' := [some (IN ns),some (.str t),some (.int nb),some (.tup [.str w,nD z]),some (.lst [xD "TooMany" [],xD "NotSquare" [],xD "NoFraction" [],xD "NoDeed" [],xD "NoLine" [],xD "NoRow" [("hand",.int nb)],xD "NoOwn" [("hand",.int nb)]]),none,none]) (za8 (zbD (zaj (e0 _ _) (zaj (e0 _ _) (zaj (e0 _ _) (zaj (e0 _ _) (zaj (e0 _ _) (zaj (e1 _ _ _) (zaj (e1 _ _ _) za7))))))) (by simp)))).trans ?_
  refine (zaE (r' := [some (IN ns),some (.str t),some (.int nb),some (.tup [.str w,nD z]),some (.lst (made nb w z)),none,none]) (za8 (zas (a := .lst [xD "TooMany" [],xD "NotSquare" [],xD "NoFraction" [],xD "NoDeed" [],xD "NoLine" [],xD "NoRow" [("hand",.int nb)],xD "NoOwn" [("hand",.int nb)]]) (b := .lst [xD "NotOwned" [("hand",.int nb)],xD "NoOrder" [("at",.int nb)],xD "NoText" [("at",.int nb)],xD "NoTable" [("why",.tup [.str w,nD z])]]) rfl (zbD (zaj (e1 _ _ _) (zaj (e1 _ _ _) (zaj (e1 _ _ _) (zaj (d := xD "NoTable" [("why",.tup [.str w,nD z])]) (zeF (zaj (d := .tup [.str w,nD z]) rfl za7) (zfB sw)) za7)))) (by simp)) (zb0 (by simp))))).trans ?_
  obtain ⟨y5,y6,hm⟩ := zeW (a0 := some (IN ns)) (a1 := some (.str t)) (a2 := some (.int nb)) (a3 := some (.tup [.str w,nD z])) (a4 := some (.lst (made nb w z))) (flds nb w z) 0 none none rfl
  refine (zaE ((zfD (ds := enuD 0 (made nb w z)) rfl).trans hm)).trans ?_
  have at' : ∀ (k : Nat) (nm f : Str) (ds : List (Str × D)) (t' : Str→Bool) (d : D),(made nb w z)[k]? = some (xD nm ds)→xatD t' f (xD nm ds) = some d→f1 (f2 (gv 4) (fun _ => Res.ok (D.int (k : Int))) ixA) (xatD t' f) [some (IN ns),some (.str t),some (.int nb),some (.tup [.str w,nD z]),some (.lst (made nb w z)),y5,y6] = .ok d := fun k nm f ds t' d g1 g2 => zhp (a := xD nm ds) (zas (a := .lst (made nb w z)) (b := nD k) rfl rfl (zey g1)) g2
  have nq : ∀ {f : FE},f [some (IN ns),some (.str t),some (.int nb),some (.tup [.str w,nD z]),some (.lst (made nb w z)),y5,y6] = .ok (.int nb)→zaM (f2 f (gv 2) neD) [some (IN ns),some (.str t),some (.int nb),some (.tup [.str w,nD z]),some (.lst (made nb w z)),y5,y6] = .ok false := fun h => zbA (zas (a := .int nb) (b := .int nb) h rfl (zh4 _))
  refine (zaE ((if_f ((or_f (nq (at' 5 "NoRow" "hand" [("hand",.int nb)] zaJ (.int nb) rfl rfl))).trans ((or_f (nq (at' 6 "NoOwn" "hand" [("hand",.int nb)] zaJ (.int nb) rfl rfl))).trans (nq (at' 7 "NotOwned" "hand" [("hand",.int nb)] zaJ (.int nb) rfl rfl))))).trans (e_skip _))).trans (zb3 (zcK ?_))
  refine (zeR (zas (a := .int nb) (b := .int nb) (at' 8 "NoOrder" "at" [("at",.int nb)] zbR (.int nb) rfl rfl) rfl (zhs _))).trans ?_
  refine (zeR (zas (a := .int nb) (b := .int nb) (at' 9 "NoText" "at" [("at",.int nb)] zbR (.int nb) rfl rfl) rfl (zhs _))).trans ?_
  exact zas (a := .tup [.str w,nD z]) (b := .tup [.str w,nD z]) (at' 10 "NoTable" "why" [("why",.tup [.str w,nD z])] zbZ (.tup [.str w,nD z]) rfl rfl) rfl (zfU hw)
theorem main (ns : List Int) (_ : ns.length≤63) : zga [.lst (ns.map .int)] = .ok (.bl true) := zh6 ns
end Law
end
open PySem PySem.W PyProof.Rows
namespace Law
open PySem PySem.Spec PyProof.Rows L2 DL
theorem pack {P : Program} {w : World} {K : PySem.W.Frag} {h : Heap} {mg : Str→Option Value} (KX : K.In h) (G : h.Ns mainGlobals mg) {c_TradeError : Addr} {c_TooMany : Addr} {c_NotSquare : Addr} {c_NoFraction : Addr} {c_NoDeed : Addr} {c_NoLine : Addr} {c_NoRow : Addr} {c_NoOwn : Addr} {c_NotOwned : Addr} {c_NoOrder : Addr} {c_NoText : Addr} {c_NoTable : Addr} {b_TradeError : List Value} {b_TooMany : List Value} {b_NotSquare : List Value} {b_NoFraction : List Value} {b_NoDeed : List Value} {b_NoLine : List Value} {b_NoRow : List Value} {b_NoOwn : List Value} {b_NotOwned : List Value} {b_NoOrder : List Value} {b_NoText : List Value} {b_NoTable : List Value} {n_NoOwn : Addr} {f_NoOwn : Addr} {oc_NoOwn kV_NoOwn doc_NoOwn pm_NoOwn cdv_NoOwn ct_NoOwn : Value} {od_NoOwn an_NoOwn : Option Addr} {osl_NoOwn : Array (Option Value)} {n_NoRow : Addr} {f_NoRow : Addr} {oc_NoRow kV_NoRow doc_NoRow pm_NoRow cdv_NoRow ct_NoRow : Value} {od_NoRow an_NoRow : Option Addr} {osl_NoRow : Array (Option Value)} {n_NoTable : Addr} {f_NoTable : Addr} {oc_NoTable kV_NoTable doc_NoTable pm_NoTable cdv_NoTable ct_NoTable : Value} {od_NoTable an_NoTable : Option Addr} {osl_NoTable : Array (Option Value)} {n_NoText : Addr} {f_NoText : Addr} {oc_NoText kV_NoText doc_NoText pm_NoText cdv_NoText ct_NoText : Value} {od_NoText an_NoText : Option Addr} {osl_NoText : Array (Option Value)} {n_NoOrder : Addr} {f_NoOrder : Addr} {oc_NoOrder kV_NoOrder doc_NoOrder pm_NoOrder cdv_NoOrder ct_NoOrder : Value} {od_NoOrder an_NoOrder : Option Addr} {osl_NoOrder : Array (Option Value)} {n_NotOwned : Addr} {f_NotOwned : Addr} {oc_NotOwned kV_NotOwned doc_NotOwned pm_NotOwned cdv_NotOwned ct_NotOwned : Value} {od_NotOwned an_NotOwned : Option Addr} {osl_NotOwned : Array (Option Value)}
    (a_TradeError : PySem.W.nsIn K mainGlobals "TradeError" = some (some (.ref c_TradeError)))
    (a_TooMany : PySem.W.nsIn K mainGlobals "TooMany" = some (some (.ref c_TooMany)))
    (a_NotSquare : PySem.W.nsIn K mainGlobals "NotSquare" = some (some (.ref c_NotSquare)))
    (a_NoFraction : PySem.W.nsIn K mainGlobals "NoFraction" = some (some (.ref c_NoFraction)))
    (a_NoDeed : PySem.W.nsIn K mainGlobals "NoDeed" = some (some (.ref c_NoDeed)))
    (a_NoLine : PySem.W.nsIn K mainGlobals "NoLine" = some (some (.ref c_NoLine)))
    (a_NoRow : PySem.W.nsIn K mainGlobals "NoRow" = some (some (.ref c_NoRow)))
    (a_NoOwn : PySem.W.nsIn K mainGlobals "NoOwn" = some (some (.ref c_NoOwn)))
    (a_NotOwned : PySem.W.nsIn K mainGlobals "NotOwned" = some (some (.ref c_NotOwned)))
    (a_NoOrder : PySem.W.nsIn K mainGlobals "NoOrder" = some (some (.ref c_NoOrder)))
    (a_NoText : PySem.W.nsIn K mainGlobals "NoText" = some (some (.ref c_NoText)))
    (a_NoTable : PySem.W.nsIn K mainGlobals "NoTable" = some (some (.ref c_NoTable)))
    (o_TradeError : DL.xoIn K c_TradeError = some (b_TradeError,(Str.ofString "TradeError")))
    (be_TradeError : b_TradeError.contains (Value.type "BaseException") = true)
    (bo_TradeError : b_TradeError.contains (Value.type "object") = true)
    (ga_TradeError : PySem.W.findIn K (.ref c_TradeError) "__getattribute__" = some (some (.builtin "BaseException.__getattribute__")))
    (gn_TradeError : PySem.W.findIn K (.ref c_TradeError) "__getattr__" = some (none))
    (gc_TradeError : PySem.W.findIn K (.ref c_TradeError) "__class__" = some (some (.builtin "object.__class__")))
    (un_TradeError : DL.unIn K "TradeError" c_TradeError = true)
    (o_TooMany : DL.xoIn K c_TooMany = some (b_TooMany,(Str.ofString "TooMany")))
    (be_TooMany : b_TooMany.contains (Value.type "BaseException") = true)
    (bo_TooMany : b_TooMany.contains (Value.type "object") = true)
    (ga_TooMany : PySem.W.findIn K (.ref c_TooMany) "__getattribute__" = some (some (.builtin "BaseException.__getattribute__")))
    (gn_TooMany : PySem.W.findIn K (.ref c_TooMany) "__getattr__" = some (none))
    (gc_TooMany : PySem.W.findIn K (.ref c_TooMany) "__class__" = some (some (.builtin "object.__class__")))
    (un_TooMany : DL.unIn K "TooMany" c_TooMany = true)
    (o_NotSquare : DL.xoIn K c_NotSquare = some (b_NotSquare,(Str.ofString "NotSquare")))
    (be_NotSquare : b_NotSquare.contains (Value.type "BaseException") = true)
    (bo_NotSquare : b_NotSquare.contains (Value.type "object") = true)
    (ga_NotSquare : PySem.W.findIn K (.ref c_NotSquare) "__getattribute__" = some (some (.builtin "BaseException.__getattribute__")))
    (gn_NotSquare : PySem.W.findIn K (.ref c_NotSquare) "__getattr__" = some (none))
    (gc_NotSquare : PySem.W.findIn K (.ref c_NotSquare) "__class__" = some (some (.builtin "object.__class__")))
    (un_NotSquare : DL.unIn K "NotSquare" c_NotSquare = true)
    (o_NoFraction : DL.xoIn K c_NoFraction = some (b_NoFraction,(Str.ofString "NoFraction")))
    (be_NoFraction : b_NoFraction.contains (Value.type "BaseException") = true)
    (bo_NoFraction : b_NoFraction.contains (Value.type "object") = true)
    (ga_NoFraction : PySem.W.findIn K (.ref c_NoFraction) "__getattribute__" = some (some (.builtin "BaseException.__getattribute__")))
    (gn_NoFraction : PySem.W.findIn K (.ref c_NoFraction) "__getattr__" = some (none))
    (gc_NoFraction : PySem.W.findIn K (.ref c_NoFraction) "__class__" = some (some (.builtin "object.__class__")))
    (un_NoFraction : DL.unIn K "NoFraction" c_NoFraction = true)
    (o_NoDeed : DL.xoIn K c_NoDeed = some (b_NoDeed,(Str.ofString "NoDeed")))
    (be_NoDeed : b_NoDeed.contains (Value.type "BaseException") = true)
    (bo_NoDeed : b_NoDeed.contains (Value.type "object") = true)
    (ga_NoDeed : PySem.W.findIn K (.ref c_NoDeed) "__getattribute__" = some (some (.builtin "BaseException.__getattribute__")))
    (gn_NoDeed : PySem.W.findIn K (.ref c_NoDeed) "__getattr__" = some (none))
    (gc_NoDeed : PySem.W.findIn K (.ref c_NoDeed) "__class__" = some (some (.builtin "object.__class__")))
    (un_NoDeed : DL.unIn K "NoDeed" c_NoDeed = true)
    (o_NoLine : DL.xoIn K c_NoLine = some (b_NoLine,(Str.ofString "NoLine")))
    (be_NoLine : b_NoLine.contains (Value.type "BaseException") = true)
    (bo_NoLine : b_NoLine.contains (Value.type "object") = true)
    (ga_NoLine : PySem.W.findIn K (.ref c_NoLine) "__getattribute__" = some (some (.builtin "BaseException.__getattribute__")))
    (gn_NoLine : PySem.W.findIn K (.ref c_NoLine) "__getattr__" = some (none))
    (gc_NoLine : PySem.W.findIn K (.ref c_NoLine) "__class__" = some (some (.builtin "object.__class__")))
    (un_NoLine : DL.unIn K "NoLine" c_NoLine = true)
    (o_NoRow : DL.xoIn K c_NoRow = some (b_NoRow,(Str.ofString "NoRow")))
    (be_NoRow : b_NoRow.contains (Value.type "BaseException") = true)
    (bo_NoRow : b_NoRow.contains (Value.type "object") = true)
    (ga_NoRow : PySem.W.findIn K (.ref c_NoRow) "__getattribute__" = some (some (.builtin "BaseException.__getattribute__")))
    (gn_NoRow : PySem.W.findIn K (.ref c_NoRow) "__getattr__" = some (none))
    (gc_NoRow : PySem.W.findIn K (.ref c_NoRow) "__class__" = some (some (.builtin "object.__class__")))
    (un_NoRow : DL.unIn K "NoRow" c_NoRow = true)
    (o_NoOwn : DL.xoIn K c_NoOwn = some (b_NoOwn,(Str.ofString "NoOwn")))
    (be_NoOwn : b_NoOwn.contains (Value.type "BaseException") = true)
    (bo_NoOwn : b_NoOwn.contains (Value.type "object") = true)
    (ga_NoOwn : PySem.W.findIn K (.ref c_NoOwn) "__getattribute__" = some (some (.builtin "BaseException.__getattribute__")))
    (gn_NoOwn : PySem.W.findIn K (.ref c_NoOwn) "__getattr__" = some (none))
    (gc_NoOwn : PySem.W.findIn K (.ref c_NoOwn) "__class__" = some (some (.builtin "object.__class__")))
    (un_NoOwn : DL.unIn K "NoOwn" c_NoOwn = true)
    (o_NotOwned : DL.xoIn K c_NotOwned = some (b_NotOwned,(Str.ofString "NotOwned")))
    (be_NotOwned : b_NotOwned.contains (Value.type "BaseException") = true)
    (bo_NotOwned : b_NotOwned.contains (Value.type "object") = true)
    (ga_NotOwned : PySem.W.findIn K (.ref c_NotOwned) "__getattribute__" = some (some (.builtin "BaseException.__getattribute__")))
    (gn_NotOwned : PySem.W.findIn K (.ref c_NotOwned) "__getattr__" = some (none))
    (gc_NotOwned : PySem.W.findIn K (.ref c_NotOwned) "__class__" = some (some (.builtin "object.__class__")))
    (un_NotOwned : DL.unIn K "NotOwned" c_NotOwned = true)
    (o_NoOrder : DL.xoIn K c_NoOrder = some (b_NoOrder,(Str.ofString "NoOrder")))
    (be_NoOrder : b_NoOrder.contains (Value.type "BaseException") = true)
    (bo_NoOrder : b_NoOrder.contains (Value.type "object") = true)
    (ga_NoOrder : PySem.W.findIn K (.ref c_NoOrder) "__getattribute__" = some (some (.builtin "BaseException.__getattribute__")))
    (gn_NoOrder : PySem.W.findIn K (.ref c_NoOrder) "__getattr__" = some (none))
    (gc_NoOrder : PySem.W.findIn K (.ref c_NoOrder) "__class__" = some (some (.builtin "object.__class__")))
    (un_NoOrder : DL.unIn K "NoOrder" c_NoOrder = true)
    (o_NoText : DL.xoIn K c_NoText = some (b_NoText,(Str.ofString "NoText")))
    (be_NoText : b_NoText.contains (Value.type "BaseException") = true)
    (bo_NoText : b_NoText.contains (Value.type "object") = true)
    (ga_NoText : PySem.W.findIn K (.ref c_NoText) "__getattribute__" = some (some (.builtin "BaseException.__getattribute__")))
    (gn_NoText : PySem.W.findIn K (.ref c_NoText) "__getattr__" = some (none))
    (gc_NoText : PySem.W.findIn K (.ref c_NoText) "__class__" = some (some (.builtin "object.__class__")))
    (un_NoText : DL.unIn K "NoText" c_NoText = true)
    (o_NoTable : DL.xoIn K c_NoTable = some (b_NoTable,(Str.ofString "NoTable")))
    (be_NoTable : b_NoTable.contains (Value.type "BaseException") = true)
    (bo_NoTable : b_NoTable.contains (Value.type "object") = true)
    (ga_NoTable : PySem.W.findIn K (.ref c_NoTable) "__getattribute__" = some (some (.builtin "BaseException.__getattribute__")))
    (gn_NoTable : PySem.W.findIn K (.ref c_NoTable) "__getattr__" = some (none))
    (gc_NoTable : PySem.W.findIn K (.ref c_NoTable) "__class__" = some (some (.builtin "object.__class__")))
    (un_NoTable : DL.unIn K "NoTable" c_NoTable = true)
    (gg : PySem.W.specialIn K (.builtin "object.__class__") "__get__" = some (some (.builtin "getset_descriptor.__get__")))
    (gt : PySem.W.takesIn K (.builtin "object.__class__") = some true)
    (ns_NoOwn : DL.nsOf K c_NoOwn = some n_NoOwn)
    (z_NoOwn : DL.zkIn K c_NoOwn n_NoOwn = true)
    (g0_NoOwn : PySem.W.findIn K (.ref c_NoOwn) "__setattr__" = some (some (.builtin "object.__setattr__")))
    (g1_NoOwn : PySem.W.findIn K (.ref c_NoOwn) "hand" = some none)
    (sp_TradeError : PySem.W.specialIn K (.ref c_TradeError) "__getattribute__" = some (some (.builtin "type.__getattribute__")))
    (rd_TradeError : PySem.W.readsIn K c_TradeError (.type "type") = true)
    (fn_TradeError : PySem.W.findCls K (.ref c_TradeError) (.type "type") "__init__" = some (.val (.builtin "ValueError.__init__")))
    (i_NoOwn : PySem.W.nsIn K n_NoOwn "__init__" = some (some (.ref f_NoOwn)))
    (kp_NoOwn : PySem.W.keepIn K (.ref c_NoOwn) = true)
    (l_NoOwn : K.lookup f_NoOwn = some ⟨oc_NoOwn,od_NoOwn,.func (PySem.W.fnOf "__init__" "NoOwn.__init__" (L2.defArgs Law.zaZ) (L2.defBody Law.zaZ) (L2.defScope Law.zaZ) .none kV_NoOwn doc_NoOwn pm_NoOwn an_NoOwn cdv_NoOwn ct_NoOwn),osl_NoOwn⟩)
    (cd_NoOwn : PySem.W.codeIn K cdv_NoOwn "NoOwn.__init__" = true)
    (kk_NoOwn : PySem.W.keepIn K (.ref f_NoOwn) = true)
    (fc_NoOwn : PySem.W.typeIn K (.ref f_NoOwn) = some (.type "function"))
    (ns_NoRow : DL.nsOf K c_NoRow = some n_NoRow)
    (z_NoRow : DL.zkIn K c_NoRow n_NoRow = true)
    (g0_NoRow : PySem.W.findIn K (.ref c_NoRow) "__setattr__" = some (some (.builtin "object.__setattr__")))
    (g1_NoRow : PySem.W.findIn K (.ref c_NoRow) "hand" = some none)
    (i_NoRow : PySem.W.nsIn K n_NoRow "__init__" = some (some (.ref f_NoRow)))
    (kp_NoRow : PySem.W.keepIn K (.ref c_NoRow) = true)
    (l_NoRow : K.lookup f_NoRow = some ⟨oc_NoRow,od_NoRow,.func (PySem.W.fnOf "__init__" "NoRow.__init__" (L2.defArgs Law.zaY) (L2.defBody Law.zaY) (L2.defScope Law.zaY) .none kV_NoRow doc_NoRow pm_NoRow an_NoRow cdv_NoRow ct_NoRow),osl_NoRow⟩)
    (cd_NoRow : PySem.W.codeIn K cdv_NoRow "NoRow.__init__" = true)
    (kk_NoRow : PySem.W.keepIn K (.ref f_NoRow) = true)
    (fc_NoRow : PySem.W.typeIn K (.ref f_NoRow) = some (.type "function"))
    (e_NoLine : PySem.W.excIn K c_NoLine DL.vErr "ValueError.__new__" = true)
    (e_NoDeed : PySem.W.excIn K c_NoDeed DL.vErr "ValueError.__new__" = true)
    (e_NoFraction : PySem.W.excIn K c_NoFraction DL.vErr "ValueError.__new__" = true)
    (e_NotSquare : PySem.W.excIn K c_NotSquare DL.vErr "ValueError.__new__" = true)
    (e_TooMany : PySem.W.excIn K c_TooMany DL.vErr "ValueError.__new__" = true)
    (ns_NoTable : DL.nsOf K c_NoTable = some n_NoTable)
    (z_NoTable : DL.zkIn K c_NoTable n_NoTable = true)
    (g0_NoTable : PySem.W.findIn K (.ref c_NoTable) "__setattr__" = some (some (.builtin "object.__setattr__")))
    (g1_NoTable : PySem.W.findIn K (.ref c_NoTable) "why" = some none)
    (i_NoTable : PySem.W.nsIn K n_NoTable "__init__" = some (some (.ref f_NoTable)))
    (kp_NoTable : PySem.W.keepIn K (.ref c_NoTable) = true)
    (l_NoTable : K.lookup f_NoTable = some ⟨oc_NoTable,od_NoTable,.func (PySem.W.fnOf "__init__" "NoTable.__init__" (L2.defArgs Law.zaC) (L2.defBody Law.zaC) (L2.defScope Law.zaC) .none kV_NoTable doc_NoTable pm_NoTable an_NoTable cdv_NoTable ct_NoTable),osl_NoTable⟩)
    (cd_NoTable : PySem.W.codeIn K cdv_NoTable "NoTable.__init__" = true)
    (kk_NoTable : PySem.W.keepIn K (.ref f_NoTable) = true)
    (fc_NoTable : PySem.W.typeIn K (.ref f_NoTable) = some (.type "function"))
    (ns_NoText : DL.nsOf K c_NoText = some n_NoText)
    (z_NoText : DL.zkIn K c_NoText n_NoText = true)
    (g0_NoText : PySem.W.findIn K (.ref c_NoText) "__setattr__" = some (some (.builtin "object.__setattr__")))
    (g1_NoText : PySem.W.findIn K (.ref c_NoText) "at" = some none)
    (i_NoText : PySem.W.nsIn K n_NoText "__init__" = some (some (.ref f_NoText)))
    (kp_NoText : PySem.W.keepIn K (.ref c_NoText) = true)
    (l_NoText : K.lookup f_NoText = some ⟨oc_NoText,od_NoText,.func (PySem.W.fnOf "__init__" "NoText.__init__" (L2.defArgs Law.zaN) (L2.defBody Law.zaN) (L2.defScope Law.zaN) .none kV_NoText doc_NoText pm_NoText an_NoText cdv_NoText ct_NoText),osl_NoText⟩)
    (cd_NoText : PySem.W.codeIn K cdv_NoText "NoText.__init__" = true)
    (kk_NoText : PySem.W.keepIn K (.ref f_NoText) = true)
    (fc_NoText : PySem.W.typeIn K (.ref f_NoText) = some (.type "function"))
    (ns_NoOrder : DL.nsOf K c_NoOrder = some n_NoOrder)
    (z_NoOrder : DL.zkIn K c_NoOrder n_NoOrder = true)
    (g0_NoOrder : PySem.W.findIn K (.ref c_NoOrder) "__setattr__" = some (some (.builtin "object.__setattr__")))
    (g1_NoOrder : PySem.W.findIn K (.ref c_NoOrder) "at" = some none)
    (i_NoOrder : PySem.W.nsIn K n_NoOrder "__init__" = some (some (.ref f_NoOrder)))
    (kp_NoOrder : PySem.W.keepIn K (.ref c_NoOrder) = true)
    (l_NoOrder : K.lookup f_NoOrder = some ⟨oc_NoOrder,od_NoOrder,.func (PySem.W.fnOf "__init__" "NoOrder.__init__" (L2.defArgs Law.zaD) (L2.defBody Law.zaD) (L2.defScope Law.zaD) .none kV_NoOrder doc_NoOrder pm_NoOrder an_NoOrder cdv_NoOrder ct_NoOrder),osl_NoOrder⟩)
    (cd_NoOrder : PySem.W.codeIn K cdv_NoOrder "NoOrder.__init__" = true)
    (kk_NoOrder : PySem.W.keepIn K (.ref f_NoOrder) = true)
    (fc_NoOrder : PySem.W.typeIn K (.ref f_NoOrder) = some (.type "function"))
    (ns_NotOwned : DL.nsOf K c_NotOwned = some n_NotOwned)
    (z_NotOwned : DL.zkIn K c_NotOwned n_NotOwned = true)
    (g0_NotOwned : PySem.W.findIn K (.ref c_NotOwned) "__setattr__" = some (some (.builtin "object.__setattr__")))
    (g1_NotOwned : PySem.W.findIn K (.ref c_NotOwned) "hand" = some none)
    (i_NotOwned : PySem.W.nsIn K n_NotOwned "__init__" = some (some (.ref f_NotOwned)))
    (kp_NotOwned : PySem.W.keepIn K (.ref c_NotOwned) = true)
    (l_NotOwned : K.lookup f_NotOwned = some ⟨oc_NotOwned,od_NotOwned,.func (PySem.W.fnOf "__init__" "NotOwned.__init__" (L2.defArgs Law.zax) (L2.defBody Law.zax) (L2.defScope Law.zax) .none kV_NotOwned doc_NotOwned pm_NotOwned an_NotOwned cdv_NotOwned ct_NotOwned),osl_NotOwned⟩)
    (cd_NotOwned : PySem.W.codeIn K cdv_NotOwned "NotOwned.__init__" = true)
    (kk_NotOwned : PySem.W.keepIn K (.ref f_NotOwned) = true)
    (fc_NotOwned : PySem.W.typeIn K (.ref f_NotOwned) = some (.type "function"))
    (nn_NoDeed : PySem.W.kitOne K (.type "NoneType") (.ref c_NoDeed) = some false)
    (k_NoDeed_TradeError : PySem.W.kitOne K (.ref c_TradeError) (.ref c_NoDeed) = Law.za5 "TradeError")
    (k_NoDeed_TooMany : PySem.W.kitOne K (.ref c_TooMany) (.ref c_NoDeed) = Law.za5 "TooMany")
    (k_NoDeed_NotSquare : PySem.W.kitOne K (.ref c_NotSquare) (.ref c_NoDeed) = Law.za5 "NotSquare")
    (k_NoDeed_NoFraction : PySem.W.kitOne K (.ref c_NoFraction) (.ref c_NoDeed) = Law.za5 "NoFraction")
    (k_NoDeed_NoDeed : PySem.W.kitOne K (.ref c_NoDeed) (.ref c_NoDeed) = Law.za5 "NoDeed")
    (k_NoDeed_NoLine : PySem.W.kitOne K (.ref c_NoLine) (.ref c_NoDeed) = Law.za5 "NoLine")
    (k_NoDeed_NoRow : PySem.W.kitOne K (.ref c_NoRow) (.ref c_NoDeed) = Law.za5 "NoRow")
    (k_NoDeed_NoOwn : PySem.W.kitOne K (.ref c_NoOwn) (.ref c_NoDeed) = Law.za5 "NoOwn")
    (k_NoDeed_NotOwned : PySem.W.kitOne K (.ref c_NotOwned) (.ref c_NoDeed) = Law.za5 "NotOwned")
    (k_NoDeed_NoOrder : PySem.W.kitOne K (.ref c_NoOrder) (.ref c_NoDeed) = Law.za5 "NoOrder")
    (k_NoDeed_NoText : PySem.W.kitOne K (.ref c_NoText) (.ref c_NoDeed) = Law.za5 "NoText")
    (k_NoDeed_NoTable : PySem.W.kitOne K (.ref c_NoTable) (.ref c_NoDeed) = Law.za5 "NoTable")
    (nn_NoFraction : PySem.W.kitOne K (.type "NoneType") (.ref c_NoFraction) = some false)
    (k_NoFraction_TradeError : PySem.W.kitOne K (.ref c_TradeError) (.ref c_NoFraction) = Law.zaw "TradeError")
    (k_NoFraction_TooMany : PySem.W.kitOne K (.ref c_TooMany) (.ref c_NoFraction) = Law.zaw "TooMany")
    (k_NoFraction_NotSquare : PySem.W.kitOne K (.ref c_NotSquare) (.ref c_NoFraction) = Law.zaw "NotSquare")
    (k_NoFraction_NoFraction : PySem.W.kitOne K (.ref c_NoFraction) (.ref c_NoFraction) = Law.zaw "NoFraction")
    (k_NoFraction_NoDeed : PySem.W.kitOne K (.ref c_NoDeed) (.ref c_NoFraction) = Law.zaw "NoDeed")
    (k_NoFraction_NoLine : PySem.W.kitOne K (.ref c_NoLine) (.ref c_NoFraction) = Law.zaw "NoLine")
    (k_NoFraction_NoRow : PySem.W.kitOne K (.ref c_NoRow) (.ref c_NoFraction) = Law.zaw "NoRow")
    (k_NoFraction_NoOwn : PySem.W.kitOne K (.ref c_NoOwn) (.ref c_NoFraction) = Law.zaw "NoOwn")
    (k_NoFraction_NotOwned : PySem.W.kitOne K (.ref c_NotOwned) (.ref c_NoFraction) = Law.zaw "NotOwned")
    (k_NoFraction_NoOrder : PySem.W.kitOne K (.ref c_NoOrder) (.ref c_NoFraction) = Law.zaw "NoOrder")
    (k_NoFraction_NoText : PySem.W.kitOne K (.ref c_NoText) (.ref c_NoFraction) = Law.zaw "NoText")
    (k_NoFraction_NoTable : PySem.W.kitOne K (.ref c_NoTable) (.ref c_NoFraction) = Law.zaw "NoTable")
    (nn_NotSquare : PySem.W.kitOne K (.type "NoneType") (.ref c_NotSquare) = some false)
    (k_NotSquare_TradeError : PySem.W.kitOne K (.ref c_TradeError) (.ref c_NotSquare) = Law.zaA "TradeError")
    (k_NotSquare_TooMany : PySem.W.kitOne K (.ref c_TooMany) (.ref c_NotSquare) = Law.zaA "TooMany")
    (k_NotSquare_NotSquare : PySem.W.kitOne K (.ref c_NotSquare) (.ref c_NotSquare) = Law.zaA "NotSquare")
    (k_NotSquare_NoFraction : PySem.W.kitOne K (.ref c_NoFraction) (.ref c_NotSquare) = Law.zaA "NoFraction")
    (k_NotSquare_NoDeed : PySem.W.kitOne K (.ref c_NoDeed) (.ref c_NotSquare) = Law.zaA "NoDeed")
    (k_NotSquare_NoLine : PySem.W.kitOne K (.ref c_NoLine) (.ref c_NotSquare) = Law.zaA "NoLine")
    (k_NotSquare_NoRow : PySem.W.kitOne K (.ref c_NoRow) (.ref c_NotSquare) = Law.zaA "NoRow")
    (k_NotSquare_NoOwn : PySem.W.kitOne K (.ref c_NoOwn) (.ref c_NotSquare) = Law.zaA "NoOwn")
    (k_NotSquare_NotOwned : PySem.W.kitOne K (.ref c_NotOwned) (.ref c_NotSquare) = Law.zaA "NotOwned")
    (k_NotSquare_NoOrder : PySem.W.kitOne K (.ref c_NoOrder) (.ref c_NotSquare) = Law.zaA "NoOrder")
    (k_NotSquare_NoText : PySem.W.kitOne K (.ref c_NoText) (.ref c_NotSquare) = Law.zaA "NoText")
    (k_NotSquare_NoTable : PySem.W.kitOne K (.ref c_NoTable) (.ref c_NotSquare) = Law.zaA "NoTable")
    (nn_TooMany : PySem.W.kitOne K (.type "NoneType") (.ref c_TooMany) = some false)
    (k_TooMany_TradeError : PySem.W.kitOne K (.ref c_TradeError) (.ref c_TooMany) = Law.zaR "TradeError")
    (k_TooMany_TooMany : PySem.W.kitOne K (.ref c_TooMany) (.ref c_TooMany) = Law.zaR "TooMany")
    (k_TooMany_NotSquare : PySem.W.kitOne K (.ref c_NotSquare) (.ref c_TooMany) = Law.zaR "NotSquare")
    (k_TooMany_NoFraction : PySem.W.kitOne K (.ref c_NoFraction) (.ref c_TooMany) = Law.zaR "NoFraction")
    (k_TooMany_NoDeed : PySem.W.kitOne K (.ref c_NoDeed) (.ref c_TooMany) = Law.zaR "NoDeed")
    (k_TooMany_NoLine : PySem.W.kitOne K (.ref c_NoLine) (.ref c_TooMany) = Law.zaR "NoLine")
    (k_TooMany_NoRow : PySem.W.kitOne K (.ref c_NoRow) (.ref c_TooMany) = Law.zaR "NoRow")
    (k_TooMany_NoOwn : PySem.W.kitOne K (.ref c_NoOwn) (.ref c_TooMany) = Law.zaR "NoOwn")
    (k_TooMany_NotOwned : PySem.W.kitOne K (.ref c_NotOwned) (.ref c_TooMany) = Law.zaR "NotOwned")
    (k_TooMany_NoOrder : PySem.W.kitOne K (.ref c_NoOrder) (.ref c_TooMany) = Law.zaR "NoOrder")
    (k_TooMany_NoText : PySem.W.kitOne K (.ref c_NoText) (.ref c_TooMany) = Law.zaR "NoText")
    (k_TooMany_NoTable : PySem.W.kitOne K (.ref c_NoTable) (.ref c_TooMany) = Law.zaR "NoTable")
    (nn_NotOwned : PySem.W.kitOne K (.type "NoneType") (.ref c_NotOwned) = some false)
    (k_NotOwned_TradeError : PySem.W.kitOne K (.ref c_TradeError) (.ref c_NotOwned) = Law.zaG "TradeError")
    (k_NotOwned_TooMany : PySem.W.kitOne K (.ref c_TooMany) (.ref c_NotOwned) = Law.zaG "TooMany")
    (k_NotOwned_NotSquare : PySem.W.kitOne K (.ref c_NotSquare) (.ref c_NotOwned) = Law.zaG "NotSquare")
    (k_NotOwned_NoFraction : PySem.W.kitOne K (.ref c_NoFraction) (.ref c_NotOwned) = Law.zaG "NoFraction")
    (k_NotOwned_NoDeed : PySem.W.kitOne K (.ref c_NoDeed) (.ref c_NotOwned) = Law.zaG "NoDeed")
    (k_NotOwned_NoLine : PySem.W.kitOne K (.ref c_NoLine) (.ref c_NotOwned) = Law.zaG "NoLine")
    (k_NotOwned_NoRow : PySem.W.kitOne K (.ref c_NoRow) (.ref c_NotOwned) = Law.zaG "NoRow")
    (k_NotOwned_NoOwn : PySem.W.kitOne K (.ref c_NoOwn) (.ref c_NotOwned) = Law.zaG "NoOwn")
    (k_NotOwned_NotOwned : PySem.W.kitOne K (.ref c_NotOwned) (.ref c_NotOwned) = Law.zaG "NotOwned")
    (k_NotOwned_NoOrder : PySem.W.kitOne K (.ref c_NoOrder) (.ref c_NotOwned) = Law.zaG "NoOrder")
    (k_NotOwned_NoText : PySem.W.kitOne K (.ref c_NoText) (.ref c_NotOwned) = Law.zaG "NoText")
    (k_NotOwned_NoTable : PySem.W.kitOne K (.ref c_NoTable) (.ref c_NotOwned) = Law.zaG "NoTable")
    (nn_NoOwn : PySem.W.kitOne K (.type "NoneType") (.ref c_NoOwn) = some false)
    (k_NoOwn_TradeError : PySem.W.kitOne K (.ref c_TradeError) (.ref c_NoOwn) = Law.zbe "TradeError")
    (k_NoOwn_TooMany : PySem.W.kitOne K (.ref c_TooMany) (.ref c_NoOwn) = Law.zbe "TooMany")
    (k_NoOwn_NotSquare : PySem.W.kitOne K (.ref c_NotSquare) (.ref c_NoOwn) = Law.zbe "NotSquare")
    (k_NoOwn_NoFraction : PySem.W.kitOne K (.ref c_NoFraction) (.ref c_NoOwn) = Law.zbe "NoFraction")
    (k_NoOwn_NoDeed : PySem.W.kitOne K (.ref c_NoDeed) (.ref c_NoOwn) = Law.zbe "NoDeed")
    (k_NoOwn_NoLine : PySem.W.kitOne K (.ref c_NoLine) (.ref c_NoOwn) = Law.zbe "NoLine")
    (k_NoOwn_NoRow : PySem.W.kitOne K (.ref c_NoRow) (.ref c_NoOwn) = Law.zbe "NoRow")
    (k_NoOwn_NoOwn : PySem.W.kitOne K (.ref c_NoOwn) (.ref c_NoOwn) = Law.zbe "NoOwn")
    (k_NoOwn_NotOwned : PySem.W.kitOne K (.ref c_NotOwned) (.ref c_NoOwn) = Law.zbe "NotOwned")
    (k_NoOwn_NoOrder : PySem.W.kitOne K (.ref c_NoOrder) (.ref c_NoOwn) = Law.zbe "NoOrder")
    (k_NoOwn_NoText : PySem.W.kitOne K (.ref c_NoText) (.ref c_NoOwn) = Law.zbe "NoText")
    (k_NoOwn_NoTable : PySem.W.kitOne K (.ref c_NoTable) (.ref c_NoOwn) = Law.zbe "NoTable")
    (nn_NoRow : PySem.W.kitOne K (.type "NoneType") (.ref c_NoRow) = some false)
    (k_NoRow_TradeError : PySem.W.kitOne K (.ref c_TradeError) (.ref c_NoRow) = Law.zbd "TradeError")
    (k_NoRow_TooMany : PySem.W.kitOne K (.ref c_TooMany) (.ref c_NoRow) = Law.zbd "TooMany")
    (k_NoRow_NotSquare : PySem.W.kitOne K (.ref c_NotSquare) (.ref c_NoRow) = Law.zbd "NotSquare")
    (k_NoRow_NoFraction : PySem.W.kitOne K (.ref c_NoFraction) (.ref c_NoRow) = Law.zbd "NoFraction")
    (k_NoRow_NoDeed : PySem.W.kitOne K (.ref c_NoDeed) (.ref c_NoRow) = Law.zbd "NoDeed")
    (k_NoRow_NoLine : PySem.W.kitOne K (.ref c_NoLine) (.ref c_NoRow) = Law.zbd "NoLine")
    (k_NoRow_NoRow : PySem.W.kitOne K (.ref c_NoRow) (.ref c_NoRow) = Law.zbd "NoRow")
    (k_NoRow_NoOwn : PySem.W.kitOne K (.ref c_NoOwn) (.ref c_NoRow) = Law.zbd "NoOwn")
    (k_NoRow_NotOwned : PySem.W.kitOne K (.ref c_NotOwned) (.ref c_NoRow) = Law.zbd "NotOwned")
    (k_NoRow_NoOrder : PySem.W.kitOne K (.ref c_NoOrder) (.ref c_NoRow) = Law.zbd "NoOrder")
    (k_NoRow_NoText : PySem.W.kitOne K (.ref c_NoText) (.ref c_NoRow) = Law.zbd "NoText")
    (k_NoRow_NoTable : PySem.W.kitOne K (.ref c_NoTable) (.ref c_NoRow) = Law.zbd "NoTable")
    (nn_NoLine : PySem.W.kitOne K (.type "NoneType") (.ref c_NoLine) = some false)
    (k_NoLine_TradeError : PySem.W.kitOne K (.ref c_TradeError) (.ref c_NoLine) = Law.za4 "TradeError")
    (k_NoLine_TooMany : PySem.W.kitOne K (.ref c_TooMany) (.ref c_NoLine) = Law.za4 "TooMany")
    (k_NoLine_NotSquare : PySem.W.kitOne K (.ref c_NotSquare) (.ref c_NoLine) = Law.za4 "NotSquare")
    (k_NoLine_NoFraction : PySem.W.kitOne K (.ref c_NoFraction) (.ref c_NoLine) = Law.za4 "NoFraction")
    (k_NoLine_NoDeed : PySem.W.kitOne K (.ref c_NoDeed) (.ref c_NoLine) = Law.za4 "NoDeed")
    (k_NoLine_NoLine : PySem.W.kitOne K (.ref c_NoLine) (.ref c_NoLine) = Law.za4 "NoLine")
    (k_NoLine_NoRow : PySem.W.kitOne K (.ref c_NoRow) (.ref c_NoLine) = Law.za4 "NoRow")
    (k_NoLine_NoOwn : PySem.W.kitOne K (.ref c_NoOwn) (.ref c_NoLine) = Law.za4 "NoOwn")
    (k_NoLine_NotOwned : PySem.W.kitOne K (.ref c_NotOwned) (.ref c_NoLine) = Law.za4 "NotOwned")
    (k_NoLine_NoOrder : PySem.W.kitOne K (.ref c_NoOrder) (.ref c_NoLine) = Law.za4 "NoOrder")
    (k_NoLine_NoText : PySem.W.kitOne K (.ref c_NoText) (.ref c_NoLine) = Law.za4 "NoText")
    (k_NoLine_NoTable : PySem.W.kitOne K (.ref c_NoTable) (.ref c_NoLine) = Law.za4 "NoTable")
    (nn_NoTable : PySem.W.kitOne K (.type "NoneType") (.ref c_NoTable) = some false)
    (k_NoTable_TradeError : PySem.W.kitOne K (.ref c_TradeError) (.ref c_NoTable) = Law.zaS "TradeError")
    (k_NoTable_TooMany : PySem.W.kitOne K (.ref c_TooMany) (.ref c_NoTable) = Law.zaS "TooMany")
    (k_NoTable_NotSquare : PySem.W.kitOne K (.ref c_NotSquare) (.ref c_NoTable) = Law.zaS "NotSquare")
    (k_NoTable_NoFraction : PySem.W.kitOne K (.ref c_NoFraction) (.ref c_NoTable) = Law.zaS "NoFraction")
    (k_NoTable_NoDeed : PySem.W.kitOne K (.ref c_NoDeed) (.ref c_NoTable) = Law.zaS "NoDeed")
    (k_NoTable_NoLine : PySem.W.kitOne K (.ref c_NoLine) (.ref c_NoTable) = Law.zaS "NoLine")
    (k_NoTable_NoRow : PySem.W.kitOne K (.ref c_NoRow) (.ref c_NoTable) = Law.zaS "NoRow")
    (k_NoTable_NoOwn : PySem.W.kitOne K (.ref c_NoOwn) (.ref c_NoTable) = Law.zaS "NoOwn")
    (k_NoTable_NotOwned : PySem.W.kitOne K (.ref c_NotOwned) (.ref c_NoTable) = Law.zaS "NotOwned")
    (k_NoTable_NoOrder : PySem.W.kitOne K (.ref c_NoOrder) (.ref c_NoTable) = Law.zaS "NoOrder")
    (k_NoTable_NoText : PySem.W.kitOne K (.ref c_NoText) (.ref c_NoTable) = Law.zaS "NoText")
    (k_NoTable_NoTable : PySem.W.kitOne K (.ref c_NoTable) (.ref c_NoTable) = Law.zaS "NoTable")
    (nn_NoText : PySem.W.kitOne K (.type "NoneType") (.ref c_NoText) = some false)
    (k_NoText_TradeError : PySem.W.kitOne K (.ref c_TradeError) (.ref c_NoText) = Law.za3 "TradeError")
    (k_NoText_TooMany : PySem.W.kitOne K (.ref c_TooMany) (.ref c_NoText) = Law.za3 "TooMany")
    (k_NoText_NotSquare : PySem.W.kitOne K (.ref c_NotSquare) (.ref c_NoText) = Law.za3 "NotSquare")
    (k_NoText_NoFraction : PySem.W.kitOne K (.ref c_NoFraction) (.ref c_NoText) = Law.za3 "NoFraction")
    (k_NoText_NoDeed : PySem.W.kitOne K (.ref c_NoDeed) (.ref c_NoText) = Law.za3 "NoDeed")
    (k_NoText_NoLine : PySem.W.kitOne K (.ref c_NoLine) (.ref c_NoText) = Law.za3 "NoLine")
    (k_NoText_NoRow : PySem.W.kitOne K (.ref c_NoRow) (.ref c_NoText) = Law.za3 "NoRow")
    (k_NoText_NoOwn : PySem.W.kitOne K (.ref c_NoOwn) (.ref c_NoText) = Law.za3 "NoOwn")
    (k_NoText_NotOwned : PySem.W.kitOne K (.ref c_NotOwned) (.ref c_NoText) = Law.za3 "NotOwned")
    (k_NoText_NoOrder : PySem.W.kitOne K (.ref c_NoOrder) (.ref c_NoText) = Law.za3 "NoOrder")
    (k_NoText_NoText : PySem.W.kitOne K (.ref c_NoText) (.ref c_NoText) = Law.za3 "NoText")
    (k_NoText_NoTable : PySem.W.kitOne K (.ref c_NoTable) (.ref c_NoText) = Law.za3 "NoTable")
    (nn_NoOrder : PySem.W.kitOne K (.type "NoneType") (.ref c_NoOrder) = some false)
    (k_NoOrder_TradeError : PySem.W.kitOne K (.ref c_TradeError) (.ref c_NoOrder) = Law.zaT "TradeError")
    (k_NoOrder_TooMany : PySem.W.kitOne K (.ref c_TooMany) (.ref c_NoOrder) = Law.zaT "TooMany")
    (k_NoOrder_NotSquare : PySem.W.kitOne K (.ref c_NotSquare) (.ref c_NoOrder) = Law.zaT "NotSquare")
    (k_NoOrder_NoFraction : PySem.W.kitOne K (.ref c_NoFraction) (.ref c_NoOrder) = Law.zaT "NoFraction")
    (k_NoOrder_NoDeed : PySem.W.kitOne K (.ref c_NoDeed) (.ref c_NoOrder) = Law.zaT "NoDeed")
    (k_NoOrder_NoLine : PySem.W.kitOne K (.ref c_NoLine) (.ref c_NoOrder) = Law.zaT "NoLine")
    (k_NoOrder_NoRow : PySem.W.kitOne K (.ref c_NoRow) (.ref c_NoOrder) = Law.zaT "NoRow")
    (k_NoOrder_NoOwn : PySem.W.kitOne K (.ref c_NoOwn) (.ref c_NoOrder) = Law.zaT "NoOwn")
    (k_NoOrder_NotOwned : PySem.W.kitOne K (.ref c_NotOwned) (.ref c_NoOrder) = Law.zaT "NotOwned")
    (k_NoOrder_NoOrder : PySem.W.kitOne K (.ref c_NoOrder) (.ref c_NoOrder) = Law.zaT "NoOrder")
    (k_NoOrder_NoText : PySem.W.kitOne K (.ref c_NoText) (.ref c_NoOrder) = Law.zaT "NoText")
    (k_NoOrder_NoTable : PySem.W.kitOne K (.ref c_NoTable) (.ref c_NoOrder) = Law.zaT "NoTable")
    (nn_ValueError : PySem.W.kitOne K (.type "NoneType") (.type "ValueError") = some false)
    (k_ValueError_TradeError : PySem.W.kitOne K (.ref c_TradeError) (.type "ValueError") = Law.zau "TradeError")
    (k_ValueError_TooMany : PySem.W.kitOne K (.ref c_TooMany) (.type "ValueError") = Law.zau "TooMany")
    (k_ValueError_NotSquare : PySem.W.kitOne K (.ref c_NotSquare) (.type "ValueError") = Law.zau "NotSquare")
    (k_ValueError_NoFraction : PySem.W.kitOne K (.ref c_NoFraction) (.type "ValueError") = Law.zau "NoFraction")
    (k_ValueError_NoDeed : PySem.W.kitOne K (.ref c_NoDeed) (.type "ValueError") = Law.zau "NoDeed")
    (k_ValueError_NoLine : PySem.W.kitOne K (.ref c_NoLine) (.type "ValueError") = Law.zau "NoLine")
    (k_ValueError_NoRow : PySem.W.kitOne K (.ref c_NoRow) (.type "ValueError") = Law.zau "NoRow")
    (k_ValueError_NoOwn : PySem.W.kitOne K (.ref c_NoOwn) (.type "ValueError") = Law.zau "NoOwn")
    (k_ValueError_NotOwned : PySem.W.kitOne K (.ref c_NotOwned) (.type "ValueError") = Law.zau "NotOwned")
    (k_ValueError_NoOrder : PySem.W.kitOne K (.ref c_NoOrder) (.type "ValueError") = Law.zau "NoOrder")
    (k_ValueError_NoText : PySem.W.kitOne K (.ref c_NoText) (.type "ValueError") = Law.zau "NoText")
    (k_ValueError_NoTable : PySem.W.kitOne K (.ref c_NoTable) (.type "ValueError") = Law.zau "NoTable")
    (nn_TradeError : PySem.W.kitOne K (.type "NoneType") (.ref c_TradeError) = some false)
    (k_TradeError_TradeError : PySem.W.kitOne K (.ref c_TradeError) (.ref c_TradeError) = Law.zav "TradeError")
    (k_TradeError_TooMany : PySem.W.kitOne K (.ref c_TooMany) (.ref c_TradeError) = Law.zav "TooMany")
    (k_TradeError_NotSquare : PySem.W.kitOne K (.ref c_NotSquare) (.ref c_TradeError) = Law.zav "NotSquare")
    (k_TradeError_NoFraction : PySem.W.kitOne K (.ref c_NoFraction) (.ref c_TradeError) = Law.zav "NoFraction")
    (k_TradeError_NoDeed : PySem.W.kitOne K (.ref c_NoDeed) (.ref c_TradeError) = Law.zav "NoDeed")
    (k_TradeError_NoLine : PySem.W.kitOne K (.ref c_NoLine) (.ref c_TradeError) = Law.zav "NoLine")
    (k_TradeError_NoRow : PySem.W.kitOne K (.ref c_NoRow) (.ref c_TradeError) = Law.zav "NoRow")
    (k_TradeError_NoOwn : PySem.W.kitOne K (.ref c_NoOwn) (.ref c_TradeError) = Law.zav "NoOwn")
    (k_TradeError_NotOwned : PySem.W.kitOne K (.ref c_NotOwned) (.ref c_TradeError) = Law.zav "NotOwned")
    (k_TradeError_NoOrder : PySem.W.kitOne K (.ref c_NoOrder) (.ref c_TradeError) = Law.zav "NoOrder")
    (k_TradeError_NoText : PySem.W.kitOne K (.ref c_NoText) (.ref c_TradeError) = Law.zav "NoText")
    (k_TradeError_NoTable : PySem.W.kitOne K (.ref c_NoTable) (.ref c_TradeError) = Law.zav "NoTable") : ∃ (C_TradeError : Addr) (C_TooMany : Addr) (C_NotSquare : Addr) (C_NoFraction : Addr) (C_NoDeed : Addr) (C_NoLine : Addr) (C_NoRow : Addr) (C_NoOwn : Addr) (C_NotOwned : Addr) (C_NoOrder : Addr) (C_NoText : Addr) (C_NoTable : Addr) (bm_TradeError : List Value) (bm_TooMany : List Value) (bm_NotSquare : List Value) (bm_NoFraction : List Value) (bm_NoDeed : List Value) (bm_NoLine : List Value) (bm_NoRow : List Value) (bm_NoOwn : List Value) (bm_NotOwned : List Value) (bm_NoOrder : List Value) (bm_NoText : List Value) (bm_NoTable : List Value),(∀ base,XCI P w K mg base "NoOwn" C_NoOwn "hand")∧(XN K "NoOwn" C_NoOwn)∧(∀ base,XCI P w K mg base "NoRow" C_NoRow "hand")∧(XN K "NoRow" C_NoRow)∧(XC K mg "NoLine" C_NoLine)∧(XN K "NoLine" C_NoLine)∧(XC K mg "NoDeed" C_NoDeed)∧(XN K "NoDeed" C_NoDeed)∧(XC K mg "NoFraction" C_NoFraction)∧(XN K "NoFraction" C_NoFraction)∧(XC K mg "NotSquare" C_NotSquare)∧(XN K "NotSquare" C_NotSquare)∧(XC K mg "TooMany" C_TooMany)∧(XN K "TooMany" C_TooMany)∧(∀ base,XCG P w K mg base "NoTable" C_NoTable "why" (spT K C_NoTable "why"))∧(XN K "NoTable" C_NoTable)∧(∀ base,XCI P w K mg base "NoText" C_NoText "at")∧(XN K "NoText" C_NoText)∧(∀ base,XCI P w K mg base "NoOrder" C_NoOrder "at")∧(XN K "NoOrder" C_NoOrder)∧(∀ base,XCI P w K mg base "NotOwned" C_NotOwned "hand")∧(XN K "NotOwned" C_NotOwned)∧(zcm K "hand" zaJ)∧(zcm K "why" zbZ)∧(zcm K "at" zbR)∧(mg "NoDeed" = some (.ref C_NoDeed))∧(IsxOk K (.ref C_NoDeed) za5)∧(mg "NoFraction" = some (.ref C_NoFraction))∧(IsxOk K (.ref C_NoFraction) zaw)∧(mg "NotSquare" = some (.ref C_NotSquare))∧(IsxOk K (.ref C_NotSquare) zaA)∧(mg "TooMany" = some (.ref C_TooMany))∧(IsxOk K (.ref C_TooMany) zaR)∧(mg "NotOwned" = some (.ref C_NotOwned))∧(IsxOk K (.ref C_NotOwned) zaG)∧(mg "NoOwn" = some (.ref C_NoOwn))∧(IsxOk K (.ref C_NoOwn) zbe)∧(mg "NoRow" = some (.ref C_NoRow))∧(IsxOk K (.ref C_NoRow) zbd)∧(mg "NoLine" = some (.ref C_NoLine))∧(IsxOk K (.ref C_NoLine) za4)∧(mg "NoTable" = some (.ref C_NoTable))∧(IsxOk K (.ref C_NoTable) zaS)∧(mg "NoText" = some (.ref C_NoText))∧(IsxOk K (.ref C_NoText) za3)∧(mg "NoOrder" = some (.ref C_NoOrder))∧(IsxOk K (.ref C_NoOrder) zaT)∧(IsxOk K (.type "ValueError") zau)∧(mg "TradeError" = some (.ref C_TradeError))∧(IsxOk K (.ref C_TradeError) zav) :=
  ⟨c_TradeError,c_TooMany,c_NotSquare,c_NoFraction,c_NoDeed,c_NoLine,c_NoRow,c_NoOwn,c_NotOwned,c_NoOrder,c_NoText,c_NoTable,b_TradeError,b_TooMany,b_NotSquare,b_NoFraction,b_NoDeed,b_NoLine,b_NoRow,b_NoOwn,b_NotOwned,b_NoOrder,b_NoText,b_NoTable,DL.zit KX G a_NoOwn kp_NoOwn z_NoOwn o_NoOwn (DL.ziA z_NoOwn o_NoOwn g0_NoOwn g1_NoOwn) i_NoOwn (L2.fun_mk l_NoOwn cd_NoOwn kk_NoOwn) fc_NoOwn Law.zhC (Law.zhf (L2.fun_mk l_NoOwn cd_NoOwn kk_NoOwn) (DL.ziA z_NoOwn o_NoOwn g0_NoOwn g1_NoOwn) (PySem.W.mg_of KX G a_TradeError) ⟨sp_TradeError,rd_TradeError,fn_TradeError⟩),
    (DL.ziD o_NoOwn be_NoOwn bo_NoOwn ga_NoOwn gn_NoOwn gc_NoOwn gg gt un_NoOwn).xn,
    DL.zit KX G a_NoRow kp_NoRow z_NoRow o_NoRow (DL.ziA z_NoRow o_NoRow g0_NoRow g1_NoRow) i_NoRow (L2.fun_mk l_NoRow cd_NoRow kk_NoRow) fc_NoRow Law.zhB (Law.zhe (L2.fun_mk l_NoRow cd_NoRow kk_NoRow) (DL.ziA z_NoRow o_NoRow g0_NoRow g1_NoRow) (PySem.W.mg_of KX G a_TradeError) ⟨sp_TradeError,rd_TradeError,fn_TradeError⟩),
    (DL.ziD o_NoRow be_NoRow bo_NoRow ga_NoRow gn_NoRow gc_NoRow gg gt un_NoRow).xn,
    DL.ziB KX G a_NoLine e_NoLine,
    (DL.ziD o_NoLine be_NoLine bo_NoLine ga_NoLine gn_NoLine gc_NoLine gg gt un_NoLine).xn,
    DL.ziB KX G a_NoDeed e_NoDeed,
    (DL.ziD o_NoDeed be_NoDeed bo_NoDeed ga_NoDeed gn_NoDeed gc_NoDeed gg gt un_NoDeed).xn,
    DL.ziB KX G a_NoFraction e_NoFraction,
    (DL.ziD o_NoFraction be_NoFraction bo_NoFraction ga_NoFraction gn_NoFraction gc_NoFraction gg gt un_NoFraction).xn,
    DL.ziB KX G a_NotSquare e_NotSquare,
    (DL.ziD o_NotSquare be_NotSquare bo_NotSquare ga_NotSquare gn_NotSquare gc_NotSquare gg gt un_NotSquare).xn,
    DL.ziB KX G a_TooMany e_TooMany,
    (DL.ziD o_TooMany be_TooMany bo_TooMany ga_TooMany gn_TooMany gc_TooMany gg gt un_TooMany).xn,
    DL.ziu KX G a_NoTable kp_NoTable z_NoTable o_NoTable (DL.ziA z_NoTable o_NoTable g0_NoTable g1_NoTable) i_NoTable (L2.fun_mk l_NoTable cd_NoTable kk_NoTable) fc_NoTable Law.zgc (Law.zfK (L2.fun_mk l_NoTable cd_NoTable kk_NoTable) (DL.ziA z_NoTable o_NoTable g0_NoTable g1_NoTable) (PySem.W.mg_of KX G a_TradeError) ⟨sp_TradeError,rd_TradeError,fn_TradeError⟩),
    (DL.ziD o_NoTable be_NoTable bo_NoTable ga_NoTable gn_NoTable gc_NoTable gg gt un_NoTable).xn,
    DL.zit KX G a_NoText kp_NoText z_NoText o_NoText (DL.ziA z_NoText o_NoText g0_NoText g1_NoText) i_NoText (L2.fun_mk l_NoText cd_NoText kk_NoText) fc_NoText Law.zhx (Law.zgb (L2.fun_mk l_NoText cd_NoText kk_NoText) (DL.ziA z_NoText o_NoText g0_NoText g1_NoText) (PySem.W.mg_of KX G a_TradeError) ⟨sp_TradeError,rd_TradeError,fn_TradeError⟩),
    (DL.ziD o_NoText be_NoText bo_NoText ga_NoText gn_NoText gc_NoText gg gt un_NoText).xn,
    DL.zit KX G a_NoOrder kp_NoOrder z_NoOrder o_NoOrder (DL.ziA z_NoOrder o_NoOrder g0_NoOrder g1_NoOrder) i_NoOrder (L2.fun_mk l_NoOrder cd_NoOrder kk_NoOrder) fc_NoOrder Law.zgd (Law.zfL (L2.fun_mk l_NoOrder cd_NoOrder kk_NoOrder) (DL.ziA z_NoOrder o_NoOrder g0_NoOrder g1_NoOrder) (PySem.W.mg_of KX G a_TradeError) ⟨sp_TradeError,rd_TradeError,fn_TradeError⟩),
    (DL.ziD o_NoOrder be_NoOrder bo_NoOrder ga_NoOrder gn_NoOrder gc_NoOrder gg gt un_NoOrder).xn,
    DL.zit KX G a_NotOwned kp_NotOwned z_NotOwned o_NotOwned (DL.ziA z_NotOwned o_NotOwned g0_NotOwned g1_NotOwned) i_NotOwned (L2.fun_mk l_NotOwned cd_NotOwned kk_NotOwned) fc_NotOwned Law.zf1 (Law.zeZ (L2.fun_mk l_NotOwned cd_NotOwned kk_NotOwned) (DL.ziA z_NotOwned o_NotOwned g0_NotOwned g1_NotOwned) (PySem.W.mg_of KX G a_TradeError) ⟨sp_TradeError,rd_TradeError,fn_TradeError⟩),
    (DL.ziD o_NotOwned be_NotOwned bo_NotOwned ga_NotOwned gn_NotOwned gc_NotOwned gg gt un_NotOwned).xn,
    DL.ziz [((Str.ofString "NoRow"),c_NoRow,b_NoRow),((Str.ofString "NoOwn"),c_NoOwn,b_NoOwn),((Str.ofString "NotOwned"),c_NotOwned,b_NotOwned)] (by intro q hq; simp only [List.mem_cons,List.not_mem_nil,or_false] at hq; rcases hq with rfl | rfl | rfl <;> first | exact ⟨(DL.ziD o_NoRow be_NoRow bo_NoRow ga_NoRow gn_NoRow gc_NoRow gg gt un_NoRow),(DL.ziA z_NoRow o_NoRow g0_NoRow g1_NoRow)⟩ | exact ⟨(DL.ziD o_NoOwn be_NoOwn bo_NoOwn ga_NoOwn gn_NoOwn gc_NoOwn gg gt un_NoOwn),(DL.ziA z_NoOwn o_NoOwn g0_NoOwn g1_NoOwn)⟩ | exact ⟨(DL.ziD o_NotOwned be_NotOwned bo_NotOwned ga_NotOwned gn_NotOwned gc_NotOwned gg gt un_NotOwned),(DL.ziA z_NotOwned o_NotOwned g0_NotOwned g1_NotOwned)⟩) (fun nm h => by
      have h2 := List.contains_iff_mem.mp h
      simp only [List.mem_cons,List.not_mem_nil,or_false] at h2
      rcases h2 with rfl | rfl | rfl <;> simp),
    DL.ziz [((Str.ofString "NoTable"),c_NoTable,b_NoTable)] (by intro q hq; simp only [List.mem_cons,List.not_mem_nil,or_false] at hq; rcases hq with rfl <;> first | exact ⟨(DL.ziD o_NoTable be_NoTable bo_NoTable ga_NoTable gn_NoTable gc_NoTable gg gt un_NoTable),(DL.ziA z_NoTable o_NoTable g0_NoTable g1_NoTable)⟩) (fun nm h => by
      have h2 := List.contains_iff_mem.mp h
      simp only [List.mem_cons,List.not_mem_nil,or_false] at h2
      rcases h2 with rfl <;> simp),
    DL.ziz [((Str.ofString "NoOrder"),c_NoOrder,b_NoOrder),((Str.ofString "NoText"),c_NoText,b_NoText)] (by intro q hq; simp only [List.mem_cons,List.not_mem_nil,or_false] at hq; rcases hq with rfl | rfl <;> first | exact ⟨(DL.ziD o_NoOrder be_NoOrder bo_NoOrder ga_NoOrder gn_NoOrder gc_NoOrder gg gt un_NoOrder),(DL.ziA z_NoOrder o_NoOrder g0_NoOrder g1_NoOrder)⟩ | exact ⟨(DL.ziD o_NoText be_NoText bo_NoText ga_NoText gn_NoText gc_NoText gg gt un_NoText),(DL.ziA z_NoText o_NoText g0_NoText g1_NoText)⟩) (fun nm h => by
      have h2 := List.contains_iff_mem.mp h
      simp only [List.mem_cons,List.not_mem_nil,or_false] at h2
      rcases h2 with rfl | rfl <;> simp),
    PySem.W.mg_of KX G a_NoDeed,
    DL.zix [((Str.ofString "TradeError"),c_TradeError,b_TradeError),((Str.ofString "TooMany"),c_TooMany,b_TooMany),((Str.ofString "NotSquare"),c_NotSquare,b_NotSquare),((Str.ofString "NoFraction"),c_NoFraction,b_NoFraction),((Str.ofString "NoDeed"),c_NoDeed,b_NoDeed),((Str.ofString "NoLine"),c_NoLine,b_NoLine),((Str.ofString "NoRow"),c_NoRow,b_NoRow),((Str.ofString "NoOwn"),c_NoOwn,b_NoOwn),((Str.ofString "NotOwned"),c_NotOwned,b_NotOwned),((Str.ofString "NoOrder"),c_NoOrder,b_NoOrder),((Str.ofString "NoText"),c_NoText,b_NoText),((Str.ofString "NoTable"),c_NoTable,b_NoTable)] nn_NoDeed (by intro q hq; simp only [List.mem_cons,List.not_mem_nil,or_false] at hq; rcases hq with rfl | rfl | rfl | rfl | rfl | rfl | rfl | rfl | rfl | rfl | rfl | rfl <;> first | exact ⟨(DL.ziD o_TradeError be_TradeError bo_TradeError ga_TradeError gn_TradeError gc_TradeError gg gt un_TradeError),k_NoDeed_TradeError⟩ | exact ⟨(DL.ziD o_TooMany be_TooMany bo_TooMany ga_TooMany gn_TooMany gc_TooMany gg gt un_TooMany),k_NoDeed_TooMany⟩ | exact ⟨(DL.ziD o_NotSquare be_NotSquare bo_NotSquare ga_NotSquare gn_NotSquare gc_NotSquare gg gt un_NotSquare),k_NoDeed_NotSquare⟩ | exact ⟨(DL.ziD o_NoFraction be_NoFraction bo_NoFraction ga_NoFraction gn_NoFraction gc_NoFraction gg gt un_NoFraction),k_NoDeed_NoFraction⟩ | exact ⟨(DL.ziD o_NoDeed be_NoDeed bo_NoDeed ga_NoDeed gn_NoDeed gc_NoDeed gg gt un_NoDeed),k_NoDeed_NoDeed⟩ | exact ⟨(DL.ziD o_NoLine be_NoLine bo_NoLine ga_NoLine gn_NoLine gc_NoLine gg gt un_NoLine),k_NoDeed_NoLine⟩ | exact ⟨(DL.ziD o_NoRow be_NoRow bo_NoRow ga_NoRow gn_NoRow gc_NoRow gg gt un_NoRow),k_NoDeed_NoRow⟩ | exact ⟨(DL.ziD o_NoOwn be_NoOwn bo_NoOwn ga_NoOwn gn_NoOwn gc_NoOwn gg gt un_NoOwn),k_NoDeed_NoOwn⟩ | exact ⟨(DL.ziD o_NotOwned be_NotOwned bo_NotOwned ga_NotOwned gn_NotOwned gc_NotOwned gg gt un_NotOwned),k_NoDeed_NotOwned⟩ | exact ⟨(DL.ziD o_NoOrder be_NoOrder bo_NoOrder ga_NoOrder gn_NoOrder gc_NoOrder gg gt un_NoOrder),k_NoDeed_NoOrder⟩ | exact ⟨(DL.ziD o_NoText be_NoText bo_NoText ga_NoText gn_NoText gc_NoText gg gt un_NoText),k_NoDeed_NoText⟩ | exact ⟨(DL.ziD o_NoTable be_NoTable bo_NoTable ga_NoTable gn_NoTable gc_NoTable gg gt un_NoTable),k_NoDeed_NoTable⟩) (fun nm b h => by
      unfold Law.za5 at h
      have h2 : nm∈([(Str.ofString "TradeError"),(Str.ofString "TooMany"),(Str.ofString "NotSquare"),(Str.ofString "NoFraction"),(Str.ofString "NoDeed"),(Str.ofString "NoLine"),(Str.ofString "NoRow"),(Str.ofString "NoOwn"),(Str.ofString "NotOwned"),(Str.ofString "NoOrder"),(Str.ofString "NoText"),(Str.ofString "NoTable")] : List Str) := by
        split at h
        · rename_i z; have z := List.contains_iff_mem.mp z; simp only [List.mem_cons,List.not_mem_nil,or_false] at z ⊢; rcases z with rfl <;> simp
        · split at h
          · rename_i z; have z := List.contains_iff_mem.mp z; simp only [List.mem_cons,List.not_mem_nil,or_false] at z ⊢; rcases z with rfl | rfl | rfl | rfl | rfl | rfl | rfl | rfl | rfl | rfl | rfl <;> simp
          · cases h
      simp only [List.mem_cons,List.not_mem_nil,or_false] at h2
      rcases h2 with rfl | rfl | rfl | rfl | rfl | rfl | rfl | rfl | rfl | rfl | rfl | rfl <;> simp),
    PySem.W.mg_of KX G a_NoFraction,
    DL.zix [((Str.ofString "TradeError"),c_TradeError,b_TradeError),((Str.ofString "TooMany"),c_TooMany,b_TooMany),((Str.ofString "NotSquare"),c_NotSquare,b_NotSquare),((Str.ofString "NoFraction"),c_NoFraction,b_NoFraction),((Str.ofString "NoDeed"),c_NoDeed,b_NoDeed),((Str.ofString "NoLine"),c_NoLine,b_NoLine),((Str.ofString "NoRow"),c_NoRow,b_NoRow),((Str.ofString "NoOwn"),c_NoOwn,b_NoOwn),((Str.ofString "NotOwned"),c_NotOwned,b_NotOwned),((Str.ofString "NoOrder"),c_NoOrder,b_NoOrder),((Str.ofString "NoText"),c_NoText,b_NoText),((Str.ofString "NoTable"),c_NoTable,b_NoTable)] nn_NoFraction (by intro q hq; simp only [List.mem_cons,List.not_mem_nil,or_false] at hq; rcases hq with rfl | rfl | rfl | rfl | rfl | rfl | rfl | rfl | rfl | rfl | rfl | rfl <;> first | exact ⟨(DL.ziD o_TradeError be_TradeError bo_TradeError ga_TradeError gn_TradeError gc_TradeError gg gt un_TradeError),k_NoFraction_TradeError⟩ | exact ⟨(DL.ziD o_TooMany be_TooMany bo_TooMany ga_TooMany gn_TooMany gc_TooMany gg gt un_TooMany),k_NoFraction_TooMany⟩ | exact ⟨(DL.ziD o_NotSquare be_NotSquare bo_NotSquare ga_NotSquare gn_NotSquare gc_NotSquare gg gt un_NotSquare),k_NoFraction_NotSquare⟩ | exact ⟨(DL.ziD o_NoFraction be_NoFraction bo_NoFraction ga_NoFraction gn_NoFraction gc_NoFraction gg gt un_NoFraction),k_NoFraction_NoFraction⟩ | exact ⟨(DL.ziD o_NoDeed be_NoDeed bo_NoDeed ga_NoDeed gn_NoDeed gc_NoDeed gg gt un_NoDeed),k_NoFraction_NoDeed⟩ | exact ⟨(DL.ziD o_NoLine be_NoLine bo_NoLine ga_NoLine gn_NoLine gc_NoLine gg gt un_NoLine),k_NoFraction_NoLine⟩ | exact ⟨(DL.ziD o_NoRow be_NoRow bo_NoRow ga_NoRow gn_NoRow gc_NoRow gg gt un_NoRow),k_NoFraction_NoRow⟩ | exact ⟨(DL.ziD o_NoOwn be_NoOwn bo_NoOwn ga_NoOwn gn_NoOwn gc_NoOwn gg gt un_NoOwn),k_NoFraction_NoOwn⟩ | exact ⟨(DL.ziD o_NotOwned be_NotOwned bo_NotOwned ga_NotOwned gn_NotOwned gc_NotOwned gg gt un_NotOwned),k_NoFraction_NotOwned⟩ | exact ⟨(DL.ziD o_NoOrder be_NoOrder bo_NoOrder ga_NoOrder gn_NoOrder gc_NoOrder gg gt un_NoOrder),k_NoFraction_NoOrder⟩ | exact ⟨(DL.ziD o_NoText be_NoText bo_NoText ga_NoText gn_NoText gc_NoText gg gt un_NoText),k_NoFraction_NoText⟩ | exact ⟨(DL.ziD o_NoTable be_NoTable bo_NoTable ga_NoTable gn_NoTable gc_NoTable gg gt un_NoTable),k_NoFraction_NoTable⟩) (fun nm b h => by
      unfold Law.zaw at h
      have h2 : nm∈([(Str.ofString "TradeError"),(Str.ofString "TooMany"),(Str.ofString "NotSquare"),(Str.ofString "NoFraction"),(Str.ofString "NoDeed"),(Str.ofString "NoLine"),(Str.ofString "NoRow"),(Str.ofString "NoOwn"),(Str.ofString "NotOwned"),(Str.ofString "NoOrder"),(Str.ofString "NoText"),(Str.ofString "NoTable")] : List Str) := by
        split at h
        · rename_i z; have z := List.contains_iff_mem.mp z; simp only [List.mem_cons,List.not_mem_nil,or_false] at z ⊢; rcases z with rfl <;> simp
        · split at h
          · rename_i z; have z := List.contains_iff_mem.mp z; simp only [List.mem_cons,List.not_mem_nil,or_false] at z ⊢; rcases z with rfl | rfl | rfl | rfl | rfl | rfl | rfl | rfl | rfl | rfl | rfl <;> simp
          · cases h
      simp only [List.mem_cons,List.not_mem_nil,or_false] at h2
      rcases h2 with rfl | rfl | rfl | rfl | rfl | rfl | rfl | rfl | rfl | rfl | rfl | rfl <;> simp),
    PySem.W.mg_of KX G a_NotSquare,
    DL.zix [((Str.ofString "TradeError"),c_TradeError,b_TradeError),((Str.ofString "TooMany"),c_TooMany,b_TooMany),((Str.ofString "NotSquare"),c_NotSquare,b_NotSquare),((Str.ofString "NoFraction"),c_NoFraction,b_NoFraction),((Str.ofString "NoDeed"),c_NoDeed,b_NoDeed),((Str.ofString "NoLine"),c_NoLine,b_NoLine),((Str.ofString "NoRow"),c_NoRow,b_NoRow),((Str.ofString "NoOwn"),c_NoOwn,b_NoOwn),((Str.ofString "NotOwned"),c_NotOwned,b_NotOwned),((Str.ofString "NoOrder"),c_NoOrder,b_NoOrder),((Str.ofString "NoText"),c_NoText,b_NoText),((Str.ofString "NoTable"),c_NoTable,b_NoTable)] nn_NotSquare (by intro q hq; simp only [List.mem_cons,List.not_mem_nil,or_false] at hq; rcases hq with rfl | rfl | rfl | rfl | rfl | rfl | rfl | rfl | rfl | rfl | rfl | rfl <;> first | exact ⟨(DL.ziD o_TradeError be_TradeError bo_TradeError ga_TradeError gn_TradeError gc_TradeError gg gt un_TradeError),k_NotSquare_TradeError⟩ | exact ⟨(DL.ziD o_TooMany be_TooMany bo_TooMany ga_TooMany gn_TooMany gc_TooMany gg gt un_TooMany),k_NotSquare_TooMany⟩ | exact ⟨(DL.ziD o_NotSquare be_NotSquare bo_NotSquare ga_NotSquare gn_NotSquare gc_NotSquare gg gt un_NotSquare),k_NotSquare_NotSquare⟩ | exact ⟨(DL.ziD o_NoFraction be_NoFraction bo_NoFraction ga_NoFraction gn_NoFraction gc_NoFraction gg gt un_NoFraction),k_NotSquare_NoFraction⟩ | exact ⟨(DL.ziD o_NoDeed be_NoDeed bo_NoDeed ga_NoDeed gn_NoDeed gc_NoDeed gg gt un_NoDeed),k_NotSquare_NoDeed⟩ | exact ⟨(DL.ziD o_NoLine be_NoLine bo_NoLine ga_NoLine gn_NoLine gc_NoLine gg gt un_NoLine),k_NotSquare_NoLine⟩ | exact ⟨(DL.ziD o_NoRow be_NoRow bo_NoRow ga_NoRow gn_NoRow gc_NoRow gg gt un_NoRow),k_NotSquare_NoRow⟩ | exact ⟨(DL.ziD o_NoOwn be_NoOwn bo_NoOwn ga_NoOwn gn_NoOwn gc_NoOwn gg gt un_NoOwn),k_NotSquare_NoOwn⟩ | exact ⟨(DL.ziD o_NotOwned be_NotOwned bo_NotOwned ga_NotOwned gn_NotOwned gc_NotOwned gg gt un_NotOwned),k_NotSquare_NotOwned⟩ | exact ⟨(DL.ziD o_NoOrder be_NoOrder bo_NoOrder ga_NoOrder gn_NoOrder gc_NoOrder gg gt un_NoOrder),k_NotSquare_NoOrder⟩ | exact ⟨(DL.ziD o_NoText be_NoText bo_NoText ga_NoText gn_NoText gc_NoText gg gt un_NoText),k_NotSquare_NoText⟩ | exact ⟨(DL.ziD o_NoTable be_NoTable bo_NoTable ga_NoTable gn_NoTable gc_NoTable gg gt un_NoTable),k_NotSquare_NoTable⟩) (fun nm b h => by
      unfold Law.zaA at h
      have h2 : nm∈([(Str.ofString "TradeError"),(Str.ofString "TooMany"),(Str.ofString "NotSquare"),(Str.ofString "NoFraction"),(Str.ofString "NoDeed"),(Str.ofString "NoLine"),(Str.ofString "NoRow"),(Str.ofString "NoOwn"),(Str.ofString "NotOwned"),(Str.ofString "NoOrder"),(Str.ofString "NoText"),(Str.ofString "NoTable")] : List Str) := by
        split at h
        · rename_i z; have z := List.contains_iff_mem.mp z; simp only [List.mem_cons,List.not_mem_nil,or_false] at z ⊢; rcases z with rfl <;> simp
        · split at h
          · rename_i z; have z := List.contains_iff_mem.mp z; simp only [List.mem_cons,List.not_mem_nil,or_false] at z ⊢; rcases z with rfl | rfl | rfl | rfl | rfl | rfl | rfl | rfl | rfl | rfl | rfl <;> simp
          · cases h
      simp only [List.mem_cons,List.not_mem_nil,or_false] at h2
      rcases h2 with rfl | rfl | rfl | rfl | rfl | rfl | rfl | rfl | rfl | rfl | rfl | rfl <;> simp),
    PySem.W.mg_of KX G a_TooMany,
    DL.zix [((Str.ofString "TradeError"),c_TradeError,b_TradeError),((Str.ofString "TooMany"),c_TooMany,b_TooMany),((Str.ofString "NotSquare"),c_NotSquare,b_NotSquare),((Str.ofString "NoFraction"),c_NoFraction,b_NoFraction),((Str.ofString "NoDeed"),c_NoDeed,b_NoDeed),((Str.ofString "NoLine"),c_NoLine,b_NoLine),((Str.ofString "NoRow"),c_NoRow,b_NoRow),((Str.ofString "NoOwn"),c_NoOwn,b_NoOwn),((Str.ofString "NotOwned"),c_NotOwned,b_NotOwned),((Str.ofString "NoOrder"),c_NoOrder,b_NoOrder),((Str.ofString "NoText"),c_NoText,b_NoText),((Str.ofString "NoTable"),c_NoTable,b_NoTable)] nn_TooMany (by intro q hq; simp only [List.mem_cons,List.not_mem_nil,or_false] at hq; rcases hq with rfl | rfl | rfl | rfl | rfl | rfl | rfl | rfl | rfl | rfl | rfl | rfl <;> first | exact ⟨(DL.ziD o_TradeError be_TradeError bo_TradeError ga_TradeError gn_TradeError gc_TradeError gg gt un_TradeError),k_TooMany_TradeError⟩ | exact ⟨(DL.ziD o_TooMany be_TooMany bo_TooMany ga_TooMany gn_TooMany gc_TooMany gg gt un_TooMany),k_TooMany_TooMany⟩ | exact ⟨(DL.ziD o_NotSquare be_NotSquare bo_NotSquare ga_NotSquare gn_NotSquare gc_NotSquare gg gt un_NotSquare),k_TooMany_NotSquare⟩ | exact ⟨(DL.ziD o_NoFraction be_NoFraction bo_NoFraction ga_NoFraction gn_NoFraction gc_NoFraction gg gt un_NoFraction),k_TooMany_NoFraction⟩ | exact ⟨(DL.ziD o_NoDeed be_NoDeed bo_NoDeed ga_NoDeed gn_NoDeed gc_NoDeed gg gt un_NoDeed),k_TooMany_NoDeed⟩ | exact ⟨(DL.ziD o_NoLine be_NoLine bo_NoLine ga_NoLine gn_NoLine gc_NoLine gg gt un_NoLine),k_TooMany_NoLine⟩ | exact ⟨(DL.ziD o_NoRow be_NoRow bo_NoRow ga_NoRow gn_NoRow gc_NoRow gg gt un_NoRow),k_TooMany_NoRow⟩ | exact ⟨(DL.ziD o_NoOwn be_NoOwn bo_NoOwn ga_NoOwn gn_NoOwn gc_NoOwn gg gt un_NoOwn),k_TooMany_NoOwn⟩ | exact ⟨(DL.ziD o_NotOwned be_NotOwned bo_NotOwned ga_NotOwned gn_NotOwned gc_NotOwned gg gt un_NotOwned),k_TooMany_NotOwned⟩ | exact ⟨(DL.ziD o_NoOrder be_NoOrder bo_NoOrder ga_NoOrder gn_NoOrder gc_NoOrder gg gt un_NoOrder),k_TooMany_NoOrder⟩ | exact ⟨(DL.ziD o_NoText be_NoText bo_NoText ga_NoText gn_NoText gc_NoText gg gt un_NoText),k_TooMany_NoText⟩ | exact ⟨(DL.ziD o_NoTable be_NoTable bo_NoTable ga_NoTable gn_NoTable gc_NoTable gg gt un_NoTable),k_TooMany_NoTable⟩) (fun nm b h => by
      unfold Law.zaR at h
      have h2 : nm∈([(Str.ofString "TradeError"),(Str.ofString "TooMany"),(Str.ofString "NotSquare"),(Str.ofString "NoFraction"),(Str.ofString "NoDeed"),(Str.ofString "NoLine"),(Str.ofString "NoRow"),(Str.ofString "NoOwn"),(Str.ofString "NotOwned"),(Str.ofString "NoOrder"),(Str.ofString "NoText"),(Str.ofString "NoTable")] : List Str) := by
        split at h
        · rename_i z; have z := List.contains_iff_mem.mp z; simp only [List.mem_cons,List.not_mem_nil,or_false] at z ⊢; rcases z with rfl <;> simp
        · split at h
          · rename_i z; have z := List.contains_iff_mem.mp z; simp only [List.mem_cons,List.not_mem_nil,or_false] at z ⊢; rcases z with rfl | rfl | rfl | rfl | rfl | rfl | rfl | rfl | rfl | rfl | rfl <;> simp
          · cases h
      simp only [List.mem_cons,List.not_mem_nil,or_false] at h2
      rcases h2 with rfl | rfl | rfl | rfl | rfl | rfl | rfl | rfl | rfl | rfl | rfl | rfl <;> simp),
    PySem.W.mg_of KX G a_NotOwned,
    DL.zix [((Str.ofString "TradeError"),c_TradeError,b_TradeError),((Str.ofString "TooMany"),c_TooMany,b_TooMany),((Str.ofString "NotSquare"),c_NotSquare,b_NotSquare),((Str.ofString "NoFraction"),c_NoFraction,b_NoFraction),((Str.ofString "NoDeed"),c_NoDeed,b_NoDeed),((Str.ofString "NoLine"),c_NoLine,b_NoLine),((Str.ofString "NoRow"),c_NoRow,b_NoRow),((Str.ofString "NoOwn"),c_NoOwn,b_NoOwn),((Str.ofString "NotOwned"),c_NotOwned,b_NotOwned),((Str.ofString "NoOrder"),c_NoOrder,b_NoOrder),((Str.ofString "NoText"),c_NoText,b_NoText),((Str.ofString "NoTable"),c_NoTable,b_NoTable)] nn_NotOwned (by intro q hq; simp only [List.mem_cons,List.not_mem_nil,or_false] at hq; rcases hq with rfl | rfl | rfl | rfl | rfl | rfl | rfl | rfl | rfl | rfl | rfl | rfl <;> first | exact ⟨(DL.ziD o_TradeError be_TradeError bo_TradeError ga_TradeError gn_TradeError gc_TradeError gg gt un_TradeError),k_NotOwned_TradeError⟩ | exact ⟨(DL.ziD o_TooMany be_TooMany bo_TooMany ga_TooMany gn_TooMany gc_TooMany gg gt un_TooMany),k_NotOwned_TooMany⟩ | exact ⟨(DL.ziD o_NotSquare be_NotSquare bo_NotSquare ga_NotSquare gn_NotSquare gc_NotSquare gg gt un_NotSquare),k_NotOwned_NotSquare⟩ | exact ⟨(DL.ziD o_NoFraction be_NoFraction bo_NoFraction ga_NoFraction gn_NoFraction gc_NoFraction gg gt un_NoFraction),k_NotOwned_NoFraction⟩ | exact ⟨(DL.ziD o_NoDeed be_NoDeed bo_NoDeed ga_NoDeed gn_NoDeed gc_NoDeed gg gt un_NoDeed),k_NotOwned_NoDeed⟩ | exact ⟨(DL.ziD o_NoLine be_NoLine bo_NoLine ga_NoLine gn_NoLine gc_NoLine gg gt un_NoLine),k_NotOwned_NoLine⟩ | exact ⟨(DL.ziD o_NoRow be_NoRow bo_NoRow ga_NoRow gn_NoRow gc_NoRow gg gt un_NoRow),k_NotOwned_NoRow⟩ | exact ⟨(DL.ziD o_NoOwn be_NoOwn bo_NoOwn ga_NoOwn gn_NoOwn gc_NoOwn gg gt un_NoOwn),k_NotOwned_NoOwn⟩ | exact ⟨(DL.ziD o_NotOwned be_NotOwned bo_NotOwned ga_NotOwned gn_NotOwned gc_NotOwned gg gt un_NotOwned),k_NotOwned_NotOwned⟩ | exact ⟨(DL.ziD o_NoOrder be_NoOrder bo_NoOrder ga_NoOrder gn_NoOrder gc_NoOrder gg gt un_NoOrder),k_NotOwned_NoOrder⟩ | exact ⟨(DL.ziD o_NoText be_NoText bo_NoText ga_NoText gn_NoText gc_NoText gg gt un_NoText),k_NotOwned_NoText⟩ | exact ⟨(DL.ziD o_NoTable be_NoTable bo_NoTable ga_NoTable gn_NoTable gc_NoTable gg gt un_NoTable),k_NotOwned_NoTable⟩) (fun nm b h => by
      unfold Law.zaG at h
      have h2 : nm∈([(Str.ofString "TradeError"),(Str.ofString "TooMany"),(Str.ofString "NotSquare"),(Str.ofString "NoFraction"),(Str.ofString "NoDeed"),(Str.ofString "NoLine"),(Str.ofString "NoRow"),(Str.ofString "NoOwn"),(Str.ofString "NotOwned"),(Str.ofString "NoOrder"),(Str.ofString "NoText"),(Str.ofString "NoTable")] : List Str) := by
        split at h
        · rename_i z; have z := List.contains_iff_mem.mp z; simp only [List.mem_cons,List.not_mem_nil,or_false] at z ⊢; rcases z with rfl <;> simp
        · split at h
          · rename_i z; have z := List.contains_iff_mem.mp z; simp only [List.mem_cons,List.not_mem_nil,or_false] at z ⊢; rcases z with rfl | rfl | rfl | rfl | rfl | rfl | rfl | rfl | rfl | rfl | rfl <;> simp
          · cases h
      simp only [List.mem_cons,List.not_mem_nil,or_false] at h2
      rcases h2 with rfl | rfl | rfl | rfl | rfl | rfl | rfl | rfl | rfl | rfl | rfl | rfl <;> simp),
    PySem.W.mg_of KX G a_NoOwn,
    DL.zix [((Str.ofString "TradeError"),c_TradeError,b_TradeError),((Str.ofString "TooMany"),c_TooMany,b_TooMany),((Str.ofString "NotSquare"),c_NotSquare,b_NotSquare),((Str.ofString "NoFraction"),c_NoFraction,b_NoFraction),((Str.ofString "NoDeed"),c_NoDeed,b_NoDeed),((Str.ofString "NoLine"),c_NoLine,b_NoLine),((Str.ofString "NoRow"),c_NoRow,b_NoRow),((Str.ofString "NoOwn"),c_NoOwn,b_NoOwn),((Str.ofString "NotOwned"),c_NotOwned,b_NotOwned),((Str.ofString "NoOrder"),c_NoOrder,b_NoOrder),((Str.ofString "NoText"),c_NoText,b_NoText),((Str.ofString "NoTable"),c_NoTable,b_NoTable)] nn_NoOwn (by intro q hq; simp only [List.mem_cons,List.not_mem_nil,or_false] at hq; rcases hq with rfl | rfl | rfl | rfl | rfl | rfl | rfl | rfl | rfl | rfl | rfl | rfl <;> first | exact ⟨(DL.ziD o_TradeError be_TradeError bo_TradeError ga_TradeError gn_TradeError gc_TradeError gg gt un_TradeError),k_NoOwn_TradeError⟩ | exact ⟨(DL.ziD o_TooMany be_TooMany bo_TooMany ga_TooMany gn_TooMany gc_TooMany gg gt un_TooMany),k_NoOwn_TooMany⟩ | exact ⟨(DL.ziD o_NotSquare be_NotSquare bo_NotSquare ga_NotSquare gn_NotSquare gc_NotSquare gg gt un_NotSquare),k_NoOwn_NotSquare⟩ | exact ⟨(DL.ziD o_NoFraction be_NoFraction bo_NoFraction ga_NoFraction gn_NoFraction gc_NoFraction gg gt un_NoFraction),k_NoOwn_NoFraction⟩ | exact ⟨(DL.ziD o_NoDeed be_NoDeed bo_NoDeed ga_NoDeed gn_NoDeed gc_NoDeed gg gt un_NoDeed),k_NoOwn_NoDeed⟩ | exact ⟨(DL.ziD o_NoLine be_NoLine bo_NoLine ga_NoLine gn_NoLine gc_NoLine gg gt un_NoLine),k_NoOwn_NoLine⟩ | exact ⟨(DL.ziD o_NoRow be_NoRow bo_NoRow ga_NoRow gn_NoRow gc_NoRow gg gt un_NoRow),k_NoOwn_NoRow⟩ | exact ⟨(DL.ziD o_NoOwn be_NoOwn bo_NoOwn ga_NoOwn gn_NoOwn gc_NoOwn gg gt un_NoOwn),k_NoOwn_NoOwn⟩ | exact ⟨(DL.ziD o_NotOwned be_NotOwned bo_NotOwned ga_NotOwned gn_NotOwned gc_NotOwned gg gt un_NotOwned),k_NoOwn_NotOwned⟩ | exact ⟨(DL.ziD o_NoOrder be_NoOrder bo_NoOrder ga_NoOrder gn_NoOrder gc_NoOrder gg gt un_NoOrder),k_NoOwn_NoOrder⟩ | exact ⟨(DL.ziD o_NoText be_NoText bo_NoText ga_NoText gn_NoText gc_NoText gg gt un_NoText),k_NoOwn_NoText⟩ | exact ⟨(DL.ziD o_NoTable be_NoTable bo_NoTable ga_NoTable gn_NoTable gc_NoTable gg gt un_NoTable),k_NoOwn_NoTable⟩) (fun nm b h => by
      unfold Law.zbe at h
      have h2 : nm∈([(Str.ofString "TradeError"),(Str.ofString "TooMany"),(Str.ofString "NotSquare"),(Str.ofString "NoFraction"),(Str.ofString "NoDeed"),(Str.ofString "NoLine"),(Str.ofString "NoRow"),(Str.ofString "NoOwn"),(Str.ofString "NotOwned"),(Str.ofString "NoOrder"),(Str.ofString "NoText"),(Str.ofString "NoTable")] : List Str) := by
        split at h
        · rename_i z; have z := List.contains_iff_mem.mp z; simp only [List.mem_cons,List.not_mem_nil,or_false] at z ⊢; rcases z with rfl <;> simp
        · split at h
          · rename_i z; have z := List.contains_iff_mem.mp z; simp only [List.mem_cons,List.not_mem_nil,or_false] at z ⊢; rcases z with rfl | rfl | rfl | rfl | rfl | rfl | rfl | rfl | rfl | rfl | rfl <;> simp
          · cases h
      simp only [List.mem_cons,List.not_mem_nil,or_false] at h2
      rcases h2 with rfl | rfl | rfl | rfl | rfl | rfl | rfl | rfl | rfl | rfl | rfl | rfl <;> simp),
    PySem.W.mg_of KX G a_NoRow,
    DL.zix [((Str.ofString "TradeError"),c_TradeError,b_TradeError),((Str.ofString "TooMany"),c_TooMany,b_TooMany),((Str.ofString "NotSquare"),c_NotSquare,b_NotSquare),((Str.ofString "NoFraction"),c_NoFraction,b_NoFraction),((Str.ofString "NoDeed"),c_NoDeed,b_NoDeed),((Str.ofString "NoLine"),c_NoLine,b_NoLine),((Str.ofString "NoRow"),c_NoRow,b_NoRow),((Str.ofString "NoOwn"),c_NoOwn,b_NoOwn),((Str.ofString "NotOwned"),c_NotOwned,b_NotOwned),((Str.ofString "NoOrder"),c_NoOrder,b_NoOrder),((Str.ofString "NoText"),c_NoText,b_NoText),((Str.ofString "NoTable"),c_NoTable,b_NoTable)] nn_NoRow (by intro q hq; simp only [List.mem_cons,List.not_mem_nil,or_false] at hq; rcases hq with rfl | rfl | rfl | rfl | rfl | rfl | rfl | rfl | rfl | rfl | rfl | rfl <;> first | exact ⟨(DL.ziD o_TradeError be_TradeError bo_TradeError ga_TradeError gn_TradeError gc_TradeError gg gt un_TradeError),k_NoRow_TradeError⟩ | exact ⟨(DL.ziD o_TooMany be_TooMany bo_TooMany ga_TooMany gn_TooMany gc_TooMany gg gt un_TooMany),k_NoRow_TooMany⟩ | exact ⟨(DL.ziD o_NotSquare be_NotSquare bo_NotSquare ga_NotSquare gn_NotSquare gc_NotSquare gg gt un_NotSquare),k_NoRow_NotSquare⟩ | exact ⟨(DL.ziD o_NoFraction be_NoFraction bo_NoFraction ga_NoFraction gn_NoFraction gc_NoFraction gg gt un_NoFraction),k_NoRow_NoFraction⟩ | exact ⟨(DL.ziD o_NoDeed be_NoDeed bo_NoDeed ga_NoDeed gn_NoDeed gc_NoDeed gg gt un_NoDeed),k_NoRow_NoDeed⟩ | exact ⟨(DL.ziD o_NoLine be_NoLine bo_NoLine ga_NoLine gn_NoLine gc_NoLine gg gt un_NoLine),k_NoRow_NoLine⟩ | exact ⟨(DL.ziD o_NoRow be_NoRow bo_NoRow ga_NoRow gn_NoRow gc_NoRow gg gt un_NoRow),k_NoRow_NoRow⟩ | exact ⟨(DL.ziD o_NoOwn be_NoOwn bo_NoOwn ga_NoOwn gn_NoOwn gc_NoOwn gg gt un_NoOwn),k_NoRow_NoOwn⟩ | exact ⟨(DL.ziD o_NotOwned be_NotOwned bo_NotOwned ga_NotOwned gn_NotOwned gc_NotOwned gg gt un_NotOwned),k_NoRow_NotOwned⟩ | exact ⟨(DL.ziD o_NoOrder be_NoOrder bo_NoOrder ga_NoOrder gn_NoOrder gc_NoOrder gg gt un_NoOrder),k_NoRow_NoOrder⟩ | exact ⟨(DL.ziD o_NoText be_NoText bo_NoText ga_NoText gn_NoText gc_NoText gg gt un_NoText),k_NoRow_NoText⟩ | exact ⟨(DL.ziD o_NoTable be_NoTable bo_NoTable ga_NoTable gn_NoTable gc_NoTable gg gt un_NoTable),k_NoRow_NoTable⟩) (fun nm b h => by
      unfold Law.zbd at h
      have h2 : nm∈([(Str.ofString "TradeError"),(Str.ofString "TooMany"),(Str.ofString "NotSquare"),(Str.ofString "NoFraction"),(Str.ofString "NoDeed"),(Str.ofString "NoLine"),(Str.ofString "NoRow"),(Str.ofString "NoOwn"),(Str.ofString "NotOwned"),(Str.ofString "NoOrder"),(Str.ofString "NoText"),(Str.ofString "NoTable")] : List Str) := by
        split at h
        · rename_i z; have z := List.contains_iff_mem.mp z; simp only [List.mem_cons,List.not_mem_nil,or_false] at z ⊢; rcases z with rfl <;> simp
        · split at h
          · rename_i z; have z := List.contains_iff_mem.mp z; simp only [List.mem_cons,List.not_mem_nil,or_false] at z ⊢; rcases z with rfl | rfl | rfl | rfl | rfl | rfl | rfl | rfl | rfl | rfl | rfl <;> simp
          · cases h
      simp only [List.mem_cons,List.not_mem_nil,or_false] at h2
      rcases h2 with rfl | rfl | rfl | rfl | rfl | rfl | rfl | rfl | rfl | rfl | rfl | rfl <;> simp),
    PySem.W.mg_of KX G a_NoLine,
    DL.zix [((Str.ofString "TradeError"),c_TradeError,b_TradeError),((Str.ofString "TooMany"),c_TooMany,b_TooMany),((Str.ofString "NotSquare"),c_NotSquare,b_NotSquare),((Str.ofString "NoFraction"),c_NoFraction,b_NoFraction),((Str.ofString "NoDeed"),c_NoDeed,b_NoDeed),((Str.ofString "NoLine"),c_NoLine,b_NoLine),((Str.ofString "NoRow"),c_NoRow,b_NoRow),((Str.ofString "NoOwn"),c_NoOwn,b_NoOwn),((Str.ofString "NotOwned"),c_NotOwned,b_NotOwned),((Str.ofString "NoOrder"),c_NoOrder,b_NoOrder),((Str.ofString "NoText"),c_NoText,b_NoText),((Str.ofString "NoTable"),c_NoTable,b_NoTable)] nn_NoLine (by intro q hq; simp only [List.mem_cons,List.not_mem_nil,or_false] at hq; rcases hq with rfl | rfl | rfl | rfl | rfl | rfl | rfl | rfl | rfl | rfl | rfl | rfl <;> first | exact ⟨(DL.ziD o_TradeError be_TradeError bo_TradeError ga_TradeError gn_TradeError gc_TradeError gg gt un_TradeError),k_NoLine_TradeError⟩ | exact ⟨(DL.ziD o_TooMany be_TooMany bo_TooMany ga_TooMany gn_TooMany gc_TooMany gg gt un_TooMany),k_NoLine_TooMany⟩ | exact ⟨(DL.ziD o_NotSquare be_NotSquare bo_NotSquare ga_NotSquare gn_NotSquare gc_NotSquare gg gt un_NotSquare),k_NoLine_NotSquare⟩ | exact ⟨(DL.ziD o_NoFraction be_NoFraction bo_NoFraction ga_NoFraction gn_NoFraction gc_NoFraction gg gt un_NoFraction),k_NoLine_NoFraction⟩ | exact ⟨(DL.ziD o_NoDeed be_NoDeed bo_NoDeed ga_NoDeed gn_NoDeed gc_NoDeed gg gt un_NoDeed),k_NoLine_NoDeed⟩ | exact ⟨(DL.ziD o_NoLine be_NoLine bo_NoLine ga_NoLine gn_NoLine gc_NoLine gg gt un_NoLine),k_NoLine_NoLine⟩ | exact ⟨(DL.ziD o_NoRow be_NoRow bo_NoRow ga_NoRow gn_NoRow gc_NoRow gg gt un_NoRow),k_NoLine_NoRow⟩ | exact ⟨(DL.ziD o_NoOwn be_NoOwn bo_NoOwn ga_NoOwn gn_NoOwn gc_NoOwn gg gt un_NoOwn),k_NoLine_NoOwn⟩ | exact ⟨(DL.ziD o_NotOwned be_NotOwned bo_NotOwned ga_NotOwned gn_NotOwned gc_NotOwned gg gt un_NotOwned),k_NoLine_NotOwned⟩ | exact ⟨(DL.ziD o_NoOrder be_NoOrder bo_NoOrder ga_NoOrder gn_NoOrder gc_NoOrder gg gt un_NoOrder),k_NoLine_NoOrder⟩ | exact ⟨(DL.ziD o_NoText be_NoText bo_NoText ga_NoText gn_NoText gc_NoText gg gt un_NoText),k_NoLine_NoText⟩ | exact ⟨(DL.ziD o_NoTable be_NoTable bo_NoTable ga_NoTable gn_NoTable gc_NoTable gg gt un_NoTable),k_NoLine_NoTable⟩) (fun nm b h => by
      unfold Law.za4 at h
      have h2 : nm∈([(Str.ofString "TradeError"),(Str.ofString "TooMany"),(Str.ofString "NotSquare"),(Str.ofString "NoFraction"),(Str.ofString "NoDeed"),(Str.ofString "NoLine"),(Str.ofString "NoRow"),(Str.ofString "NoOwn"),(Str.ofString "NotOwned"),(Str.ofString "NoOrder"),(Str.ofString "NoText"),(Str.ofString "NoTable")] : List Str) := by
        split at h
        · rename_i z; have z := List.contains_iff_mem.mp z; simp only [List.mem_cons,List.not_mem_nil,or_false] at z ⊢; rcases z with rfl <;> simp
        · split at h
          · rename_i z; have z := List.contains_iff_mem.mp z; simp only [List.mem_cons,List.not_mem_nil,or_false] at z ⊢; rcases z with rfl | rfl | rfl | rfl | rfl | rfl | rfl | rfl | rfl | rfl | rfl <;> simp
          · cases h
      simp only [List.mem_cons,List.not_mem_nil,or_false] at h2
      rcases h2 with rfl | rfl | rfl | rfl | rfl | rfl | rfl | rfl | rfl | rfl | rfl | rfl <;> simp),
    PySem.W.mg_of KX G a_NoTable,
    DL.zix [((Str.ofString "TradeError"),c_TradeError,b_TradeError),((Str.ofString "TooMany"),c_TooMany,b_TooMany),((Str.ofString "NotSquare"),c_NotSquare,b_NotSquare),((Str.ofString "NoFraction"),c_NoFraction,b_NoFraction),((Str.ofString "NoDeed"),c_NoDeed,b_NoDeed),((Str.ofString "NoLine"),c_NoLine,b_NoLine),((Str.ofString "NoRow"),c_NoRow,b_NoRow),((Str.ofString "NoOwn"),c_NoOwn,b_NoOwn),((Str.ofString "NotOwned"),c_NotOwned,b_NotOwned),((Str.ofString "NoOrder"),c_NoOrder,b_NoOrder),((Str.ofString "NoText"),c_NoText,b_NoText),((Str.ofString "NoTable"),c_NoTable,b_NoTable)] nn_NoTable (by intro q hq; simp only [List.mem_cons,List.not_mem_nil,or_false] at hq; rcases hq with rfl | rfl | rfl | rfl | rfl | rfl | rfl | rfl | rfl | rfl | rfl | rfl <;> first | exact ⟨(DL.ziD o_TradeError be_TradeError bo_TradeError ga_TradeError gn_TradeError gc_TradeError gg gt un_TradeError),k_NoTable_TradeError⟩ | exact ⟨(DL.ziD o_TooMany be_TooMany bo_TooMany ga_TooMany gn_TooMany gc_TooMany gg gt un_TooMany),k_NoTable_TooMany⟩ | exact ⟨(DL.ziD o_NotSquare be_NotSquare bo_NotSquare ga_NotSquare gn_NotSquare gc_NotSquare gg gt un_NotSquare),k_NoTable_NotSquare⟩ | exact ⟨(DL.ziD o_NoFraction be_NoFraction bo_NoFraction ga_NoFraction gn_NoFraction gc_NoFraction gg gt un_NoFraction),k_NoTable_NoFraction⟩ | exact ⟨(DL.ziD o_NoDeed be_NoDeed bo_NoDeed ga_NoDeed gn_NoDeed gc_NoDeed gg gt un_NoDeed),k_NoTable_NoDeed⟩ | exact ⟨(DL.ziD o_NoLine be_NoLine bo_NoLine ga_NoLine gn_NoLine gc_NoLine gg gt un_NoLine),k_NoTable_NoLine⟩ | exact ⟨(DL.ziD o_NoRow be_NoRow bo_NoRow ga_NoRow gn_NoRow gc_NoRow gg gt un_NoRow),k_NoTable_NoRow⟩ | exact ⟨(DL.ziD o_NoOwn be_NoOwn bo_NoOwn ga_NoOwn gn_NoOwn gc_NoOwn gg gt un_NoOwn),k_NoTable_NoOwn⟩ | exact ⟨(DL.ziD o_NotOwned be_NotOwned bo_NotOwned ga_NotOwned gn_NotOwned gc_NotOwned gg gt un_NotOwned),k_NoTable_NotOwned⟩ | exact ⟨(DL.ziD o_NoOrder be_NoOrder bo_NoOrder ga_NoOrder gn_NoOrder gc_NoOrder gg gt un_NoOrder),k_NoTable_NoOrder⟩ | exact ⟨(DL.ziD o_NoText be_NoText bo_NoText ga_NoText gn_NoText gc_NoText gg gt un_NoText),k_NoTable_NoText⟩ | exact ⟨(DL.ziD o_NoTable be_NoTable bo_NoTable ga_NoTable gn_NoTable gc_NoTable gg gt un_NoTable),k_NoTable_NoTable⟩) (fun nm b h => by
      unfold Law.zaS at h
      have h2 : nm∈([(Str.ofString "TradeError"),(Str.ofString "TooMany"),(Str.ofString "NotSquare"),(Str.ofString "NoFraction"),(Str.ofString "NoDeed"),(Str.ofString "NoLine"),(Str.ofString "NoRow"),(Str.ofString "NoOwn"),(Str.ofString "NotOwned"),(Str.ofString "NoOrder"),(Str.ofString "NoText"),(Str.ofString "NoTable")] : List Str) := by
        split at h
        · rename_i z; have z := List.contains_iff_mem.mp z; simp only [List.mem_cons,List.not_mem_nil,or_false] at z ⊢; rcases z with rfl <;> simp
        · split at h
          · rename_i z; have z := List.contains_iff_mem.mp z; simp only [List.mem_cons,List.not_mem_nil,or_false] at z ⊢; rcases z with rfl | rfl | rfl | rfl | rfl | rfl | rfl | rfl | rfl | rfl | rfl <;> simp
          · cases h
      simp only [List.mem_cons,List.not_mem_nil,or_false] at h2
      rcases h2 with rfl | rfl | rfl | rfl | rfl | rfl | rfl | rfl | rfl | rfl | rfl | rfl <;> simp),
    PySem.W.mg_of KX G a_NoText,
    DL.zix [((Str.ofString "TradeError"),c_TradeError,b_TradeError),((Str.ofString "TooMany"),c_TooMany,b_TooMany),((Str.ofString "NotSquare"),c_NotSquare,b_NotSquare),((Str.ofString "NoFraction"),c_NoFraction,b_NoFraction),((Str.ofString "NoDeed"),c_NoDeed,b_NoDeed),((Str.ofString "NoLine"),c_NoLine,b_NoLine),((Str.ofString "NoRow"),c_NoRow,b_NoRow),((Str.ofString "NoOwn"),c_NoOwn,b_NoOwn),((Str.ofString "NotOwned"),c_NotOwned,b_NotOwned),((Str.ofString "NoOrder"),c_NoOrder,b_NoOrder),((Str.ofString "NoText"),c_NoText,b_NoText),((Str.ofString "NoTable"),c_NoTable,b_NoTable)] nn_NoText (by intro q hq; simp only [List.mem_cons,List.not_mem_nil,or_false] at hq; rcases hq with rfl | rfl | rfl | rfl | rfl | rfl | rfl | rfl | rfl | rfl | rfl | rfl <;> first | exact ⟨(DL.ziD o_TradeError be_TradeError bo_TradeError ga_TradeError gn_TradeError gc_TradeError gg gt un_TradeError),k_NoText_TradeError⟩ | exact ⟨(DL.ziD o_TooMany be_TooMany bo_TooMany ga_TooMany gn_TooMany gc_TooMany gg gt un_TooMany),k_NoText_TooMany⟩ | exact ⟨(DL.ziD o_NotSquare be_NotSquare bo_NotSquare ga_NotSquare gn_NotSquare gc_NotSquare gg gt un_NotSquare),k_NoText_NotSquare⟩ | exact ⟨(DL.ziD o_NoFraction be_NoFraction bo_NoFraction ga_NoFraction gn_NoFraction gc_NoFraction gg gt un_NoFraction),k_NoText_NoFraction⟩ | exact ⟨(DL.ziD o_NoDeed be_NoDeed bo_NoDeed ga_NoDeed gn_NoDeed gc_NoDeed gg gt un_NoDeed),k_NoText_NoDeed⟩ | exact ⟨(DL.ziD o_NoLine be_NoLine bo_NoLine ga_NoLine gn_NoLine gc_NoLine gg gt un_NoLine),k_NoText_NoLine⟩ | exact ⟨(DL.ziD o_NoRow be_NoRow bo_NoRow ga_NoRow gn_NoRow gc_NoRow gg gt un_NoRow),k_NoText_NoRow⟩ | exact ⟨(DL.ziD o_NoOwn be_NoOwn bo_NoOwn ga_NoOwn gn_NoOwn gc_NoOwn gg gt un_NoOwn),k_NoText_NoOwn⟩ | exact ⟨(DL.ziD o_NotOwned be_NotOwned bo_NotOwned ga_NotOwned gn_NotOwned gc_NotOwned gg gt un_NotOwned),k_NoText_NotOwned⟩ | exact ⟨(DL.ziD o_NoOrder be_NoOrder bo_NoOrder ga_NoOrder gn_NoOrder gc_NoOrder gg gt un_NoOrder),k_NoText_NoOrder⟩ | exact ⟨(DL.ziD o_NoText be_NoText bo_NoText ga_NoText gn_NoText gc_NoText gg gt un_NoText),k_NoText_NoText⟩ | exact ⟨(DL.ziD o_NoTable be_NoTable bo_NoTable ga_NoTable gn_NoTable gc_NoTable gg gt un_NoTable),k_NoText_NoTable⟩) (fun nm b h => by
      unfold Law.za3 at h
      have h2 : nm∈([(Str.ofString "TradeError"),(Str.ofString "TooMany"),(Str.ofString "NotSquare"),(Str.ofString "NoFraction"),(Str.ofString "NoDeed"),(Str.ofString "NoLine"),(Str.ofString "NoRow"),(Str.ofString "NoOwn"),(Str.ofString "NotOwned"),(Str.ofString "NoOrder"),(Str.ofString "NoText"),(Str.ofString "NoTable")] : List Str) := by
        split at h
        · rename_i z; have z := List.contains_iff_mem.mp z; simp only [List.mem_cons,List.not_mem_nil,or_false] at z ⊢; rcases z with rfl <;> simp
        · split at h
          · rename_i z; have z := List.contains_iff_mem.mp z; simp only [List.mem_cons,List.not_mem_nil,or_false] at z ⊢; rcases z with rfl | rfl | rfl | rfl | rfl | rfl | rfl | rfl | rfl | rfl | rfl <;> simp
          · cases h
      simp only [List.mem_cons,List.not_mem_nil,or_false] at h2
      rcases h2 with rfl | rfl | rfl | rfl | rfl | rfl | rfl | rfl | rfl | rfl | rfl | rfl <;> simp),
    PySem.W.mg_of KX G a_NoOrder,
    DL.zix [((Str.ofString "TradeError"),c_TradeError,b_TradeError),((Str.ofString "TooMany"),c_TooMany,b_TooMany),((Str.ofString "NotSquare"),c_NotSquare,b_NotSquare),((Str.ofString "NoFraction"),c_NoFraction,b_NoFraction),((Str.ofString "NoDeed"),c_NoDeed,b_NoDeed),((Str.ofString "NoLine"),c_NoLine,b_NoLine),((Str.ofString "NoRow"),c_NoRow,b_NoRow),((Str.ofString "NoOwn"),c_NoOwn,b_NoOwn),((Str.ofString "NotOwned"),c_NotOwned,b_NotOwned),((Str.ofString "NoOrder"),c_NoOrder,b_NoOrder),((Str.ofString "NoText"),c_NoText,b_NoText),((Str.ofString "NoTable"),c_NoTable,b_NoTable)] nn_NoOrder (by intro q hq; simp only [List.mem_cons,List.not_mem_nil,or_false] at hq; rcases hq with rfl | rfl | rfl | rfl | rfl | rfl | rfl | rfl | rfl | rfl | rfl | rfl <;> first | exact ⟨(DL.ziD o_TradeError be_TradeError bo_TradeError ga_TradeError gn_TradeError gc_TradeError gg gt un_TradeError),k_NoOrder_TradeError⟩ | exact ⟨(DL.ziD o_TooMany be_TooMany bo_TooMany ga_TooMany gn_TooMany gc_TooMany gg gt un_TooMany),k_NoOrder_TooMany⟩ | exact ⟨(DL.ziD o_NotSquare be_NotSquare bo_NotSquare ga_NotSquare gn_NotSquare gc_NotSquare gg gt un_NotSquare),k_NoOrder_NotSquare⟩ | exact ⟨(DL.ziD o_NoFraction be_NoFraction bo_NoFraction ga_NoFraction gn_NoFraction gc_NoFraction gg gt un_NoFraction),k_NoOrder_NoFraction⟩ | exact ⟨(DL.ziD o_NoDeed be_NoDeed bo_NoDeed ga_NoDeed gn_NoDeed gc_NoDeed gg gt un_NoDeed),k_NoOrder_NoDeed⟩ | exact ⟨(DL.ziD o_NoLine be_NoLine bo_NoLine ga_NoLine gn_NoLine gc_NoLine gg gt un_NoLine),k_NoOrder_NoLine⟩ | exact ⟨(DL.ziD o_NoRow be_NoRow bo_NoRow ga_NoRow gn_NoRow gc_NoRow gg gt un_NoRow),k_NoOrder_NoRow⟩ | exact ⟨(DL.ziD o_NoOwn be_NoOwn bo_NoOwn ga_NoOwn gn_NoOwn gc_NoOwn gg gt un_NoOwn),k_NoOrder_NoOwn⟩ | exact ⟨(DL.ziD o_NotOwned be_NotOwned bo_NotOwned ga_NotOwned gn_NotOwned gc_NotOwned gg gt un_NotOwned),k_NoOrder_NotOwned⟩ | exact ⟨(DL.ziD o_NoOrder be_NoOrder bo_NoOrder ga_NoOrder gn_NoOrder gc_NoOrder gg gt un_NoOrder),k_NoOrder_NoOrder⟩ | exact ⟨(DL.ziD o_NoText be_NoText bo_NoText ga_NoText gn_NoText gc_NoText gg gt un_NoText),k_NoOrder_NoText⟩ | exact ⟨(DL.ziD o_NoTable be_NoTable bo_NoTable ga_NoTable gn_NoTable gc_NoTable gg gt un_NoTable),k_NoOrder_NoTable⟩) (fun nm b h => by
      unfold Law.zaT at h
      have h2 : nm∈([(Str.ofString "TradeError"),(Str.ofString "TooMany"),(Str.ofString "NotSquare"),(Str.ofString "NoFraction"),(Str.ofString "NoDeed"),(Str.ofString "NoLine"),(Str.ofString "NoRow"),(Str.ofString "NoOwn"),(Str.ofString "NotOwned"),(Str.ofString "NoOrder"),(Str.ofString "NoText"),(Str.ofString "NoTable")] : List Str) := by
        split at h
        · rename_i z; have z := List.contains_iff_mem.mp z; simp only [List.mem_cons,List.not_mem_nil,or_false] at z ⊢; rcases z with rfl <;> simp
        · split at h
          · rename_i z; have z := List.contains_iff_mem.mp z; simp only [List.mem_cons,List.not_mem_nil,or_false] at z ⊢; rcases z with rfl | rfl | rfl | rfl | rfl | rfl | rfl | rfl | rfl | rfl | rfl <;> simp
          · cases h
      simp only [List.mem_cons,List.not_mem_nil,or_false] at h2
      rcases h2 with rfl | rfl | rfl | rfl | rfl | rfl | rfl | rfl | rfl | rfl | rfl | rfl <;> simp),
    DL.zix [((Str.ofString "TradeError"),c_TradeError,b_TradeError),((Str.ofString "TooMany"),c_TooMany,b_TooMany),((Str.ofString "NotSquare"),c_NotSquare,b_NotSquare),((Str.ofString "NoFraction"),c_NoFraction,b_NoFraction),((Str.ofString "NoDeed"),c_NoDeed,b_NoDeed),((Str.ofString "NoLine"),c_NoLine,b_NoLine),((Str.ofString "NoRow"),c_NoRow,b_NoRow),((Str.ofString "NoOwn"),c_NoOwn,b_NoOwn),((Str.ofString "NotOwned"),c_NotOwned,b_NotOwned),((Str.ofString "NoOrder"),c_NoOrder,b_NoOrder),((Str.ofString "NoText"),c_NoText,b_NoText),((Str.ofString "NoTable"),c_NoTable,b_NoTable)] nn_ValueError (by intro q hq; simp only [List.mem_cons,List.not_mem_nil,or_false] at hq; rcases hq with rfl | rfl | rfl | rfl | rfl | rfl | rfl | rfl | rfl | rfl | rfl | rfl <;> first | exact ⟨(DL.ziD o_TradeError be_TradeError bo_TradeError ga_TradeError gn_TradeError gc_TradeError gg gt un_TradeError),k_ValueError_TradeError⟩ | exact ⟨(DL.ziD o_TooMany be_TooMany bo_TooMany ga_TooMany gn_TooMany gc_TooMany gg gt un_TooMany),k_ValueError_TooMany⟩ | exact ⟨(DL.ziD o_NotSquare be_NotSquare bo_NotSquare ga_NotSquare gn_NotSquare gc_NotSquare gg gt un_NotSquare),k_ValueError_NotSquare⟩ | exact ⟨(DL.ziD o_NoFraction be_NoFraction bo_NoFraction ga_NoFraction gn_NoFraction gc_NoFraction gg gt un_NoFraction),k_ValueError_NoFraction⟩ | exact ⟨(DL.ziD o_NoDeed be_NoDeed bo_NoDeed ga_NoDeed gn_NoDeed gc_NoDeed gg gt un_NoDeed),k_ValueError_NoDeed⟩ | exact ⟨(DL.ziD o_NoLine be_NoLine bo_NoLine ga_NoLine gn_NoLine gc_NoLine gg gt un_NoLine),k_ValueError_NoLine⟩ | exact ⟨(DL.ziD o_NoRow be_NoRow bo_NoRow ga_NoRow gn_NoRow gc_NoRow gg gt un_NoRow),k_ValueError_NoRow⟩ | exact ⟨(DL.ziD o_NoOwn be_NoOwn bo_NoOwn ga_NoOwn gn_NoOwn gc_NoOwn gg gt un_NoOwn),k_ValueError_NoOwn⟩ | exact ⟨(DL.ziD o_NotOwned be_NotOwned bo_NotOwned ga_NotOwned gn_NotOwned gc_NotOwned gg gt un_NotOwned),k_ValueError_NotOwned⟩ | exact ⟨(DL.ziD o_NoOrder be_NoOrder bo_NoOrder ga_NoOrder gn_NoOrder gc_NoOrder gg gt un_NoOrder),k_ValueError_NoOrder⟩ | exact ⟨(DL.ziD o_NoText be_NoText bo_NoText ga_NoText gn_NoText gc_NoText gg gt un_NoText),k_ValueError_NoText⟩ | exact ⟨(DL.ziD o_NoTable be_NoTable bo_NoTable ga_NoTable gn_NoTable gc_NoTable gg gt un_NoTable),k_ValueError_NoTable⟩) (fun nm b h => by
      unfold Law.zau at h
      have h2 : nm∈([(Str.ofString "TradeError"),(Str.ofString "TooMany"),(Str.ofString "NotSquare"),(Str.ofString "NoFraction"),(Str.ofString "NoDeed"),(Str.ofString "NoLine"),(Str.ofString "NoRow"),(Str.ofString "NoOwn"),(Str.ofString "NotOwned"),(Str.ofString "NoOrder"),(Str.ofString "NoText"),(Str.ofString "NoTable")] : List Str) := by
        split at h
        · rename_i z; have z := List.contains_iff_mem.mp z; simp only [List.mem_cons,List.not_mem_nil,or_false] at z ⊢; rcases z with rfl | rfl | rfl | rfl | rfl | rfl | rfl | rfl | rfl | rfl | rfl | rfl <;> simp
        · split at h
          · rename_i z; simp at z
          · cases h
      simp only [List.mem_cons,List.not_mem_nil,or_false] at h2
      rcases h2 with rfl | rfl | rfl | rfl | rfl | rfl | rfl | rfl | rfl | rfl | rfl | rfl <;> simp),
    PySem.W.mg_of KX G a_TradeError,
    DL.zix [((Str.ofString "TradeError"),c_TradeError,b_TradeError),((Str.ofString "TooMany"),c_TooMany,b_TooMany),((Str.ofString "NotSquare"),c_NotSquare,b_NotSquare),((Str.ofString "NoFraction"),c_NoFraction,b_NoFraction),((Str.ofString "NoDeed"),c_NoDeed,b_NoDeed),((Str.ofString "NoLine"),c_NoLine,b_NoLine),((Str.ofString "NoRow"),c_NoRow,b_NoRow),((Str.ofString "NoOwn"),c_NoOwn,b_NoOwn),((Str.ofString "NotOwned"),c_NotOwned,b_NotOwned),((Str.ofString "NoOrder"),c_NoOrder,b_NoOrder),((Str.ofString "NoText"),c_NoText,b_NoText),((Str.ofString "NoTable"),c_NoTable,b_NoTable)] nn_TradeError (by intro q hq; simp only [List.mem_cons,List.not_mem_nil,or_false] at hq; rcases hq with rfl | rfl | rfl | rfl | rfl | rfl | rfl | rfl | rfl | rfl | rfl | rfl <;> first | exact ⟨(DL.ziD o_TradeError be_TradeError bo_TradeError ga_TradeError gn_TradeError gc_TradeError gg gt un_TradeError),k_TradeError_TradeError⟩ | exact ⟨(DL.ziD o_TooMany be_TooMany bo_TooMany ga_TooMany gn_TooMany gc_TooMany gg gt un_TooMany),k_TradeError_TooMany⟩ | exact ⟨(DL.ziD o_NotSquare be_NotSquare bo_NotSquare ga_NotSquare gn_NotSquare gc_NotSquare gg gt un_NotSquare),k_TradeError_NotSquare⟩ | exact ⟨(DL.ziD o_NoFraction be_NoFraction bo_NoFraction ga_NoFraction gn_NoFraction gc_NoFraction gg gt un_NoFraction),k_TradeError_NoFraction⟩ | exact ⟨(DL.ziD o_NoDeed be_NoDeed bo_NoDeed ga_NoDeed gn_NoDeed gc_NoDeed gg gt un_NoDeed),k_TradeError_NoDeed⟩ | exact ⟨(DL.ziD o_NoLine be_NoLine bo_NoLine ga_NoLine gn_NoLine gc_NoLine gg gt un_NoLine),k_TradeError_NoLine⟩ | exact ⟨(DL.ziD o_NoRow be_NoRow bo_NoRow ga_NoRow gn_NoRow gc_NoRow gg gt un_NoRow),k_TradeError_NoRow⟩ | exact ⟨(DL.ziD o_NoOwn be_NoOwn bo_NoOwn ga_NoOwn gn_NoOwn gc_NoOwn gg gt un_NoOwn),k_TradeError_NoOwn⟩ | exact ⟨(DL.ziD o_NotOwned be_NotOwned bo_NotOwned ga_NotOwned gn_NotOwned gc_NotOwned gg gt un_NotOwned),k_TradeError_NotOwned⟩ | exact ⟨(DL.ziD o_NoOrder be_NoOrder bo_NoOrder ga_NoOrder gn_NoOrder gc_NoOrder gg gt un_NoOrder),k_TradeError_NoOrder⟩ | exact ⟨(DL.ziD o_NoText be_NoText bo_NoText ga_NoText gn_NoText gc_NoText gg gt un_NoText),k_TradeError_NoText⟩ | exact ⟨(DL.ziD o_NoTable be_NoTable bo_NoTable ga_NoTable gn_NoTable gc_NoTable gg gt un_NoTable),k_TradeError_NoTable⟩) (fun nm b h => by
      unfold Law.zav at h
      have h2 : nm∈([(Str.ofString "TradeError"),(Str.ofString "TooMany"),(Str.ofString "NotSquare"),(Str.ofString "NoFraction"),(Str.ofString "NoDeed"),(Str.ofString "NoLine"),(Str.ofString "NoRow"),(Str.ofString "NoOwn"),(Str.ofString "NotOwned"),(Str.ofString "NoOrder"),(Str.ofString "NoText"),(Str.ofString "NoTable")] : List Str) := by
        split at h
        · rename_i z; have z := List.contains_iff_mem.mp z; simp only [List.mem_cons,List.not_mem_nil,or_false] at z ⊢; rcases z with rfl | rfl | rfl | rfl | rfl | rfl | rfl | rfl | rfl | rfl | rfl | rfl <;> simp
        · split at h
          · rename_i z; simp at z
          · cases h
      simp only [List.mem_cons,List.not_mem_nil,or_false] at h2
      rcases h2 with rfl | rfl | rfl | rfl | rfl | rfl | rfl | rfl | rfl | rfl | rfl | rfl <;> simp)⟩
end Law
set_option maxRecDepth 100000 in
set_option maxHeartbeats 0 in
theorem PySem.Challenge.cw_ringtrade_k06_refusals_made_holds : PySem.Challenge.rw_ringtrade_k06_refusals_made.Holds := by
  w_on; o_law; k_head; (case hw => w_witness2)
  k_fill
  refine DL.ziC (l := PySem.Challenge.rw_ringtrade_k06_refusals_made) (k := 3) (x := "_law_script") (F := Law.zga) rfl rfl ⟨rfl,by decide,by decide,rfl⟩ (fun w h Y => PySem.W.kIn_of Y) Law.main ?C
  intro w mg fa h KX G hmg
  have T : Law.Txt (L2.KOf KX) mg := by
    dsimp only [L2.KOf]
    refine ⟨?b_len,?b_isinstance,?b_ValueError,?b_enumerate,?b_range⟩
    case b_len => (refine' PySem.W.mg_none_of KX G ?z_b_len; k_is)
    case b_isinstance => (refine' PySem.W.mg_none_of KX G ?z_b_isinstance; k_is)
    case b_ValueError => (refine' PySem.W.mg_none_of KX G ?z_b_ValueError; k_is)
    case b_enumerate => (refine' PySem.W.mg_none_of KX G ?z_b_enumerate; k_is)
    case b_range => (refine' PySem.W.mg_none_of KX G ?z_b_range; k_is)
  obtain ⟨C_TradeError,C_TooMany,C_NotSquare,C_NoFraction,C_NoDeed,C_NoLine,C_NoRow,C_NoOwn,C_NotOwned,C_NoOrder,C_NoText,C_NoTable,bm_TradeError,bm_TooMany,bm_NotSquare,bm_NoFraction,bm_NoDeed,bm_NoLine,bm_NoRow,bm_NoOwn,bm_NotOwned,bm_NoOrder,bm_NoText,bm_NoTable,xi_NoOwn,xn_NoOwn,xi_NoRow,xn_NoRow,xc_NoLine,xn_NoLine,xc_NoDeed,xn_NoDeed,xc_NoFraction,xn_NoFraction,xc_NotSquare,xn_NotSquare,xc_TooMany,xn_TooMany,xt_NoTable,xn_NoTable,xi_NoText,xn_NoText,xi_NoOrder,xn_NoOrder,xi_NotOwned,xn_NotOwned,at_hand,at_why,at_at,xb_NoDeed,ix_NoDeed,xb_NoFraction,ix_NoFraction,xb_NotSquare,ix_NotSquare,xb_TooMany,ix_TooMany,xb_NotOwned,ix_NotOwned,xb_NoOwn,ix_NoOwn,xb_NoRow,ix_NoRow,xb_NoLine,ix_NoLine,xb_NoTable,ix_NoTable,xb_NoText,ix_NoText,xb_NoOrder,ix_NoOrder,ix_ValueError,xb_TradeError,ix_TradeError⟩ : ∃ (C_TradeError : Addr) (C_TooMany : Addr) (C_NotSquare : Addr) (C_NoFraction : Addr) (C_NoDeed : Addr) (C_NoLine : Addr) (C_NoRow : Addr) (C_NoOwn : Addr) (C_NotOwned : Addr) (C_NoOrder : Addr) (C_NoText : Addr) (C_NoTable : Addr) (bm_TradeError : List Value) (bm_TooMany : List Value) (bm_NotSquare : List Value) (bm_NoFraction : List Value) (bm_NoDeed : List Value) (bm_NoLine : List Value) (bm_NoRow : List Value) (bm_NoOwn : List Value) (bm_NotOwned : List Value) (bm_NoOrder : List Value) (bm_NoText : List Value) (bm_NoTable : List Value),(∀ base,DL.XCI PySem.Challenge.rw_ringtrade_k06_refusals_made.prog w (L2.KOf KX) mg base "NoOwn" C_NoOwn "hand")∧(DL.XN (L2.KOf KX) "NoOwn" C_NoOwn)∧(∀ base,DL.XCI PySem.Challenge.rw_ringtrade_k06_refusals_made.prog w (L2.KOf KX) mg base "NoRow" C_NoRow "hand")∧(DL.XN (L2.KOf KX) "NoRow" C_NoRow)∧(DL.XC (L2.KOf KX) mg "NoLine" C_NoLine)∧(DL.XN (L2.KOf KX) "NoLine" C_NoLine)∧(DL.XC (L2.KOf KX) mg "NoDeed" C_NoDeed)∧(DL.XN (L2.KOf KX) "NoDeed" C_NoDeed)∧(DL.XC (L2.KOf KX) mg "NoFraction" C_NoFraction)∧(DL.XN (L2.KOf KX) "NoFraction" C_NoFraction)∧(DL.XC (L2.KOf KX) mg "NotSquare" C_NotSquare)∧(DL.XN (L2.KOf KX) "NotSquare" C_NotSquare)∧(DL.XC (L2.KOf KX) mg "TooMany" C_TooMany)∧(DL.XN (L2.KOf KX) "TooMany" C_TooMany)∧(∀ base,DL.XCG PySem.Challenge.rw_ringtrade_k06_refusals_made.prog w (L2.KOf KX) mg base "NoTable" C_NoTable "why" (DL.spT (L2.KOf KX) C_NoTable "why"))∧(DL.XN (L2.KOf KX) "NoTable" C_NoTable)∧(∀ base,DL.XCI PySem.Challenge.rw_ringtrade_k06_refusals_made.prog w (L2.KOf KX) mg base "NoText" C_NoText "at")∧(DL.XN (L2.KOf KX) "NoText" C_NoText)∧(∀ base,DL.XCI PySem.Challenge.rw_ringtrade_k06_refusals_made.prog w (L2.KOf KX) mg base "NoOrder" C_NoOrder "at")∧(DL.XN (L2.KOf KX) "NoOrder" C_NoOrder)∧(∀ base,DL.XCI PySem.Challenge.rw_ringtrade_k06_refusals_made.prog w (L2.KOf KX) mg base "NotOwned" C_NotOwned "hand")∧(DL.XN (L2.KOf KX) "NotOwned" C_NotOwned)∧(DL.zcm (L2.KOf KX) "hand" Law.zaJ)∧(DL.zcm (L2.KOf KX) "why" Law.zbZ)∧(DL.zcm (L2.KOf KX) "at" Law.zbR)∧(mg "NoDeed" = some (.ref C_NoDeed))∧(DL.IsxOk (L2.KOf KX) (.ref C_NoDeed) Law.za5)∧(mg "NoFraction" = some (.ref C_NoFraction))∧(DL.IsxOk (L2.KOf KX) (.ref C_NoFraction) Law.zaw)∧(mg "NotSquare" = some (.ref C_NotSquare))∧(DL.IsxOk (L2.KOf KX) (.ref C_NotSquare) Law.zaA)∧(mg "TooMany" = some (.ref C_TooMany))∧(DL.IsxOk (L2.KOf KX) (.ref C_TooMany) Law.zaR)∧(mg "NotOwned" = some (.ref C_NotOwned))∧(DL.IsxOk (L2.KOf KX) (.ref C_NotOwned) Law.zaG)∧(mg "NoOwn" = some (.ref C_NoOwn))∧(DL.IsxOk (L2.KOf KX) (.ref C_NoOwn) Law.zbe)∧(mg "NoRow" = some (.ref C_NoRow))∧(DL.IsxOk (L2.KOf KX) (.ref C_NoRow) Law.zbd)∧(mg "NoLine" = some (.ref C_NoLine))∧(DL.IsxOk (L2.KOf KX) (.ref C_NoLine) Law.za4)∧(mg "NoTable" = some (.ref C_NoTable))∧(DL.IsxOk (L2.KOf KX) (.ref C_NoTable) Law.zaS)∧(mg "NoText" = some (.ref C_NoText))∧(DL.IsxOk (L2.KOf KX) (.ref C_NoText) Law.za3)∧(mg "NoOrder" = some (.ref C_NoOrder))∧(DL.IsxOk (L2.KOf KX) (.ref C_NoOrder) Law.zaT)∧(DL.IsxOk (L2.KOf KX) (.type "ValueError") Law.zau)∧(mg "TradeError" = some (.ref C_TradeError))∧(DL.IsxOk (L2.KOf KX) (.ref C_TradeError) Law.zav) := by
    dsimp only [L2.KOf]
    refine' Law.pack KX G ?a_TradeError ?a_TooMany ?a_NotSquare ?a_NoFraction ?a_NoDeed ?a_NoLine ?a_NoRow ?a_NoOwn ?a_NotOwned ?a_NoOrder ?a_NoText ?a_NoTable ?o_TradeError ?be_TradeError ?bo_TradeError ?ga_TradeError ?gn_TradeError ?gc_TradeError ?un_TradeError ?o_TooMany ?be_TooMany ?bo_TooMany ?ga_TooMany ?gn_TooMany ?gc_TooMany ?un_TooMany ?o_NotSquare ?be_NotSquare ?bo_NotSquare ?ga_NotSquare ?gn_NotSquare ?gc_NotSquare ?un_NotSquare ?o_NoFraction ?be_NoFraction ?bo_NoFraction ?ga_NoFraction ?gn_NoFraction ?gc_NoFraction ?un_NoFraction ?o_NoDeed ?be_NoDeed ?bo_NoDeed ?ga_NoDeed ?gn_NoDeed ?gc_NoDeed ?un_NoDeed ?o_NoLine ?be_NoLine ?bo_NoLine ?ga_NoLine ?gn_NoLine ?gc_NoLine ?un_NoLine ?o_NoRow ?be_NoRow ?bo_NoRow ?ga_NoRow ?gn_NoRow ?gc_NoRow ?un_NoRow ?o_NoOwn ?be_NoOwn ?bo_NoOwn ?ga_NoOwn ?gn_NoOwn ?gc_NoOwn ?un_NoOwn ?o_NotOwned ?be_NotOwned ?bo_NotOwned ?ga_NotOwned ?gn_NotOwned ?gc_NotOwned ?un_NotOwned ?o_NoOrder ?be_NoOrder ?bo_NoOrder ?ga_NoOrder ?gn_NoOrder ?gc_NoOrder ?un_NoOrder ?o_NoText ?be_NoText ?bo_NoText ?ga_NoText ?gn_NoText ?gc_NoText ?un_NoText ?o_NoTable ?be_NoTable ?bo_NoTable ?ga_NoTable ?gn_NoTable ?gc_NoTable ?un_NoTable ?gg ?gt ?ns_NoOwn ?z_NoOwn ?g0_NoOwn ?g1_NoOwn ?sp_TradeError ?rd_TradeError ?fn_TradeError ?i_NoOwn ?kp_NoOwn ?l_NoOwn ?cd_NoOwn ?kk_NoOwn ?fc_NoOwn ?ns_NoRow ?z_NoRow ?g0_NoRow ?g1_NoRow ?i_NoRow ?kp_NoRow ?l_NoRow ?cd_NoRow ?kk_NoRow ?fc_NoRow ?e_NoLine ?e_NoDeed ?e_NoFraction ?e_NotSquare ?e_TooMany ?ns_NoTable ?z_NoTable ?g0_NoTable ?g1_NoTable ?i_NoTable ?kp_NoTable ?l_NoTable ?cd_NoTable ?kk_NoTable ?fc_NoTable ?ns_NoText ?z_NoText ?g0_NoText ?g1_NoText ?i_NoText ?kp_NoText ?l_NoText ?cd_NoText ?kk_NoText ?fc_NoText ?ns_NoOrder ?z_NoOrder ?g0_NoOrder ?g1_NoOrder ?i_NoOrder ?kp_NoOrder ?l_NoOrder ?cd_NoOrder ?kk_NoOrder ?fc_NoOrder ?ns_NotOwned ?z_NotOwned ?g0_NotOwned ?g1_NotOwned ?i_NotOwned ?kp_NotOwned ?l_NotOwned ?cd_NotOwned ?kk_NotOwned ?fc_NotOwned ?nn_NoDeed ?k_NoDeed_TradeError ?k_NoDeed_TooMany ?k_NoDeed_NotSquare ?k_NoDeed_NoFraction ?k_NoDeed_NoDeed ?k_NoDeed_NoLine ?k_NoDeed_NoRow ?k_NoDeed_NoOwn ?k_NoDeed_NotOwned ?k_NoDeed_NoOrder ?k_NoDeed_NoText ?k_NoDeed_NoTable ?nn_NoFraction ?k_NoFraction_TradeError ?k_NoFraction_TooMany ?k_NoFraction_NotSquare ?k_NoFraction_NoFraction ?k_NoFraction_NoDeed ?k_NoFraction_NoLine ?k_NoFraction_NoRow ?k_NoFraction_NoOwn ?k_NoFraction_NotOwned ?k_NoFraction_NoOrder ?k_NoFraction_NoText ?k_NoFraction_NoTable ?nn_NotSquare ?k_NotSquare_TradeError ?k_NotSquare_TooMany ?k_NotSquare_NotSquare ?k_NotSquare_NoFraction ?k_NotSquare_NoDeed ?k_NotSquare_NoLine ?k_NotSquare_NoRow ?k_NotSquare_NoOwn ?k_NotSquare_NotOwned ?k_NotSquare_NoOrder ?k_NotSquare_NoText ?k_NotSquare_NoTable ?nn_TooMany ?k_TooMany_TradeError ?k_TooMany_TooMany ?k_TooMany_NotSquare ?k_TooMany_NoFraction ?k_TooMany_NoDeed ?k_TooMany_NoLine ?k_TooMany_NoRow ?k_TooMany_NoOwn ?k_TooMany_NotOwned ?k_TooMany_NoOrder ?k_TooMany_NoText ?k_TooMany_NoTable ?nn_NotOwned ?k_NotOwned_TradeError ?k_NotOwned_TooMany ?k_NotOwned_NotSquare ?k_NotOwned_NoFraction ?k_NotOwned_NoDeed ?k_NotOwned_NoLine ?k_NotOwned_NoRow ?k_NotOwned_NoOwn ?k_NotOwned_NotOwned ?k_NotOwned_NoOrder ?k_NotOwned_NoText ?k_NotOwned_NoTable ?nn_NoOwn ?k_NoOwn_TradeError ?k_NoOwn_TooMany ?k_NoOwn_NotSquare ?k_NoOwn_NoFraction ?k_NoOwn_NoDeed ?k_NoOwn_NoLine ?k_NoOwn_NoRow ?k_NoOwn_NoOwn ?k_NoOwn_NotOwned ?k_NoOwn_NoOrder ?k_NoOwn_NoText ?k_NoOwn_NoTable ?nn_NoRow ?k_NoRow_TradeError ?k_NoRow_TooMany ?k_NoRow_NotSquare ?k_NoRow_NoFraction ?k_NoRow_NoDeed ?k_NoRow_NoLine ?k_NoRow_NoRow ?k_NoRow_NoOwn ?k_NoRow_NotOwned ?k_NoRow_NoOrder ?k_NoRow_NoText ?k_NoRow_NoTable ?nn_NoLine ?k_NoLine_TradeError ?k_NoLine_TooMany ?k_NoLine_NotSquare ?k_NoLine_NoFraction ?k_NoLine_NoDeed ?k_NoLine_NoLine ?k_NoLine_NoRow ?k_NoLine_NoOwn ?k_NoLine_NotOwned ?k_NoLine_NoOrder ?k_NoLine_NoText ?k_NoLine_NoTable ?nn_NoTable ?k_NoTable_TradeError ?k_NoTable_TooMany ?k_NoTable_NotSquare ?k_NoTable_NoFraction ?k_NoTable_NoDeed ?k_NoTable_NoLine ?k_NoTable_NoRow ?k_NoTable_NoOwn ?k_NoTable_NotOwned ?k_NoTable_NoOrder ?k_NoTable_NoText ?k_NoTable_NoTable ?nn_NoText ?k_NoText_TradeError ?k_NoText_TooMany ?k_NoText_NotSquare ?k_NoText_NoFraction ?k_NoText_NoDeed ?k_NoText_NoLine ?k_NoText_NoRow ?k_NoText_NoOwn ?k_NoText_NotOwned ?k_NoText_NoOrder ?k_NoText_NoText ?k_NoText_NoTable ?nn_NoOrder ?k_NoOrder_TradeError ?k_NoOrder_TooMany ?k_NoOrder_NotSquare ?k_NoOrder_NoFraction ?k_NoOrder_NoDeed ?k_NoOrder_NoLine ?k_NoOrder_NoRow ?k_NoOrder_NoOwn ?k_NoOrder_NotOwned ?k_NoOrder_NoOrder ?k_NoOrder_NoText ?k_NoOrder_NoTable ?nn_ValueError ?k_ValueError_TradeError ?k_ValueError_TooMany ?k_ValueError_NotSquare ?k_ValueError_NoFraction ?k_ValueError_NoDeed ?k_ValueError_NoLine ?k_ValueError_NoRow ?k_ValueError_NoOwn ?k_ValueError_NotOwned ?k_ValueError_NoOrder ?k_ValueError_NoText ?k_ValueError_NoTable ?nn_TradeError ?k_TradeError_TradeError ?k_TradeError_TooMany ?k_TradeError_NotSquare ?k_TradeError_NoFraction ?k_TradeError_NoDeed ?k_TradeError_NoLine ?k_TradeError_NoRow ?k_TradeError_NoOwn ?k_TradeError_NotOwned ?k_TradeError_NoOrder ?k_TradeError_NoText ?k_TradeError_NoTable
    (case a_TradeError => k_is)
    (case a_TooMany => k_is)
    (case a_NotSquare => k_is)
    (case a_NoFraction => k_is)
    (case a_NoDeed => k_is)
    (case a_NoLine => k_is)
    (case a_NoRow => k_is)
    (case a_NoOwn => k_is)
    (case a_NotOwned => k_is)
    (case a_NoOrder => k_is)
    (case a_NoText => k_is)
    (case a_NoTable => k_is)
    (case o_TradeError => exact rfl)
    (case be_TradeError => decide +kernel)
    (case bo_TradeError => decide +kernel)
    (case ga_TradeError => k_is)
    (case gn_TradeError => k_is)
    (case gc_TradeError => k_is)
    (case un_TradeError => kernel_rfl)
    (case o_TooMany => exact rfl)
    (case be_TooMany => decide +kernel)
    (case bo_TooMany => decide +kernel)
    (case ga_TooMany => k_is)
    (case gn_TooMany => k_is)
    (case gc_TooMany => k_is)
    (case un_TooMany => kernel_rfl)
    (case o_NotSquare => exact rfl)
    (case be_NotSquare => decide +kernel)
    (case bo_NotSquare => decide +kernel)
    (case ga_NotSquare => k_is)
    (case gn_NotSquare => k_is)
    (case gc_NotSquare => k_is)
    (case un_NotSquare => kernel_rfl)
    (case o_NoFraction => exact rfl)
    (case be_NoFraction => decide +kernel)
    (case bo_NoFraction => decide +kernel)
    (case ga_NoFraction => k_is)
    (case gn_NoFraction => k_is)
    (case gc_NoFraction => k_is)
    (case un_NoFraction => kernel_rfl)
    (case o_NoDeed => exact rfl)
    (case be_NoDeed => decide +kernel)
    (case bo_NoDeed => decide +kernel)
    (case ga_NoDeed => k_is)
    (case gn_NoDeed => k_is)
    (case gc_NoDeed => k_is)
    (case un_NoDeed => kernel_rfl)
    (case o_NoLine => exact rfl)
    (case be_NoLine => decide +kernel)
    (case bo_NoLine => decide +kernel)
    (case ga_NoLine => k_is)
    (case gn_NoLine => k_is)
    (case gc_NoLine => k_is)
    (case un_NoLine => kernel_rfl)
    (case o_NoRow => exact rfl)
    (case be_NoRow => decide +kernel)
    (case bo_NoRow => decide +kernel)
    (case ga_NoRow => k_is)
    (case gn_NoRow => k_is)
    (case gc_NoRow => k_is)
    (case un_NoRow => kernel_rfl)
    (case o_NoOwn => exact rfl)
    (case be_NoOwn => decide +kernel)
    (case bo_NoOwn => decide +kernel)
    (case ga_NoOwn => k_is)
    (case gn_NoOwn => k_is)
    (case gc_NoOwn => k_is)
    (case un_NoOwn => kernel_rfl)
    (case o_NotOwned => exact rfl)
    (case be_NotOwned => decide +kernel)
    (case bo_NotOwned => decide +kernel)
    (case ga_NotOwned => k_is)
    (case gn_NotOwned => k_is)
    (case gc_NotOwned => k_is)
    (case un_NotOwned => kernel_rfl)
    (case o_NoOrder => exact rfl)
    (case be_NoOrder => decide +kernel)
    (case bo_NoOrder => decide +kernel)
    (case ga_NoOrder => k_is)
    (case gn_NoOrder => k_is)
    (case gc_NoOrder => k_is)
    (case un_NoOrder => kernel_rfl)
    (case o_NoText => exact rfl)
    (case be_NoText => decide +kernel)
    (case bo_NoText => decide +kernel)
    (case ga_NoText => k_is)
    (case gn_NoText => k_is)
    (case gc_NoText => k_is)
    (case un_NoText => kernel_rfl)
    (case o_NoTable => exact rfl)
    (case be_NoTable => decide +kernel)
    (case bo_NoTable => decide +kernel)
    (case ga_NoTable => k_is)
    (case gn_NoTable => k_is)
    (case gc_NoTable => k_is)
    (case un_NoTable => kernel_rfl)
    (case gg => k_is)
    (case gt => k_is)
    (case ns_NoOwn => exact rfl)
    (case z_NoOwn => kernel_rfl)
    (case g0_NoOwn => k_is)
    (case g1_NoOwn => k_is)
    (case sp_TradeError => k_is)
    (case rd_TradeError => kernel_rfl)
    (case fn_TradeError => kernel_rfl)
    (case i_NoOwn => k_is)
    (case kp_NoOwn => k_is)
    (case l_NoOwn => k_is)
    (case cd_NoOwn => k_is)
    (case kk_NoOwn => k_is)
    (case fc_NoOwn => k_is)
    (case ns_NoRow => exact rfl)
    (case z_NoRow => kernel_rfl)
    (case g0_NoRow => k_is)
    (case g1_NoRow => k_is)
    (case i_NoRow => k_is)
    (case kp_NoRow => k_is)
    (case l_NoRow => k_is)
    (case cd_NoRow => k_is)
    (case kk_NoRow => k_is)
    (case fc_NoRow => k_is)
    (case e_NoLine => kernel_rfl)
    (case e_NoDeed => kernel_rfl)
    (case e_NoFraction => kernel_rfl)
    (case e_NotSquare => kernel_rfl)
    (case e_TooMany => kernel_rfl)
    (case ns_NoTable => exact rfl)
    (case z_NoTable => kernel_rfl)
    (case g0_NoTable => k_is)
    (case g1_NoTable => k_is)
    (case i_NoTable => k_is)
    (case kp_NoTable => k_is)
    (case l_NoTable => k_is)
    (case cd_NoTable => k_is)
    (case kk_NoTable => k_is)
    (case fc_NoTable => k_is)
    (case ns_NoText => exact rfl)
    (case z_NoText => kernel_rfl)
    (case g0_NoText => k_is)
    (case g1_NoText => k_is)
    (case i_NoText => k_is)
    (case kp_NoText => k_is)
    (case l_NoText => k_is)
    (case cd_NoText => k_is)
    (case kk_NoText => k_is)
    (case fc_NoText => k_is)
    (case ns_NoOrder => exact rfl)
    (case z_NoOrder => kernel_rfl)
    (case g0_NoOrder => k_is)
    (case g1_NoOrder => k_is)
    (case i_NoOrder => k_is)
    (case kp_NoOrder => k_is)
    (case l_NoOrder => k_is)
    (case cd_NoOrder => k_is)
    (case kk_NoOrder => k_is)
    (case fc_NoOrder => k_is)
    (case ns_NotOwned => exact rfl)
    (case z_NotOwned => kernel_rfl)
    (case g0_NotOwned => k_is)
    (case g1_NotOwned => k_is)
    (case i_NotOwned => k_is)
    (case kp_NotOwned => k_is)
    (case l_NotOwned => k_is)
    (case cd_NotOwned => k_is)
    (case kk_NotOwned => k_is)
    (case fc_NotOwned => k_is)
    (case nn_NoDeed => kernel_rfl)
    (case k_NoDeed_TradeError => kernel_rfl)
    (case k_NoDeed_TooMany => kernel_rfl)
    (case k_NoDeed_NotSquare => kernel_rfl)
    (case k_NoDeed_NoFraction => kernel_rfl)
    (case k_NoDeed_NoDeed => kernel_rfl)
    (case k_NoDeed_NoLine => kernel_rfl)
    (case k_NoDeed_NoRow => kernel_rfl)
    (case k_NoDeed_NoOwn => kernel_rfl)
    (case k_NoDeed_NotOwned => kernel_rfl)
    (case k_NoDeed_NoOrder => kernel_rfl)
    (case k_NoDeed_NoText => kernel_rfl)
    (case k_NoDeed_NoTable => kernel_rfl)
    (case nn_NoFraction => kernel_rfl)
    (case k_NoFraction_TradeError => kernel_rfl)
    (case k_NoFraction_TooMany => kernel_rfl)
    (case k_NoFraction_NotSquare => kernel_rfl)
    (case k_NoFraction_NoFraction => kernel_rfl)
    (case k_NoFraction_NoDeed => kernel_rfl)
    (case k_NoFraction_NoLine => kernel_rfl)
    (case k_NoFraction_NoRow => kernel_rfl)
    (case k_NoFraction_NoOwn => kernel_rfl)
    (case k_NoFraction_NotOwned => kernel_rfl)
    (case k_NoFraction_NoOrder => kernel_rfl)
    (case k_NoFraction_NoText => kernel_rfl)
    (case k_NoFraction_NoTable => kernel_rfl)
    (case nn_NotSquare => kernel_rfl)
    (case k_NotSquare_TradeError => kernel_rfl)
    (case k_NotSquare_TooMany => kernel_rfl)
    (case k_NotSquare_NotSquare => kernel_rfl)
    (case k_NotSquare_NoFraction => kernel_rfl)
    (case k_NotSquare_NoDeed => kernel_rfl)
    (case k_NotSquare_NoLine => kernel_rfl)
    (case k_NotSquare_NoRow => kernel_rfl)
    (case k_NotSquare_NoOwn => kernel_rfl)
    (case k_NotSquare_NotOwned => kernel_rfl)
    (case k_NotSquare_NoOrder => kernel_rfl)
    (case k_NotSquare_NoText => kernel_rfl)
    (case k_NotSquare_NoTable => kernel_rfl)
    (case nn_TooMany => kernel_rfl)
    (case k_TooMany_TradeError => kernel_rfl)
    (case k_TooMany_TooMany => kernel_rfl)
    (case k_TooMany_NotSquare => kernel_rfl)
    (case k_TooMany_NoFraction => kernel_rfl)
    (case k_TooMany_NoDeed => kernel_rfl)
    (case k_TooMany_NoLine => kernel_rfl)
    (case k_TooMany_NoRow => kernel_rfl)
    (case k_TooMany_NoOwn => kernel_rfl)
    (case k_TooMany_NotOwned => kernel_rfl)
    (case k_TooMany_NoOrder => kernel_rfl)
    (case k_TooMany_NoText => kernel_rfl)
    (case k_TooMany_NoTable => kernel_rfl)
    (case nn_NotOwned => kernel_rfl)
    (case k_NotOwned_TradeError => kernel_rfl)
    (case k_NotOwned_TooMany => kernel_rfl)
    (case k_NotOwned_NotSquare => kernel_rfl)
    (case k_NotOwned_NoFraction => kernel_rfl)
    (case k_NotOwned_NoDeed => kernel_rfl)
    (case k_NotOwned_NoLine => kernel_rfl)
    (case k_NotOwned_NoRow => kernel_rfl)
    (case k_NotOwned_NoOwn => kernel_rfl)
    (case k_NotOwned_NotOwned => kernel_rfl)
    (case k_NotOwned_NoOrder => kernel_rfl)
    (case k_NotOwned_NoText => kernel_rfl)
    (case k_NotOwned_NoTable => kernel_rfl)
    (case nn_NoOwn => kernel_rfl)
    (case k_NoOwn_TradeError => kernel_rfl)
    (case k_NoOwn_TooMany => kernel_rfl)
    (case k_NoOwn_NotSquare => kernel_rfl)
    (case k_NoOwn_NoFraction => kernel_rfl)
    (case k_NoOwn_NoDeed => kernel_rfl)
    (case k_NoOwn_NoLine => kernel_rfl)
    (case k_NoOwn_NoRow => kernel_rfl)
    (case k_NoOwn_NoOwn => kernel_rfl)
    (case k_NoOwn_NotOwned => kernel_rfl)
    (case k_NoOwn_NoOrder => kernel_rfl)
    (case k_NoOwn_NoText => kernel_rfl)
    (case k_NoOwn_NoTable => kernel_rfl)
    (case nn_NoRow => kernel_rfl)
    (case k_NoRow_TradeError => kernel_rfl)
    (case k_NoRow_TooMany => kernel_rfl)
    (case k_NoRow_NotSquare => kernel_rfl)
    (case k_NoRow_NoFraction => kernel_rfl)
    (case k_NoRow_NoDeed => kernel_rfl)
    (case k_NoRow_NoLine => kernel_rfl)
    (case k_NoRow_NoRow => kernel_rfl)
    (case k_NoRow_NoOwn => kernel_rfl)
    (case k_NoRow_NotOwned => kernel_rfl)
    (case k_NoRow_NoOrder => kernel_rfl)
    (case k_NoRow_NoText => kernel_rfl)
    (case k_NoRow_NoTable => kernel_rfl)
    (case nn_NoLine => kernel_rfl)
    (case k_NoLine_TradeError => kernel_rfl)
    (case k_NoLine_TooMany => kernel_rfl)
    (case k_NoLine_NotSquare => kernel_rfl)
    (case k_NoLine_NoFraction => kernel_rfl)
    (case k_NoLine_NoDeed => kernel_rfl)
    (case k_NoLine_NoLine => kernel_rfl)
    (case k_NoLine_NoRow => kernel_rfl)
    (case k_NoLine_NoOwn => kernel_rfl)
    (case k_NoLine_NotOwned => kernel_rfl)
    (case k_NoLine_NoOrder => kernel_rfl)
    (case k_NoLine_NoText => kernel_rfl)
    (case k_NoLine_NoTable => kernel_rfl)
    (case nn_NoTable => kernel_rfl)
    (case k_NoTable_TradeError => kernel_rfl)
    (case k_NoTable_TooMany => kernel_rfl)
    (case k_NoTable_NotSquare => kernel_rfl)
    (case k_NoTable_NoFraction => kernel_rfl)
    (case k_NoTable_NoDeed => kernel_rfl)
    (case k_NoTable_NoLine => kernel_rfl)
    (case k_NoTable_NoRow => kernel_rfl)
    (case k_NoTable_NoOwn => kernel_rfl)
    (case k_NoTable_NotOwned => kernel_rfl)
    (case k_NoTable_NoOrder => kernel_rfl)
    (case k_NoTable_NoText => kernel_rfl)
    (case k_NoTable_NoTable => kernel_rfl)
    (case nn_NoText => kernel_rfl)
    (case k_NoText_TradeError => kernel_rfl)
    (case k_NoText_TooMany => kernel_rfl)
    (case k_NoText_NotSquare => kernel_rfl)
    (case k_NoText_NoFraction => kernel_rfl)
    (case k_NoText_NoDeed => kernel_rfl)
    (case k_NoText_NoLine => kernel_rfl)
    (case k_NoText_NoRow => kernel_rfl)
    (case k_NoText_NoOwn => kernel_rfl)
    (case k_NoText_NotOwned => kernel_rfl)
    (case k_NoText_NoOrder => kernel_rfl)
    (case k_NoText_NoText => kernel_rfl)
    (case k_NoText_NoTable => kernel_rfl)
    (case nn_NoOrder => kernel_rfl)
    (case k_NoOrder_TradeError => kernel_rfl)
    (case k_NoOrder_TooMany => kernel_rfl)
    (case k_NoOrder_NotSquare => kernel_rfl)
    (case k_NoOrder_NoFraction => kernel_rfl)
    (case k_NoOrder_NoDeed => kernel_rfl)
    (case k_NoOrder_NoLine => kernel_rfl)
    (case k_NoOrder_NoRow => kernel_rfl)
    (case k_NoOrder_NoOwn => kernel_rfl)
    (case k_NoOrder_NotOwned => kernel_rfl)
    (case k_NoOrder_NoOrder => kernel_rfl)
    (case k_NoOrder_NoText => kernel_rfl)
    (case k_NoOrder_NoTable => kernel_rfl)
    (case nn_ValueError => kernel_rfl)
    (case k_ValueError_TradeError => kernel_rfl)
    (case k_ValueError_TooMany => kernel_rfl)
    (case k_ValueError_NotSquare => kernel_rfl)
    (case k_ValueError_NoFraction => kernel_rfl)
    (case k_ValueError_NoDeed => kernel_rfl)
    (case k_ValueError_NoLine => kernel_rfl)
    (case k_ValueError_NoRow => kernel_rfl)
    (case k_ValueError_NoOwn => kernel_rfl)
    (case k_ValueError_NotOwned => kernel_rfl)
    (case k_ValueError_NoOrder => kernel_rfl)
    (case k_ValueError_NoText => kernel_rfl)
    (case k_ValueError_NoTable => kernel_rfl)
    (case nn_TradeError => kernel_rfl)
    (case k_TradeError_TradeError => kernel_rfl)
    (case k_TradeError_TooMany => kernel_rfl)
    (case k_TradeError_NotSquare => kernel_rfl)
    (case k_TradeError_NoFraction => kernel_rfl)
    (case k_TradeError_NoDeed => kernel_rfl)
    (case k_TradeError_NoLine => kernel_rfl)
    (case k_TradeError_NoRow => kernel_rfl)
    (case k_TradeError_NoOwn => kernel_rfl)
    (case k_TradeError_NotOwned => kernel_rfl)
    (case k_TradeError_NoOrder => kernel_rfl)
    (case k_TradeError_NoText => kernel_rfl)
    (case k_TradeError_NoTable => kernel_rfl)
  have A__law_cell : DL.DefAt (L2.KOf KX) mg "_law_cell" Law.zbr := by
    dsimp only [L2.KOf]
    refine' DL.ziy KX G ?a ?l ?c ?k
    (case a => k_is)
    (case l => k_is)
    (case c => k_is)
    (case k => k_is)
  have A__law_sorts : DL.DefAt (L2.KOf KX) mg "_law_sorts" Law.zbf := by
    dsimp only [L2.KOf]
    refine' DL.ziy KX G ?a ?l ?c ?k
    (case a => k_is)
    (case l => k_is)
    (case c => k_is)
    (case k => k_is)
  have A_law : DL.DefAt (L2.KOf KX) mg "law" Law.zcI := by
    dsimp only [L2.KOf]
    refine' DL.ziy KX G ?a ?l ?c ?k
    (case a => k_is)
    (case l => k_is)
    (case c => k_is)
    (case k => k_is)
  refine DL.ziw hmg A_law (fun _ _ _ _ _ _ us hl => match us,hl with | [_],_ => rfl) fun f fd Fn base => ?_
  have C__law_cell := Law.zeT (P := PySem.Challenge.rw_ringtrade_k06_refusals_made.prog) (w := w) (base := base) T A__law_cell
  have C__law_sorts := Law.zet (P := PySem.Challenge.rw_ringtrade_k06_refusals_made.prog) (w := w) (base := base) T A__law_sorts xb_NoDeed ix_NoDeed xb_NoFraction ix_NoFraction xb_NotSquare ix_NotSquare xb_TooMany ix_TooMany xb_NotOwned ix_NotOwned xb_NoOwn ix_NoOwn xb_NoRow ix_NoRow xb_NoLine ix_NoLine xb_NoTable ix_NoTable xb_NoText ix_NoText xb_NoOrder ix_NoOrder ix_ValueError xb_TradeError ix_TradeError
  exact Law.ziv T Fn C__law_cell C__law_sorts (xi_NoOwn base) xn_NoOwn (xi_NoRow base) xn_NoRow xc_NoLine xn_NoLine xc_NoDeed xn_NoDeed xc_NoFraction xn_NoFraction xc_NotSquare xn_NotSquare xc_TooMany xn_TooMany (xt_NoTable base) xn_NoTable (xi_NoText base) xn_NoText (xi_NoOrder base) xn_NoOrder (xi_NotOwned base) xn_NotOwned at_hand at_why at_at
