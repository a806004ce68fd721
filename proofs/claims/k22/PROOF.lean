import PyProof.Rows.All
import Wide.All
import OpenK.AllK
import Wide.FinOn
import Lean
import PyProof.EqAt
import PyProof.EqKinds
import PyProof.TupleCall
import PyProof.Rows.SetFrom
import KE.KSortTup
import PyProof.Draws
import PyProof.EnumMake
import PyProof.ListRange
import PyProof.Rows.EnumRows
import PyProof.SetRoads
import PyProof.Rows.MinMaxN
import PyProof.Rows.MaxTwoN
import PySem.Challenge.RW_ringtrade_k22_fractions_reckoned
set_option Elab.async false
set_option linter.all false
set_option maxRecDepth 100000
set_option maxHeartbeats 4000000
section
namespace L2
open PySem PySem.Spec PyProof.Rows
noncomputable abbrev Key := Sum Int Str
noncomputable def zem : Key→Value→Bool
  | .inl k,v => Value.isInt k v
  | .inr x,v => Value.isStrOf x v
noncomputable def keyH (w : World) : Key→Int
  | .inl k => hashInt k
  | .inr x => hashStr w x
theorem keyIs_shape : ∀ {k : Key} {v : Value},zem k v = true→(∃ i t,k = Sum.inl i∧v = Value.int i t)∨(∃ x t,k = Sum.inr x∧v = Value.str x t)
  | .inl i,v,h => by
    obtain ⟨t,e⟩ := Value.isInt_shape (k := i) (v := v) h
    exact .inl ⟨i,t,rfl,e⟩
  | .inr x,v,h => by
    obtain ⟨t,e⟩ := Value.isStrOf_shape (x := x) (v := v) h
    exact .inr ⟨x,t,rfl,e⟩
theorem ze3 (i : Int) (t : Tok) : zem (.inl i) (.int i t) = true := by simp [zem,Value.isInt]
theorem ze2 (x : Str) (t : Tok) : zem (.inr x) (.str x t) = true := by simp [zem,Value.isStrOf]
theorem ziO (a b : Int) : decide ((Sum.inl a : Key) = Sum.inl b) = (a == b) := by
  by_cases e : a = b
  · subst e; simp
  · have h : ¬ (Sum.inl a : Key) = Sum.inl b := fun q => e (Sum.inl.inj q)
    rw [decide_eq_false h]
    exact (beq_eq_false_iff_ne.mpr e).symm
theorem ziL (a b : Str) : decide ((Sum.inr a : Key) = Sum.inr b) = decide (a = b) := by
  by_cases e : a = b
  · subst e; simp
  · have h : ¬ (Sum.inr a : Key) = Sum.inr b := fun q => e (Sum.inr.inj q)
    rw [decide_eq_false h,decide_eq_false e]
theorem ziN (a : Int) (b : Str) : decide ((Sum.inl a : Key) = Sum.inr b) = false := decide_eq_false (fun q => nomatch q)
theorem ziM (a : Str) (b : Int) : decide ((Sum.inr a : Key) = Sum.inl b) = false := decide_eq_false (fun q => nomatch q)
noncomputable def zbk (prog : Program) (w : World) : PySem.KeyKind prog w Key where
  is := zem
  hash := keyH w
  inj := fun v a b ha hb => by
    rcases keyIs_shape ha with ⟨i,t,rfl,rfl⟩ | ⟨x,t,rfl,rfl⟩
    · rcases keyIs_shape hb with ⟨j,u,rfl,e⟩ | ⟨y,u,rfl,e⟩
      · injection e with e1 _; rw [e1]
      · exact nomatch e
    · rcases keyIs_shape hb with ⟨j,u,rfl,e⟩ | ⟨y,u,rfl,e⟩
      · exact nomatch e
      · injection e with e1 _; rw [e1]
  byValue := fun k v h => by
    rcases keyIs_shape h with ⟨i,t,rfl,rfl⟩ | ⟨x,t,rfl,rfl⟩ <;> rfl
  pyHash := fun hv h => by
    rcases keyIs_shape hv with ⟨i,t,rfl,rfl⟩ | ⟨x,t,rfl,rfl⟩
    · exact wpAny_pyHash_int h
    · exact wpAny_pyHash_str h
  eqBool := fun hu hv h => by
    rcases keyIs_shape hu with ⟨i,t,rfl,rfl⟩ | ⟨x,t,rfl,rfl⟩
    · rcases keyIs_shape hv with ⟨j,u,rfl,rfl⟩ | ⟨y,u,rfl,rfl⟩
      · rw [ziO] at h; exact wpAny_eqBool_int h
      · rw [ziN] at h; exact SeqAt.EqAt.int_str i t y u _ _ _ _ h
    · rcases keyIs_shape hv with ⟨j,u,rfl,rfl⟩ | ⟨y,u,rfl,rfl⟩
      · rw [ziM] at h; exact SeqAt.EqAt.str_int x t j u _ _ _ _ h
      · rw [ziL] at h; exact wpAny_eqBool_str h
  «strs» := fun k x t v h => by
    rcases keyIs_shape h with ⟨i,u,rfl,e⟩ | ⟨y,u,rfl,e⟩
    · exact nomatch e
    · injection e with e1 _
      subst e1
      cases v <;> rfl
theorem zdJ (prog : Program) (w : World) (i : Int) (t : Tok) : (zbk prog w).is (.inl i) (.int i t) = true := ze3 i t
theorem zdI (prog : Program) (w : World) (x : Str) (t : Tok) : (zbk prog w).is (.inr x) (.str x t) = true := ze2 x t
end L2
namespace L2
open PySem PySem.Spec PyProof.Rows
inductive V where
  | non | bl (b : Bool) | int (i : Int) | str (x : Str) | byt (b : Array UInt8) | flt (b : UInt64) | ref (a : Addr) | ty (n : String)
  deriving DecidableEq
noncomputable def RelV : V→Value→Prop
  | .non,u => u = Value.none
  | .bl b,u => u = Value.bool b
  | .int i,u => ∃ t,u = Value.int i t
  | .str x,u => ∃ t,u = Value.str x t
  | .byt b,u => ∃ t,u = Value.bytes b t
  | .flt b,u => ∃ t,u = Value.float b t
  | .ref a,u => u = Value.ref a
  | .ty n,u => u = Value.type n
noncomputable abbrev Vals : List V→List Value→Prop := Paired RelV
theorem Vals.length {xs : List V} {us : List Value} (r : Vals xs us) : xs.length = us.length := Paired.length r
theorem Vals.get : ∀ {xs : List V} {us : List Value} {i : Nat} {x : V},Vals xs us→xs[i]? = some x→∃ u,us[i]? = some u∧RelV x u
  | _,_,_,_,.nil,e => by simp at e
  | _,_,0,_,.cons r _,e => by simp at e; subst e; exact ⟨_,rfl,r⟩
  | _,_,i + 1,x,.cons _ t,e => by
    obtain ⟨u,h1,h2⟩ := Vals.get (i := i) (x := x) t (by simpa using e)
    exact ⟨u,by simpa using h1,h2⟩
theorem Vals.set {x : V} {u : Value} (r : RelV x u) : ∀ {xs : List V} {us : List Value} (i : Nat),Vals xs us→Vals (xs.set i x) (us.set i u)
  | _,_,_,.nil => .nil
  | _,_,0,.cons _ t => .cons r t
  | _,_,i + 1,.cons q t => .cons q (Vals.set r i t)
theorem Vals.append {xs ys : List V} {us ws : List Value} (h : Vals xs us) (h' : Vals ys ws) : Vals (xs++ys) (us++ws) := by
  induction h with
  | nil => exact h'
  | cons r _ ih => exact .cons r ih
theorem Vals.take : ∀ {xs : List V} {us : List Value} (n : Nat),Vals xs us→Vals (xs.take n) (us.take n)
  | _,_,0,_ => .nil
  | _,_,_ + 1,.nil => .nil
  | _,_,n + 1,.cons r t => .cons r (Vals.take n t)
noncomputable def RelO : Option V→Option Value→Prop
  | some v,some u => RelV v u
  | none,none => True
  | _,_ => False
noncomputable def KV {κ : Type} : List (κ × V)→List (κ × Value)→Prop := Paired fun (p : κ × V) (q : κ × Value) => p.1 = q.1∧RelV p.2 q.2
noncomputable def kV : Key→V
  | .inl i => .int i
  | .inr x => .str x
inductive HO where
  | lst (xs : List V)
  | tup (xs : List V)
  | dK (kvs : List (Key × V)) | dT (kvs : List (List Key × V))
  | set (S : Int→Bool) (n : Nat)
  | ins (C dx : Addr) (fs : List (Str × V))
  | own (x : Addr)
  | xd (fs : List (Str × V))
  | met (f x : Addr)
  | rng (lo hi : Int)
  | frz (o : Obj) (u : HO)
  | tbl (ps : Array Value)
  | ext (φ : Heap→Prop)
noncomputable abbrev Hp := Addr→Option HO
noncomputable def upd (H : Hp) (a : Addr) (o : HO) : Hp := fun b => if b = a then some o else H b
theorem zaP {H : Hp} {a : Addr} {o : HO} : upd H a o a = some o := by unfold upd; rw [if_pos rfl]
theorem zam {H : Hp} {a b : Addr} {o : HO} (h : b≠a) : upd H a o b = H b := by unfold upd; rw [if_neg h]
theorem zbe {H : Hp} {a b : Addr} {o : HO} (h : H a = some o) (h' : H b = none) : a≠b := by
  intro e; subst e; rw [h] at h'; cases h'
section
variable (P : Program) (w : World)
noncomputable def zbo (H : Hp) (h : Heap) (a : Addr) : HO→Prop
  | .lst xs => xs.length≤sizeLine∧∃ (its : List Value) (n : Nat),Vals xs its∧h.get? a = some { cls := .type "list",data := .seq its.toArray n }
  | .tup xs => xs.length≤sizeLine∧∃ its : List Value,Vals xs its∧IsTup h a its.toArray∧∃ o,h.get? a = some o∧o.dict = none
  | .dK kvs => kvs.length≤sizeLine∧(a == sysModules) = false∧∃ vs,KV kvs vs∧h.DictOf (zbk P w) a vs
  | .dT kvs => kvs.length≤sizeLine∧(a == sysModules) = false∧∃ xs : List (List Key × Addr × Value),
      Paired (fun (p : List Key × V) (q : List Key × Addr × Value) => p.1 = q.1∧H q.2.1 = some (.tup (p.1.map kV))∧RelV p.2 q.2.2) kvs xs ∧
      ∃ o es ep,h.get? a = some o∧o.ExactDict∧o.data = .dict es ep∧es.toList = xs.map (entryOfKey (tupleKind (zbk P w)))∧(xs.map (·.1)).Nodup
  | .set S n => h.SetOf (intKind P w) a S n
  | .ins C dx fs => H dx = some (.own a)∧fs.length≤1000∧dx≠a∧h.get? a = some (PySem.W.instObj C dx) ∧
      ∃ mA,h.Ns1 dx mA∧(∀ f,RelO (fs.lookup f) (mA f))∧PySem.Within mA (fs.map (·.1))
  | .own _ => ∃ o,h.get? a = some o
  | .xd fs => ∃ mA,h.Ns1 a mA∧∀ f,RelO (fs.lookup f) (mA f)
  | .rng lo hi => ∃ t u v,h.get? a = some { cls := .type "range",data := .fields #[.int lo t,.int hi u,.int 1 v] }
  | .frz o u => h.get? a = some o∧zbo H h a u
  | .tbl ps => h.get? a = some { cls := .none,data := .fields ps }
  | .met f x => h.get? a = some (PySem.W.methodObj (.ref f) (.ref x))
  | .ext φ => φ h∧(∃ o,h.get? a = some o)∧∀ h1 h2 : Heap,φ h1→(∀ o,h1.get? a = some o→h2.get? a = some o)→φ h2
noncomputable def HOk (H : Hp) (h : Heap) : Prop := ∀ a o,H a = some o→zbo P w H h a o
end
section
variable {P : Program} {w : World} {H H' : Hp} {h h' : Heap} {a : Addr} {o : HO}
theorem zbo.lt (x : zbo P w H h a o) : a < h.objs.size := by
  cases o with
  | lst xs => obtain ⟨_,_,_,_,e⟩ := x; exact Heap.lt_size e
  | tup xs => obtain ⟨_,_,_,p,_⟩ := x; exact p.lt
  | dK kvs => obtain ⟨_,_,_,_,o,_,_,e,_⟩ := x; exact Heap.lt_size e
  | dT kvs => obtain ⟨_,_,_,_,o,_,_,e,_⟩ := x; exact Heap.lt_size e
  | set S n => obtain ⟨o,_,_,_,e,_⟩ := x; exact Heap.lt_size e
  | ins C dx fs => obtain ⟨_,_,_,e,_⟩ := x; exact Heap.lt_size e
  | own y => obtain ⟨_,e⟩ := x; exact Heap.lt_size e
  | xd fs => obtain ⟨_,⟨_,_,_,e,_⟩,_⟩ := x; exact Heap.lt_size e
  | rng lo hi => obtain ⟨_,_,_,e⟩ := x; exact Heap.lt_size e
  | frz ob u => obtain ⟨e,_⟩ := x; exact Heap.lt_size e
  | tbl ps => exact Heap.lt_size (show h.get? a = some _ from x)
  | met f y => exact Heap.lt_size (show h.get? a = some _ from x)
  | ext φ => obtain ⟨_,⟨_,e⟩,_⟩ := x; exact Heap.lt_size e
theorem Paired.mapP {α β : Type} {F G : α→β→Prop} {l₁ : List α} {l₂ : List β} (h : Paired F l₁ l₂) (f : ∀ a b,F a b→G a b) : Paired G l₁ l₂ := by
  induction h with
  | nil => exact .nil
  | cons r _ ih => exact .cons (f _ _ r) ih
theorem zbo.stay (x : zbo P w H h a o) (k : ∀ b u,(b = a∨H b = some (.own a))→h.get? b = some u→h'.get? b = some u)
    (ho : ∀ b,H b = some (.own a)→H' b = some (.own a)) (ht : ∀ b xs,H b = some (.tup xs)→H' b = some (.tup xs)) : zbo P w H' h' a o := by
  induction o with
  | lst xs => obtain ⟨z,its,n,r,e⟩ := x; exact ⟨z,its,n,r,k _ _ (.inl rfl) e⟩
  | tup xs => obtain ⟨z,its,r,⟨ob,e,c⟩,ob2,e2,c2⟩ := x; exact ⟨z,its,r,⟨ob,k _ _ (.inl rfl) e,c⟩,ob2,k _ _ (.inl rfl) e2,c2⟩
  | dK kvs => obtain ⟨z,y,vs,r,ob,es,ep,e,c⟩ := x; exact ⟨z,y,vs,r,ob,es,ep,k _ _ (.inl rfl) e,c⟩
  | dT kvs =>
    obtain ⟨z,y,xs,r,ob,es,ep,e,c⟩ := x
    exact ⟨z,y,xs,Paired.mapP r fun p q z => ⟨z.1,ht _ _ z.2.1,z.2.2⟩,ob,es,ep,k _ _ (.inl rfl) e,c⟩
  | set S n => obtain ⟨ob,es,ep,t,e,c⟩ := x; exact ⟨ob,es,ep,t,k _ _ (.inl rfl) e,c⟩
  | ins C dx fs =>
    obtain ⟨d,z,ne,e,mA,⟨od,es,ep,e2,c⟩,r⟩ := x
    exact ⟨ho _ d,z,ne,k _ _ (.inl rfl) e,mA,⟨od,es,ep,k _ _ (.inr d) e2,c⟩,r⟩
  | own y => obtain ⟨ob,e⟩ := x; exact ⟨ob,k _ _ (.inl rfl) e⟩
  | xd fs => obtain ⟨mA,⟨od,es,ep,e,c⟩,r⟩ := x; exact ⟨mA,⟨od,es,ep,k _ _ (.inl rfl) e,c⟩,r⟩
  | rng lo hi => obtain ⟨t,u,v,e⟩ := x; exact ⟨t,u,v,k _ _ (.inl rfl) e⟩
  | frz ob u ih => obtain ⟨e,q⟩ := x; exact ⟨k _ _ (.inl rfl) e,ih q⟩
  | tbl ps =>
    have e : h.get? a = some { cls := .none,data := .fields ps } := x
    show h'.get? a = some { cls := .none,data := .fields ps }
    exact k a _ (.inl rfl) e
  | met f y =>
    have e : h.get? a = some (PySem.W.methodObj (.ref f) (.ref y)) := x
    show h'.get? a = some (PySem.W.methodObj (.ref f) (.ref y))
    exact k a _ (.inl rfl) e
  | ext φ => obtain ⟨p,⟨o,e⟩,st⟩ := x; exact ⟨st _ _ p fun o q => k _ _ (.inl rfl) q,⟨o,k _ _ (.inl rfl) e⟩,st⟩
theorem HOk.lt (x : HOk P w H h) (e : H a = some o) : a < h.objs.size := (x a o e).lt
theorem HOk.fresh (x : HOk P w H h) (e : h.objs.size≤a) : H a = none := by
  cases q : H a with
  | none => rfl
  | some u => exact absurd (Nat.lt_of_lt_of_le (x.lt q) e) (Nat.lt_irrefl _)
theorem HOk.kept (x : HOk P w H h) (k : ∀ b u,h.get? b = some u→h'.get? b = some u) : HOk P w H h' := fun a o e =>
  (x a o e).stay (fun b u _ q => k b u q) (fun _ q => q) fun _ _ q => q
theorem HOk.laid (x : HOk P w H h) (k : ∀ b u,h.get? b = some u→h'.get? b = some u) (hp : h.objs.size≤a) (new : zbo P w (upd H a o) h' a o) : HOk P w (upd H a o) h' := fun b u e => by
  have hn := x.fresh hp
  by_cases hb : b = a
  · subst hb; rw [zaP] at e; cases e; exact new
  · rw [zam hb] at e
    exact (x b u e).stay (fun c v _ q => k c v q) (fun c q => by rw [zam (zbe q hn)]; exact q) fun c xs q => by rw [zam (zbe q hn)]; exact q
end
noncomputable def Rd (H : Hp) (a : Addr) (u : HO) : Prop := H a = some u∨∃ o,H a = some (.frz o u)
theorem Rd.ok {P : Program} {w : World} {H : Hp} {h : Heap} {a : Addr} {u : HO} (r : Rd H a u) (x : HOk P w H h) : zbo P w H h a u := by
  rcases r with r | ⟨o,r⟩
  · exact x a u r
  · obtain ⟨_,q⟩ := x a _ r
    exact q
noncomputable def Mut : Option HO→Prop
  | some (.lst _) => True
  | some (.dK _) => True
  | some (.dT _) => True
  | some (.set _ _) => True
  | some (.ins _ _ _) => True
  | some (.ext _) => True
  | _ => False
section
variable {P : Program} {w : World} {H : Hp} {h h' : Heap} {x e : Addr} {o' : HO}
theorem HOk.write (ok : HOk P w H h) (mu : Mut (H x)) (he : e = x∨H e = some (.own x)) (k : ∀ b u,b≠e→h.get? b = some u→h'.get? b = some u) (heo : ∃ u,h'.get? e = some u)
    (new : zbo P w (upd H x o') h' x o') : HOk P w (upd H x o') h' := fun b u q => by
  have nown : ∀ c y,H c = some (.own y)→c≠x := fun c y r z => by subst z; rw [r] at mu; exact mu
  have ntup : ∀ c xs,H c = some (.tup xs)→c≠x := fun c xs r z => by subst z; rw [r] at mu; exact mu
  by_cases hb : b = x
  · subst hb; rw [zaP] at q; cases q; exact new
  · rw [zam hb] at q
    by_cases hbe : b = e
    · have q' : H b = some (.own x) := by
        rcases he with z | z
        · exact absurd (hbe.trans z) hb
        · rw [hbe]; exact z
      rw [q] at q'; cases q'
      obtain ⟨v,hv⟩ := heo
      exact ⟨v,by rw [hbe]; exact hv⟩
    · refine (ok b u q).stay (fun c v hc r => k c v ?_ r) (fun c r => by rw [zam (nown c b r)]; exact r) fun c xs r => by rw [zam (ntup c xs r)]; exact r
      rcases hc with rfl | hc
      · exact hbe
      · rintro rfl
        rcases he with z | z
        · exact nown c b hc z
        · rw [hc] at z; cases z; exact hb rfl
end
structure Un (fs ex : List Addr) (H H' : Hp) (h h' : Heap) : Prop where
  keep : ∀ b o,h.get? b = some o→H b = none→b∉fs→b∉ex→h'.get? b = some o
  slot : ∀ b o,h.get? b = some o→H b = none→b∈fs→b∉ex→∃ sl,h'.get? b = some { o with slots := sl }
  free : ∀ b o,h.get? b = some o→H b = none→b∉ex→H' b = none
  there : ∀ b o,h.get? b = some o→b∉ex→∃ o',h'.get? b = some o'
  tups : ∀ b xs,H b = some (.tup xs)→H' b = some (.tup xs)
  frzs : ∀ b o u,H b = some (.frz o u)→H' b = some (.frz o u)
  tbls : ∀ b ps,H b = some (.tbl ps)→∃ more,H' b = some (.tbl (ps++more))
section
variable {fs fs' ex ex' : List Addr} {H H1 H2 : Hp} {h h1 h2 h' : Heap} {a x e : Addr} {o : HO}
theorem Un.any (u : Un fs ex H H1 h h1) {b : Addr} {ob : Obj} (q : h.get? b = some ob) (n : H b = none) (hx : b∉ex) : ∃ sl,h1.get? b = some { ob with slots := sl } := by
  by_cases hb : b∈fs
  · exact u.slot b ob q n hb hx
  · exact ⟨ob.slots,u.keep b ob q n hb hx⟩
theorem Un.trans (a : Un fs ex H H1 h h1) (b : Un fs ex H1 H2 h1 h2) : Un fs ex H H2 h h2 where
  keep := fun c ob q n hc hx => b.keep c ob (a.keep c ob q n hc hx) (a.free c ob q n hx) hc hx
  slot := fun c ob q n hc hx => by
    obtain ⟨sl,e1⟩ := a.slot c ob q n hc hx
    obtain ⟨sl',e2⟩ := b.slot c _ e1 (a.free c ob q n hx) hc hx
    exact ⟨sl',e2⟩
  free := fun c ob q n hx => by
    obtain ⟨o',e1⟩ := a.there c ob q hx
    exact b.free c o' e1 (a.free c ob q n hx) hx
  there := fun c ob q hx => by
    obtain ⟨o',e1⟩ := a.there c ob q hx
    exact b.there c o' e1 hx
  tups := fun c xs q => b.tups c xs (a.tups c xs q)
  frzs := fun c ob xs q => b.frzs c ob xs (a.frzs c ob xs q)
  tbls := fun c ps q => by
    obtain ⟨m1,e1⟩ := a.tbls c ps q
    obtain ⟨m2,e2⟩ := b.tbls c _ e1
    exact ⟨m1++m2,by rw [e2,Array.append_assoc]⟩
theorem Un.kept (k : ∀ b u,h.get? b = some u→h'.get? b = some u) : Un fs ex H H h h' :=
  ⟨fun b ob q _ _ _ => k b ob q,fun b ob q _ _ _ => ⟨ob.slots,k b ob q⟩,fun _ _ _ n _ => n,fun b ob q _ => ⟨ob,k b ob q⟩,fun _ _ q => q,fun _ _ _ q => q,fun _ ps q => ⟨#[],by rw [q]; simp⟩⟩
theorem Un.refl : Un fs ex H H h h := Un.kept fun _ _ q => q
theorem Un.laid (k : ∀ b u,h.get? b = some u→h'.get? b = some u) (hp : h.objs.size≤a) (hn : H a = none) : Un fs ex H (upd H a o) h h' where
  keep := fun b u q _ _ _ => k b u q
  slot := fun b u q _ _ _ => ⟨u.slots,k b u q⟩
  free := fun b u q n _ => by rw [zam (Nat.ne_of_lt (Nat.lt_of_lt_of_le (Heap.lt_size q) hp))]; exact n
  there := fun b u q _ => ⟨u,k b u q⟩
  tups := fun b xs q => by rw [zam (zbe q hn)]; exact q
  frzs := fun b u xs q => by rw [zam (zbe q hn)]; exact q
  tbls := fun b ps q => ⟨#[],by rw [zam (zbe q hn),q]; simp⟩
theorem Un.write (mu : Mut (H x)) (he : e = x∨H e = some (.own x)) (k : ∀ b u,b≠e→h.get? b = some u→h'.get? b = some u) (heo : ∃ u,h'.get? e = some u) : Un fs ex H (upd H x o) h h' := by
  have hx : ∀ b,H b = none→b≠x := fun b n z => by subst z; rw [n] at mu; exact mu
  have hb : ∀ b,H b = none→b≠e := fun b n z => by
    subst z
    rcases he with r | r
    · exact hx b n r
    · rw [n] at r; cases r
  have hm : ∀ b u,H b = some u→¬ Mut (some u)→b≠x := fun b u q nm z => by subst z; rw [q] at mu; exact nm mu
  refine ⟨fun b u q n _ _ => k b u (hb b n) q,fun b u q n _ _ => ⟨u.slots,k b u (hb b n) q⟩,fun b u q n _ => by rw [zam (hx b n)]; exact n,fun b u q _ => ?_,
    fun b xs q => by rw [zam (hm b _ q fun z => z)]; exact q,fun b u xs q => by rw [zam (hm b _ q fun z => z)]; exact q,fun b ps q => ⟨#[],by rw [zam (hm b _ q fun z => z),q]; simp⟩⟩
  by_cases hbe : b = e
  · subst hbe; exact heo
  · exact ⟨u,k b u hbe q⟩
theorem Un.mono (u : Un fs ex H H1 h h1) (hs : ∀ b∈fs,b∈fs') (hx : ∀ b∈ex,b∈ex') : Un fs' ex' H H1 h h1 :=
  ⟨fun b ob q n hb he => u.keep b ob q n (fun z => hb (hs b z)) fun z => he (hx b z),fun _ _ q n _ he => u.any q n fun z => he (hx _ z),fun b ob q n he => u.free b ob q n fun z => he (hx b z),fun b ob q he => u.there b ob q fun z => he (hx b z),u.tups,u.frzs,u.tbls⟩
end
noncomputable def trk (h : Heap) (H : Hp) : List Addr := (List.range h.objs.size).filter fun a => (H a).isSome
noncomputable def hidT (h : Heap) (H : Hp) : Heap := PySem.W.hideAll h (trk h H)
theorem ze6 (h : Heap) (H : Hp) : (hidT h H).objs.size = h.objs.size := PySem.W.hideAll_size _ _
theorem zf8 {h : Heap} {H : Hp} {b : Addr} {o : Obj} (e : h.get? b = some o) (n : H b = none) : (hidT h H).get? b = some o :=
  PySem.W.hideAll_get _ e fun hm => by
    have q : (H b).isSome = true := (List.mem_filter.mp hm).2
    rw [n] at q; simp at q
theorem zhl {h : Heap} {H : Hp} {b : Addr} {o : Obj} (e : (hidT h H).get? b = some o) : h.get? b = some o∧H b = none := by
  have e' : h.get? b = some o := PySem.W.of_hideAll (trk h H) e
  refine ⟨e',?_⟩
  cases q : H b with
  | none => rfl
  | some x =>
    have hm : b∈trk h H := List.mem_filter.mpr ⟨List.mem_range.mpr (Heap.lt_size e'),by simp [q]⟩
    have z : (hidT h H).get? b = none := PySem.W.hideAll_none (trk h H) hm
    rw [z] at e; cases e
noncomputable def zhK (g h : Heap) (L : Addr) : List (Addr × Obj) := (List.range h.objs.size).filterMap fun a => if a = L∨(g.get? a).isSome = true then none else (h.get? a).map fun o => (a,o)
noncomputable def rest (g h : Heap) (L d : Addr) : List (Addr × Obj) := (zhK g h L).filter fun p => decide (p.1≠d)
end L2
namespace L2
open PySem PySem.Spec PyProof.Rows
structure Mod (K : PySem.W.Frag) (mg : Str→Option Value) (base : Heap) : Prop where
  kin : K.In base
  glob : base.Ns mainGlobals mg
  blt : ∃ mb,base.Ns builtinsNs mb∧∀ x : Str,x≠"__name__"→mb x = bootBuiltins x
  nolimit : base.NoLimit
structure Cx where
  prog : Program
  w : World
  K : PySem.W.Frag
  mg : Str→Option Value
  base : Heap
  A : Around
  N : List Str
  s₀ : Shared
  H₀ : Hp
  env : Env
  outer : List Env
  stack : List Env
  ex : List Addr
  fn : Str→Bool
  calm : Bool
  pn : List (Addr × Obj)
  xe : Value→Shared→Prop
noncomputable def frs (l : List Env) : List Addr := l.filterMap (·.frame)
noncomputable abbrev Cx.fs (X : Cx) : List Addr := frs X.outer
noncomputable def Vis (sc : Scope) (x : Str) : Prop := sc.names.lookup x = some .local∨sc.names.lookup x = some .cell∨sc.names.lookup x = some .free
noncomputable def Loc (sc : Scope) (x : Str) : Prop := sc.names.lookup x = some .local∨sc.names.lookup x = some .cell
noncomputable def Look (env : Env) (h : Heap) (m : Str→Option Value) (x : Str) (u : Value) : Prop :=
  (env.kindOf x = some .local∧m x = some u)∨((env.kindOf x = some .cell∨env.kindOf x = some .free)∧∃ c,env.cells.lookup x = some c∧h.IsCell c (some u))
structure Cx.Ok (X : Cx) : Prop where
  mod : Mod X.K X.mg X.base
  kind : X.env.scope.kind = .function
  glob : X.env.globals = mainGlobals
  blt : X.env.builtins = builtinsNs
  above : X.s₀.heap.objs.size≤X.env.locals
  inj : ∀ x y c,X.env.cells.lookup x = some c→X.env.cells.lookup y = some c→x = y
  has : ∀ x,(X.env.kindOf x = some .cell∨X.env.kindOf x = some .free)→∃ c,X.env.cells.lookup x = some c
  cab : ∀ x c,X.fn x = true→X.env.cells.lookup x = some c→X.s₀.heap.objs.size≤c
  hd : X.calm = true→X.A.handled = none
  frames : X.A.frames = some X.stack
  stk : X.stack = X.outer∨(X.stack = X.env::X.outer∧X.env.frame = some X.env.locals)
  exf : ∀ b∈X.ex,b≠X.env.locals∧∀ x c,X.env.cells.lookup x = some c→c≠b
  bs : ∀ b o,X.base.get? b = some o→X.s₀.heap.get? b = some o∧X.H₀ b = none
  bsz : X.base.objs.size≤X.s₀.heap.objs.size
  noex : ∀ b o,X.base.get? b = some o→b∉X.ex
  exfs : ∀ b∈X.ex,b∉X.fs
  funs : X.s₀.heap.FunFrames X.base X.outer
  frf : ∀ b∈X.fs,X.H₀ b = none
structure Inv (X : Cx) (pins : List (Addr × Obj)) (σ : List (Option V)) (H : Hp) (s : Shared) : Prop where
  ok : X.Ok
  os : s.os = X.s₀.os
  bare : AllBare s.gens
  base : Un X.fs X.ex X.H₀ H X.s₀.heap s.heap
  loc : ∃ m,s.heap.Ns X.env.locals m∧∀ (i : Nat) (x : Str) (v : V),X.N[i]? = some x→σ[i]? = some (some v)→Vis X.env.scope x→∃ u,RelV v u∧Look X.env s.heap m x u
  cell : ∀ x c,X.env.cells.lookup x = some c→∃ v,s.heap.IsCell c v
  free : H X.env.locals = none
  freeC : ∀ x c,X.env.cells.lookup x = some c→H c = none
  pin : ∀ p∈X.pn++pins,s.heap.get? p.1 = some p.2∧H p.1 = none∧p.1≠X.env.locals∧p.1∉X.fs∧∀ v,p.2.data≠.cell v
  hok : HOk X.prog X.w H s.heap
  len : σ.length = X.N.length
section
variable {X : Cx} {pins : List (Addr × Obj)} {σ : List (Option V)} {H H' : Hp} {s : Shared} {h' : Heap}
theorem Cx.Ok.nofr (ok : X.Ok) {b : Addr} {o : Obj} (e : X.base.get? b = some o) : b∉X.fs := fun hb => by
  have := (ok.funs.mem hb).1
  rw [e] at this; cases this
theorem Inv.bs (I : Inv X pins σ H s) : ∀ b o,X.base.get? b = some o→s.heap.get? b = some o∧H b = none := fun b o e =>
  ⟨I.base.keep b o (I.ok.bs b o e).1 (I.ok.bs b o e).2 (I.ok.nofr e) (I.ok.noex b o e),I.base.free b o (I.ok.bs b o e).1 (I.ok.bs b o e).2 (I.ok.noex b o e)⟩
theorem Inv.bk (I : Inv X pins σ H s) : ∀ b o,X.base.get? b = some o→s.heap.get? b = some o := fun b o e => (I.bs b o e).1
theorem Inv.mod (I : Inv X pins σ H s) : Mod X.K X.mg X.base := I.ok.mod
theorem Inv.kIn (I : Inv X pins σ H s) : X.K.In s.heap := I.ok.mod.kin.keeps I.bk
theorem Inv.nolimit (I : Inv X pins σ H s) : s.heap.NoLimit := I.ok.mod.nolimit.keeps I.bk
theorem Inv.fr (I : Inv X pins σ H s) : ∃ m,Fr X.base X.env.locals s.heap m :=
  let ⟨m,hn,_⟩ := I.loc
  ⟨m,hn,I.bk,Nat.le_trans I.ok.bsz I.ok.above⟩
theorem Inv.lt (I : Inv X pins σ H s) : X.env.locals < s.heap.objs.size := let ⟨_,hn,_⟩ := I.loc; hn.lt
theorem Inv.sz (I : Inv X pins σ H s) : X.s₀.heap.objs.size≤s.heap.objs.size := Nat.le_trans I.ok.above (Nat.le_of_lt I.lt)
theorem Inv.nofs (I : Inv X pins σ H s) {a : Addr} (h : s.heap.objs.size≤a) : a∉X.fs := fun hb => by
  obtain ⟨_,o,ho,_⟩ := I.ok.funs.mem hb
  exact absurd (Nat.lt_of_lt_of_le (Heap.lt_size ho) (Nat.le_trans I.sz h)) (Nat.lt_irrefl _)
theorem Inv.cne (I : Inv X pins σ H s) : ∀ x c,X.env.cells.lookup x = some c→c≠X.env.locals := fun x c e z => by
  obtain ⟨v,o,ho,hd⟩ := I.cell x c e
  obtain ⟨m,⟨o',es,ep,ho',hd',_⟩,_⟩ := I.loc
  rw [z,ho'] at ho; cases ho; rw [hd'] at hd; cases hd
theorem Inv.funs (I : Inv X pins σ H s) : s.heap.FunFrames X.base X.outer := by
  have all : ∀ (l : List Env),(∀ b∈frs l,b∈X.fs)→X.s₀.heap.FunFrames X.base l→s.heap.FunFrames X.base l := by
    intro l
    induction l with
    | nil => intro _ _; trivial
    | cons env r ih =>
      intro hs hl
      obtain ⟨hk,⟨L,o,hf,hn,ho,hd⟩,hr⟩ := hl
      have hL : L∈X.fs := hs L (by unfold frs; rw [List.filterMap_cons,hf]; exact List.mem_cons_self)
      obtain ⟨sl,e⟩ := I.base.slot L o ho (I.ok.frf L hL) hL fun z => I.ok.exfs L z hL
      exact ⟨hk,⟨L,_,hf,hn,e,hd⟩,ih (fun b hb => hs b (by unfold frs; rw [List.filterMap_cons,hf]; exact List.mem_cons_of_mem _ hb)) hr⟩
  exact all X.outer (fun _ hb => hb) I.ok.funs
theorem Inv.stack (I : Inv X pins σ H s) : s.heap.FunFrames X.base X.stack := by
  rcases I.ok.stk with e | ⟨e,hf⟩
  · rw [e]; exact I.funs
  · rw [e]
    obtain ⟨m,hn,_⟩ := I.loc
    refine .cons (by rw [I.ok.kind]; decide) hf hn ?_ I.funs
    exact Heap.get?_none_of_le (Nat.le_trans I.ok.bsz I.ok.above)
theorem Inv.stkSub (I : Inv X pins σ H s) : ∀ b∈frs X.stack,b∈X.env.locals::X.fs := fun b hb => by
  rcases I.ok.stk with e | ⟨e,hf⟩
  · rw [e] at hb; exact List.mem_cons_of_mem _ hb
  · rw [e] at hb
    unfold frs at hb
    rw [List.filterMap_cons,hf] at hb
    exact hb
theorem Inv.stkFree (I : Inv X pins σ H s) : ∀ b∈frs X.stack,H b = none := fun b hb => by
  rcases List.mem_cons.mp (I.stkSub b hb) with e | hb
  · rw [e]; exact I.free
  · obtain ⟨_,o,ho,_⟩ := I.ok.funs.mem hb
    exact I.base.free b o ho (I.ok.frf b hb) fun z => I.ok.exfs b z hb
theorem Inv.step {g' : Array GenState} {t' : Nat} {d' : Drawn} {ch : List Addr} (I : Inv X pins σ H s)
    (hch : ∀ b∈ch,(b∈X.ex∨X.s₀.heap.objs.size≤b)∧b≠X.env.locals∧(∀ x c,X.env.cells.lookup x = some c→c≠b)∧∀ p∈X.pn++pins,p.1≠b)
    (keep : ∀ b o,b≠X.env.locals→b∉X.fs→b∉ch→s.heap.get? b = some o→H b = none→h'.get? b = some o)
    (slot : ∀ b o,b≠X.env.locals→b∈X.fs→b∉ch→s.heap.get? b = some o→H b = none→∃ sl,h'.get? b = some { o with slots := sl }) (free : ∀ b o,b∉ch→s.heap.get? b = some o→H b = none→H' b = none)
    (there : ∀ b o,b∉ch→s.heap.get? b = some o→∃ o',h'.get? b = some o')
    (tups : ∀ b xs,H b = some (.tup xs)→H' b = some (.tup xs)) (frzs : ∀ b o u,H b = some (.frz o u)→H' b = some (.frz o u)) (tbls : ∀ b ps,H b = some (.tbl ps)→∃ more,H' b = some (.tbl (ps++more)))
    (ns : ∀ m,s.heap.Ns X.env.locals m→h'.Ns X.env.locals m) (hok : HOk X.prog X.w H' h') (hg : AllBare g') :
    Inv X pins σ H' { s with heap := h',gens := g',drawn := d',toks := t' } := by
  have neL : ∀ b o,X.s₀.heap.get? b = some o→b≠X.env.locals := fun b o e => Nat.ne_of_lt (Nat.lt_of_lt_of_le (Heap.lt_size e) I.ok.above)
  have neC : ∀ b o,X.s₀.heap.get? b = some o→b∉X.ex→b∉ch := fun b o e hx hb => by
    rcases (hch b hb).1 with z | z
    · exact hx z
    · exact absurd (Nat.lt_of_lt_of_le (Heap.lt_size e) z) (Nat.lt_irrefl _)
  have cellK : ∀ x c,X.env.cells.lookup x = some c→∀ v,s.heap.IsCell c v→h'.IsCell c v := fun x c e v ⟨o,ho,hd⟩ => by
    have nch : c∉ch := fun z => (hch c z).2.2.1 x c e rfl
    by_cases hc : c∈X.fs
    · obtain ⟨sl,q⟩ := slot c o (I.cne x c e) hc nch ho (I.freeC x c e)
      exact ⟨_,q,hd⟩
    · exact ⟨o,keep c o (I.cne x c e) hc nch ho (I.freeC x c e),hd⟩
  refine ⟨I.ok,I.os,hg,⟨fun b o e n hb hx => ?_,fun b o e n hb hx => ?_,fun b o e n hx => ?_,fun b o e hx => ?_,fun b xs e => tups b xs (I.base.tups b xs e),fun b o xs e => frzs b o xs (I.base.frzs b o xs e),fun b ps e => ?_⟩,?_,fun x c e => ?_,?_,fun x c e => ?_,fun p hp => ?_,hok,I.len⟩
  · exact keep b o (neL b o e) hb (neC b o e hx) (I.base.keep b o e n hb hx) (I.base.free b o e n hx)
  · obtain ⟨sl,e1⟩ := I.base.slot b o e n hb hx
    obtain ⟨sl',e2⟩ := slot b _ (neL b o e) hb (neC b o e hx) e1 (I.base.free b o e n hx)
    exact ⟨sl',e2⟩
  · obtain ⟨o',e1⟩ := I.base.there b o e hx
    exact free b o' (neC b o e hx) e1 (I.base.free b o e n hx)
  · obtain ⟨o',e1⟩ := I.base.there b o e hx
    exact there b o' (neC b o e hx) e1
  · obtain ⟨m1,e1⟩ := I.base.tbls b ps e
    obtain ⟨m2,e2⟩ := tbls b _ e1
    exact ⟨m1++m2,by rw [e2,Array.append_assoc]⟩
  · obtain ⟨m,hn,hl⟩ := I.loc
    refine ⟨m,ns m hn,fun i x v e1 e2 e3 => ?_⟩
    obtain ⟨u,r,l⟩ := hl i x v e1 e2 e3
    refine ⟨u,r,?_⟩
    rcases l with l | ⟨k,c,e,z⟩
    · exact .inl l
    · exact .inr ⟨k,c,e,cellK x c e _ z⟩
  · obtain ⟨v,z⟩ := I.cell x c e
    exact ⟨v,cellK x c e v z⟩
  · obtain ⟨m,⟨o,_,_,ho,_⟩,_⟩ := I.loc
    exact free _ o (fun z => (hch _ z).2.1 rfl) ho I.free
  · obtain ⟨v,o,ho,hd⟩ := I.cell x c e
    exact free c o (fun z => (hch c z).2.2.1 x c e rfl) ho (I.freeC x c e)
  · obtain ⟨e,n,ne,nf,d⟩ := I.pin p hp
    have nch : p.1∉ch := fun z => (hch p.1 z).2.2.2 p hp rfl
    exact ⟨keep p.1 p.2 ne nf nch e n,free p.1 p.2 nch e n,ne,nf,d⟩
theorem Inv.un {t' : Nat} (I : Inv X pins σ H s) (u : Un X.fs [] H H' s.heap h') (hok : HOk X.prog X.w H' h') : Inv X pins σ H' { s with heap := h',toks := t' } := by
  obtain ⟨m,⟨o,es,ep,ho,r⟩,_⟩ := id I.loc
  obtain ⟨sl,hL⟩ := u.any ho I.free (by simp)
  exact I.step (g' := s.gens) (d' := s.drawn) (ch := []) (fun _ z => nomatch z) (fun b o _ hb _ e n => u.keep b o e n hb (by simp)) (fun b o _ hb _ e n => u.slot b o e n hb (by simp)) (fun b o _ e n => u.free b o e n (by simp)) (fun b o _ e => u.there b o e (by simp)) u.tups u.frzs u.tbls (fun m' hm => by
    obtain ⟨o',es',ep',ho',r'⟩ := hm
    rw [ho] at ho'; cases ho'
    exact ⟨_,es',ep',hL,r'⟩) hok I.bare
theorem Inv.call {g' : Array GenState} {t' : Nat} {d' : Drawn} {ch : List Addr} (I : Inv X pins σ H s) (u : Un (frs X.stack) ch H H' s.heap h') (hok : HOk X.prog X.w H' h') (hg : AllBare g')
    (hch : ∀ b∈ch,(b∈X.ex∨X.s₀.heap.objs.size≤b)∧b≠X.env.locals∧(∀ x c,X.env.cells.lookup x = some c→c≠b)∧∀ p∈X.pn++pins,p.1≠b) :
    Inv X pins σ H' { s with heap := h',gens := g',drawn := d',toks := t' } := by
  obtain ⟨m,⟨o,es,ep,ho,r⟩,_⟩ := id I.loc
  obtain ⟨sl,hL⟩ := u.any ho I.free fun z => (hch _ z).2.1 rfl
  exact I.step (ch := ch) hch (fun b o hL hb hc e n => u.keep b o e n (fun z => (List.mem_cons.mp (I.stkSub b z)).elim hL hb) hc) (fun b o _ _ hc e n => u.any e n hc) (fun b o hc e n => u.free b o e n hc) (fun b o hc e => u.there b o e hc) u.tups u.frzs u.tbls (fun m' hm => by
    obtain ⟨o',es',ep',ho',r'⟩ := hm
    rw [ho] at ho'; cases ho'
    exact ⟨_,es',ep',hL,r'⟩) hok hg
theorem Inv.turned {t' : Nat} {it : Addr} (I : Inv X pins σ H s) (k : ∀ b o,b≠it→s.heap.get? b = some o→h'.get? b = some o) (hn : H it = none) (hL : it≠X.env.locals)
    (h1 : it∈X.ex∨X.s₀.heap.objs.size≤it) (h2 : ∀ x c,X.env.cells.lookup x = some c→c≠it) (h3 : ∀ p∈X.pn++pins,p.1≠it) : Inv X pins σ H { s with heap := h',toks := t' } := by
  have nit : ∀ b u,H b = some u→b≠it := fun b u e z => by rw [z,hn] at e; cases e
  refine I.step (g' := s.gens) (d' := s.drawn) (ch := [it]) (fun b hb => ?_) (fun b o _ _ hc e _ => k b o (fun z => hc (by simp [z])) e) (fun b o _ _ hc e _ => ⟨o.slots,k b o (fun z => hc (by simp [z])) e⟩) (fun _ _ _ _ n => n)
    (fun b o hc e => ⟨o,k b o (fun z => hc (by simp [z])) e⟩) (fun _ _ e => e) (fun _ _ _ e => e) (fun b ps e => ⟨#[],by rw [e]; simp⟩) (fun m hm => ?_) (fun b u e => ?_) I.bare
  · have e : b = it := by simpa using hb
    subst e
    exact ⟨h1,hL,h2,h3⟩
  · obtain ⟨o,es,ep,ho,r⟩ := hm
    exact ⟨o,es,ep,k _ o (Ne.symm hL) ho,r⟩
  · refine (I.hok b u e).stay (fun c v hc q => k c v ?_ q) (fun _ q => q) fun _ _ q => q
    rcases hc with z | z
    · rw [z]; exact nit b u e
    · exact nit c _ z
theorem Inv.tok (I : Inv X pins σ H s) (t : Nat) : Inv X pins σ H { s with toks := t } := I.un (h' := s.heap) (t' := t) Un.refl I.hok
theorem Inv.kept {t' : Nat} (I : Inv X pins σ H s) (k : ∀ b u,s.heap.get? b = some u→h'.get? b = some u) : Inv X pins σ H { s with heap := h',toks := t' } := I.un (Un.kept k) (I.hok.kept k)
theorem Inv.laid {a : Addr} {o : HO} {t' : Nat} (I : Inv X pins σ H s) (k : ∀ b u,s.heap.get? b = some u→h'.get? b = some u) (hp : s.heap.objs.size≤a) (new : zbo X.prog X.w (upd H a o) h' a o) :
    Inv X pins σ (upd H a o) { s with heap := h',toks := t' } := I.un (Un.laid k hp (I.hok.fresh hp)) (I.hok.laid k hp new)
theorem Inv.write {x e : Addr} {o : HO} {t' : Nat} (I : Inv X pins σ H s) (mu : Mut (H x)) (he : e = x∨H e = some (.own x)) (k : ∀ b u,b≠e→s.heap.get? b = some u→h'.get? b = some u) (heo : ∃ u,h'.get? e = some u)
    (new : zbo X.prog X.w (upd H x o) h' x o) : Inv X pins σ (upd H x o) { s with heap := h',toks := t' } := I.un (Un.write mu he k heo) (I.hok.write mu he k heo new)
theorem Inv.pins_of {pins' : List (Addr × Obj)} (I : Inv X pins σ H s) (h : ∀ p∈pins',s.heap.get? p.1 = some p.2∧H p.1 = none∧p.1≠X.env.locals∧p.1∉X.fs∧∀ v,p.2.data≠.cell v) : Inv X pins' σ H s :=
  ⟨I.ok,I.os,I.bare,I.base,I.loc,I.cell,I.free,I.freeC,fun p hp => (List.mem_append.mp hp).elim (fun z => I.pin p (List.mem_append_left _ z)) (h p),I.hok,I.len⟩
theorem zd1 {N : List Str} (hN : N.Nodup) {i j : Nat} {x : Str} (a : N[i]? = some x) (b : N[j]? = some x) : i = j := by
  obtain ⟨h1,e1⟩ := List.getElem?_eq_some_iff.mp a
  obtain ⟨h2,e2⟩ := List.getElem?_eq_some_iff.mp b
  exact (List.getElem_inj hN).mp (e1.trans e2.symm)
theorem zeB {M : Model} {A : Around} {E : Value→Shared→Prop} {i : Nat} {x : Str} {v : V} {u : Value} {Q : Unit→Shared→Prop} (I : Inv X pins σ H s) (hN : X.N.Nodup) (hi : X.N[i]? = some x) (hx : Loc X.env.scope x) (r : RelV v u)
    (h : ∀ s',Inv X pins (σ.set i (some v)) H s'→(∃ a,Heap.SameBut a s.heap s'.heap∧(a = X.env.locals∨X.env.cells.lookup x = some a))→Q () s') (hf : X.fn x = true∨X.env.scope.names.lookup x = some .local := by first | exact .inl rfl | exact .inr rfl | assumption) : wpAny M A (storeName X.env x u) Q E s := by
  obtain ⟨m,hn,hl⟩ := id I.loc
  have hcls : (X.env.scope.kind == .class || (X.env.scope.kind == .module && X.env.locals != X.env.globals)) = false := by rw [I.ok.kind]; rfl
  have hiσ : i < σ.length := by rw [I.len]; exact (List.getElem?_eq_some_iff.mp hi).1
  have cne := I.cne
  have tracked : ∀ {a : Addr} {h' : Heap},(∃ o,s.heap.get? a = some o∧H a = none)→Heap.SameBut a s.heap h'→HOk X.prog X.w H h' := fun {a h'} ha hs b ob e => by
    obtain ⟨_,_,hfree⟩ := ha
    refine (I.hok b ob e).stay (fun c w' hc q => (hs.2 c ?_).trans q) (fun _ q => q) fun _ _ q => q
    rintro rfl
    rcases hc with rfl | hc
    · rw [hfree] at e; cases e
    · rw [hfree] at hc; cases hc
  rcases hx with hk | hk
  · refine wpAny_storeName_local hk hn (fun h' hn' hs => ?_) hcls
    obtain ⟨oL,_,_,hoL,_⟩ := id hn
    refine h _ ⟨I.ok,I.os,I.bare,⟨fun b o e n hb hx => ?_,fun b o e n hb hx => ?_,I.base.free,fun b o e hx => ?_,I.base.tups,I.base.frzs,I.base.tbls⟩,⟨_,hn',fun j y v' e1 e2 e3 => ?_⟩,fun y c e => ?_,I.free,I.freeC,fun p hp => ?_,tracked ⟨oL,hoL,I.free⟩ hs,by simpa using I.len⟩ ⟨_,hs,.inl rfl⟩
    · exact (hs.2 b (Nat.ne_of_lt (Nat.lt_of_lt_of_le (Heap.lt_size e) I.ok.above))).trans (I.base.keep b o e n hb hx)
    · obtain ⟨sl,e1⟩ := I.base.slot b o e n hb hx
      exact ⟨sl,(hs.2 b (Nat.ne_of_lt (Nat.lt_of_lt_of_le (Heap.lt_size e) I.ok.above))).trans e1⟩
    · obtain ⟨o',e1⟩ := I.base.there b o e hx
      exact ⟨o',(hs.2 b (Nat.ne_of_lt (Nat.lt_of_lt_of_le (Heap.lt_size e) I.ok.above))).trans e1⟩
    · by_cases hj : j = i
      · subst hj
        rw [hi] at e1; cases e1
        rw [List.getElem?_set_self hiσ] at e2
        cases e2
        exact ⟨u,r,.inl ⟨hk,by simp⟩⟩
      · rw [List.getElem?_set_ne (Ne.symm hj)] at e2
        obtain ⟨u',r',q⟩ := hl j y v' e1 e2 e3
        refine ⟨u',r',?_⟩
        rcases q with ⟨k,e⟩ | ⟨k,c,e,z⟩
        · refine .inl ⟨k,?_⟩
          have : y≠x := fun e => hj (zd1 hN e1 (e ▸ hi))
          simp [this,e]
        · exact .inr ⟨k,c,e,z.sameBut hs (cne y c e)⟩
    · obtain ⟨w',z⟩ := I.cell y c e
      exact ⟨w',z.sameBut hs (cne y c e)⟩
    · obtain ⟨e,n,ne,nf,d⟩ := I.pin p hp
      exact ⟨(hs.2 p.1 ne).trans e,n,ne,nf,d⟩
  · have hfn : X.fn x = true := by
      rcases hf with z | z
      · exact z
      · rw [z] at hk; cases hk
    obtain ⟨c,hc⟩ := I.ok.has x (.inl hk)
    obtain ⟨w',z⟩ := I.cell x c hc
    refine wpAny_storeName_cell I.ok.kind hk hc z (fun h' hc' hs => ?_)
    obtain ⟨oc,hoc,hocd⟩ := id z
    refine h { s with heap := h' } ⟨I.ok,I.os,I.bare,⟨fun b o e n hb hx => ?_,fun b o e n hb hx => ?_,I.base.free,fun b o e hx => ?_,I.base.tups,I.base.frzs,I.base.tbls⟩,⟨m,hn.sameBut hs (Ne.symm (cne x c hc)),fun j y v' e1 e2 e3 => ?_⟩,fun y c' e => ?_,I.free,I.freeC,fun p hp => ?_,tracked ⟨oc,hoc,I.freeC x c hc⟩ hs,by simpa using I.len⟩ ⟨c,hs,.inr hc⟩
    · exact (hs.2 b (Nat.ne_of_lt (Nat.lt_of_lt_of_le (Heap.lt_size e) (I.ok.cab x c hfn hc)))).trans (I.base.keep b o e n hb hx)
    · obtain ⟨sl,e1⟩ := I.base.slot b o e n hb hx
      exact ⟨sl,(hs.2 b (Nat.ne_of_lt (Nat.lt_of_lt_of_le (Heap.lt_size e) (I.ok.cab x c hfn hc)))).trans e1⟩
    · obtain ⟨o',e1⟩ := I.base.there b o e hx
      exact ⟨o',(hs.2 b (Nat.ne_of_lt (Nat.lt_of_lt_of_le (Heap.lt_size e) (I.ok.cab x c hfn hc)))).trans e1⟩
    · by_cases hj : j = i
      · subst hj
        rw [hi] at e1; cases e1
        rw [List.getElem?_set_self hiσ] at e2
        cases e2
        exact ⟨u,r,.inr ⟨.inl hk,c,hc,hc'⟩⟩
      · rw [List.getElem?_set_ne (Ne.symm hj)] at e2
        obtain ⟨u',r',q⟩ := hl j y v' e1 e2 e3
        refine ⟨u',r',?_⟩
        rcases q with q | ⟨k,c',e,z'⟩
        · exact .inl q
        · refine .inr ⟨k,c',e,z'.sameBut hs ?_⟩
          rintro rfl
          exact hj (zd1 hN e1 (I.ok.inj _ _ _ e hc ▸ hi))
    · by_cases hcc : c' = c
      · subst hcc; exact ⟨_,hc'⟩
      · obtain ⟨w2,z2⟩ := I.cell y c' e
        exact ⟨w2,z2.sameBut hs hcc⟩
    · obtain ⟨e,n,ne,nf,d⟩ := I.pin p hp
      refine ⟨(hs.2 p.1 ?_).trans e,n,ne,nf,d⟩
      intro q
      rw [q,hoc] at e
      have q' : oc = p.2 := Option.some.inj e
      exact d w' (by rw [← q']; exact hocd)
theorem zcr {M : Model} {A : Around} {E : Value→Shared→Prop} {i : Nat} {x : Str} {v : V} {u : Value} {Q : Unit→Shared→Prop} (I : Inv X pins σ H s) (hN : X.N.Nodup) (hi : X.N[i]? = some x) (hx : Loc X.env.scope x) (r : RelV v u)
    (h : ∀ s',Inv X pins (σ.set i (some v)) H s'→Q () s') (hf : X.fn x = true∨X.env.scope.names.lookup x = some .local := by first | exact .inl rfl | exact .inr rfl | assumption) : wpAny M A (storeName X.env x u) Q E s :=
  zeB I hN hi hx r (fun s' I' _ => h s' I') hf
theorem Inv.call' {s' : Shared} {ch : List Addr} (I : Inv X pins σ H s) (ho : s'.os = s.os) (u : Un (frs X.stack) ch H H' s.heap s'.heap) (hok : HOk X.prog X.w H' s'.heap) (hg : AllBare s'.gens)
    (hch : ∀ b∈ch,(b∈X.ex∨X.s₀.heap.objs.size≤b)∧b≠X.env.locals∧(∀ x c,X.env.cells.lookup x = some c→c≠b)∧∀ p∈X.pn++pins,p.1≠b) : Inv X pins σ H' s' := by
  obtain ⟨h',g',d',t',o'⟩ := s'
  have e : o' = s.os := ho
  subst e
  exact I.call (g' := g') (t' := t') (d' := d') u hok hg hch
end
noncomputable abbrev XK := Value→Option Addr→Hp→Prop
noncomputable abbrev St := List (Option V)
noncomputable abbrev VK := V→Hp→Prop
noncomputable abbrev TE := St→Hp→VK→Prop
noncomputable abbrev TT := St→Hp→(Bool→Hp→Prop)→Prop
noncomputable abbrev TA := St→Hp→(List V→Hp→Prop)→Prop
structure Ends where
  nx : St→Hp→Prop
  rt : VK
  bk : St→Hp→Prop := fun _ _ => False
  ct : St→Hp→Prop := fun _ _ => False
noncomputable abbrev TS := Ends→St→Hp→Prop
noncomputable def EP (X : Cx) (pins : List (Addr × Obj)) (σ : St) (Q : VK) (u : Value) (s' : Shared) : Prop := ∃ v H',Inv X pins σ H' s'∧RelV v u∧Q v H'
noncomputable def TP (X : Cx) (pins : List (Addr × Obj)) (σ : St) (Q : Bool→Hp→Prop) (b : Bool) (s' : Shared) : Prop := ∃ H',Inv X pins σ H' s'∧Q b H'
noncomputable def AP (X : Cx) (pins : List (Addr × Obj)) (σ : St) (Q : List V→Hp→Prop) (us : List Value) (s' : Shared) : Prop := ∃ vs H',Inv X pins σ H' s'∧Vals vs us∧Q vs H'
noncomputable def SP (X : Cx) (pins : List (Addr × Obj)) (D : Ends) (f : Flow) (s' : Shared) : Prop :=
  match f with
  | .next => ∃ σ' H',Inv X pins σ' H' s'∧D.nx σ' H'
  | .brk => ∃ σ' H',Inv X pins σ' H' s'∧D.bk σ' H'
  | .cont => ∃ σ' H',Inv X pins σ' H' s'∧D.ct σ' H'
  | .ret u => ∃ v σ' H',Inv X pins σ' H' s'∧RelV v u∧D.rt v H'
noncomputable def PE (X : Cx) (e : Expr) (t : TE) : Prop :=
  ∀ (pins : List (Addr × Obj)) (s : Shared) (σ : St) (H : Hp) (Q : VK),Inv X pins σ H s→t σ H Q→wpAny (model X.prog X.w) X.A (eval e X.env) (EP X pins σ Q) X.xe s
noncomputable def PT (X : Cx) (e : Expr) (t : TT) : Prop :=
  ∀ (pins : List (Addr × Obj)) (s : Shared) (σ : St) (H : Hp) (Q : Bool→Hp→Prop),Inv X pins σ H s→t σ H Q→wpAny (model X.prog X.w) X.A (isTrue e X.env (eval e X.env)) (TP X pins σ Q) X.xe s
noncomputable def PW (X : Cx) (e : Expr) (t : TT) : Prop :=
  ∀ (whole : Sem Value) (pins : List (Addr × Obj)) (s : Shared) (σ : St) (H : Hp) (Q : Bool→Hp→Prop),Inv X pins σ H s→t σ H Q→wpAny (model X.prog X.w) X.A (isTrue e X.env whole) (TP X pins σ Q) X.xe s
theorem PW.pt {X : Cx} {e : Expr} {t : TT} (h : PW X e t) : PT X e t := h _
noncomputable def PA (X : Cx) (es : List Expr) (t : TA) : Prop :=
  ∀ (pos : Pos) (pins : List (Addr × Obj)) (s : Shared) (σ : St) (H : Hp) (Q : List V→Hp→Prop),Inv X pins σ H s→t σ H Q→wpAny (model X.prog X.w) X.A (spliced (backTo pos (starEach es X.env))) (AP X pins σ Q) X.xe s
noncomputable def PS (X : Cx) (st : Stmt) (t : TS) : Prop :=
  ∀ (pins : List (Addr × Obj)) (s : Shared) (σ : St) (H : Hp) (D : Ends),Inv X pins σ H s→t D σ H→wpAny (model X.prog X.w) X.A (exec st X.env) (SP X pins D) X.xe s
noncomputable def PSs (X : Cx) (st : List Stmt) (t : TS) : Prop :=
  ∀ (pins : List (Addr × Obj)) (s : Shared) (σ : St) (H : Hp) (D : Ends),Inv X pins σ H s→t D σ H→wpAny (model X.prog X.w) X.A (execs st X.env) (SP X pins D) X.xe s
theorem thn {α : Type} {t : Sem α} {Q Q' : α→Shared→Prop} {M : Model} {A : Around} {E : Value→Shared→Prop} {s : Shared} (h : wpAny M A t Q E s) (hQ : ∀ a s,Q a s→Q' a s) : wpAny M A t Q' E s := wpAny_mono h hQ fun _ _ x => x
end L2
namespace L2
open PySem PySem.Spec PyProof.Rows
section
variable {X : Cx}
noncomputable def tVar (i : Nat) : TE := fun σ H Q => ∃ v,σ[i]? = some (some v)∧Q v H
noncomputable def tC (v : V) : TE := fun _ H Q => Q v H
theorem zgE {i : Nat} {x : Str} {pos : Pos} (hN : X.N[i]? = some x) (hv : Vis X.env.scope x) (hd : (x == ("__debug__" : Str)) = false := by decide) (hcd : (x == ("__classdict__" : Str)) = false := by decide) : PE X (.Name x pos) (tVar i) := by
  intro pins s σ H Q I h
  obtain ⟨v,e,h⟩ := h
  obtain ⟨m,hn,hl⟩ := I.loc
  obtain ⟨u,r,l⟩ := hl i x v hN e hv
  have fin : EP X pins σ Q u s := ⟨v,H,I,r,h⟩
  rcases l with ⟨hk,hm⟩ | ⟨hk,c,hc,hcell⟩
  · exact wpAny_Name (wpAny_loadName_local I.ok.kind hk hn hm fin) hd
  · rcases hk with hk | hk
    · exact wpAny_Name (wpAny_loadName_cell I.ok.kind hk hc hcell fin) hd
    · exact wpAny_Name (wpAny_loadName_free I.ok.kind hk hc hcell fin hcd) hd
theorem ziv {i j pos} : PE X (.Constant (.int i) j pos) (tC (.int i)) := fun _ _ _ H _ I h => wpAny_Constant_int ⟨.int i,H,I.tok _,⟨_,rfl⟩,h⟩
theorem zjG {b j pos} : PE X (.Constant (.bool b) j pos) (tC (.bl b)) := fun _ _ _ H _ I h => Constant_bool ⟨.bl b,H,I,rfl,h⟩
theorem zit {j pos} : PE X (.Constant .none j pos) (tC .non) := fun _ _ _ H _ I h => Constant_none ⟨.non,H,I,rfl,h⟩
theorem ziq {x j pos} : PE X (.Constant (.str x) j pos) (tC (.str x)) := fun _ _ _ H _ I h => Calls.Constant_str ⟨.str x,H,I.tok _,⟨_,rfl⟩,h⟩
noncomputable def Gl (X : Cx) (x : Str) : Prop := X.env.kindOf x = some .globalImplicit
theorem zcB {E : Value→Shared→Prop} {pins : List (Addr × Obj)} {s : Shared} {σ : St} {H : Hp} {x : Str} {u : Value} {pos : Pos} {Q : Value→Shared→Prop} (I : Inv X pins σ H s) (hg : Gl X x) (hm : X.mg x = some u) (h : Q u s)
    (hd : (x == ("__debug__" : Str)) = false := by decide) : wpAny (model X.prog X.w) X.A (eval (.Name x pos) X.env) Q E s :=
  Calls.Name_function_global I.ok.kind hg (Calls.loadGlobal_global (by rw [I.ok.glob]; exact I.mod.glob.keeps I.bk) hm h) hd
theorem zgJ {E : Value→Shared→Prop} {pins : List (Addr × Obj)} {s : Shared} {σ : St} {H : Hp} {x : Str} {u : Value} {pos : Pos} {Q : Value→Shared→Prop} (I : Inv X pins σ H s) (hg : Gl X x) (hm : X.mg x = none) (hv : bootBuiltins x = some u) (h : Q u s)
    (hn : x≠"__name__" := by decide) (hd : (x == ("__debug__" : Str)) = false := by decide) : wpAny (model X.prog X.w) X.A (eval (.Name x pos) X.env) Q E s := by
  obtain ⟨mb,h1,h2⟩ := I.mod.blt
  exact Calls.Name_function_global I.ok.kind hg (Calls.loadGlobal_builtin (by rw [I.ok.glob]; exact I.mod.glob.keeps I.bk) hm (by rw [I.ok.blt]; exact h1.keeps I.bk) ((h2 x hn).trans hv) h) hd
theorem zhb {x : Str} {v : V} {u : Value} {pos : Pos} (hg : Gl X x) (hm : X.mg x = some u) (r : RelV v u) (hd : (x == ("__debug__" : Str)) = false := by decide) : PE X (.Name x pos) (tC v) :=
  fun _ _ _ H _ I h => zcB I hg hm ⟨v,H,I,r,h⟩ hd
theorem zeN {x : Str} {v : V} {u : Value} {pos : Pos} (hg : Gl X x) (hm : X.mg x = none) (hv : bootBuiltins x = some u) (r : RelV v u) (hn : x≠"__name__" := by decide) (hd : (x == ("__debug__" : Str)) = false := by decide) : PE X (.Name x pos) (tC v) :=
  fun _ _ _ H _ I h => zgJ I hg hm hv ⟨v,H,I,r,h⟩ hn hd
variable {a b : Expr} {ta tb : TE} {pos : Pos}
variable {tA tB' : TT} {rest : List Expr}
noncomputable def tAnd (t u : TT) : TT := fun σ H Q => t σ H fun c H1 => if c = true then u σ H1 Q else Q false H1
noncomputable def tOr (t u : TT) : TT := fun σ H Q => t σ H fun c H1 => if c = true then Q true H1 else u σ H1 Q
noncomputable def tNot (t : TT) : TT := fun σ H Q => t σ H fun c H1 => Q (! c) H1
theorem zg5 (ha : PT X a tA) : PW X (.BoolOp .And [a] pos) tA := by
  intro wh pins s σ H Q I h
  refine isTrue_and (thn (ha pins s σ H Q I h) fun c s1 e => ?_)
  cases c with
  | true => exact isTrue_and_nil e
  | false => exact e
theorem zig (ha : PT X a tA) : PW X (.BoolOp .Or [a] pos) tA := by
  intro wh pins s σ H Q I h
  refine isTrue_or (thn (ha pins s σ H Q I h) fun c s1 e => ?_)
  cases c with
  | false => exact isTrue_or_nil e
  | true => exact e
theorem zih (ha : PT X a tA) (hb : PW X (.BoolOp .And (b::rest) pos) tB') : PW X (.BoolOp .And (a::b::rest) pos) (tAnd tA tB') := by
  intro wh pins s σ H Q I h
  refine isTrue_and (thn (ha pins s σ H _ I h) fun c s1 ⟨H1,I1,q1⟩ => ?_)
  cases c with
  | true => exact hb wh pins s1 σ H1 Q I1 q1
  | false => exact ⟨H1,I1,q1⟩
theorem zjA (ha : PT X a tA) (hb : PW X (.BoolOp .Or (b::rest) pos) tB') : PW X (.BoolOp .Or (a::b::rest) pos) (tOr tA tB') := by
  intro wh pins s σ H Q I h
  refine isTrue_or (thn (ha pins s σ H _ I h) fun c s1 ⟨H1,I1,q1⟩ => ?_)
  cases c with
  | true => exact ⟨H1,I1,q1⟩
  | false => exact hb wh pins s1 σ H1 Q I1 q1
theorem zii (ha : PT X a tA) : PT X (.UnaryOp .Not a pos) (tNot tA) := by
  intro pins s σ H Q I h
  exact isTrue_not (ha pins s σ H (fun c H1 => Q (! c) H1) I h)
noncomputable def zjr (ta tb : TE) : TE := fun σ H Q => ta σ H fun x H1 => ∃ c,x = .bl c∧if c = true then tb σ H1 Q else Q (.bl false) H1
noncomputable def zjm (ta : TE) : TE := fun σ H Q => ta σ H fun x H1 => ∃ c,x = .bl c∧Q (.bl (! c)) H1
theorem zir {op} {t : TE} (h : PE X a t) : PE X (.BoolOp op [a] pos) t := fun pins s σ H Q I hw => BoolOp_one (h pins s σ H Q I hw)
theorem ziw (ha : PE X a ta) (hb : PE X (.BoolOp .And (b::rest) pos) tb) : PE X (.BoolOp .And (a::b::rest) pos) (zjr ta tb) := by
  intro pins s σ H Q I h
  refine BoolOp_and (thn (ha pins s σ H _ I h) fun v s1 ⟨x,H1,I1,r1,q1⟩ => ?_)
  obtain ⟨c,rfl,q1⟩ := q1
  cases r1
  refine wpAny_truthy_bool ?_
  cases c with
  | true => exact hb pins s1 σ H1 Q I1 q1
  | false => exact ⟨.bl false,H1,I1,rfl,q1⟩
theorem zis (ha : PE X a ta) : PE X (.UnaryOp .Not a pos) (zjm ta) := by
  intro pins s σ H Q I h
  refine UnaryOp_ (thn (ha pins s σ H _ I h) fun v s1 ⟨x,H1,I1,r1,q1⟩ => ?_)
  obtain ⟨c,rfl,q1⟩ := q1
  cases r1
  exact not_of (wpAny_truthy_bool ⟨.bl (! c),H1,I1,rfl,q1⟩)
end
end L2
namespace L2
open PySem PySem.Spec PyProof.Rows
noncomputable def SqL (K : PySem.W.Frag) (H : Hp) (a : Addr) (xs : List V) : Prop :=
  Rd H a (.lst xs) ∨
    ∃ (o : Obj) (its : Array Value) (n : Nat),K.lookup a = some o∧o.cls = .type "list"∧o.dict = none∧o.data = .seq its n∧its.size≤sizeLine∧Vals xs its.toList
noncomputable def SqT (K : PySem.W.Frag) (H : Hp) (a : Addr) (xs : List V) : Prop :=
  Rd H a (.tup xs) ∨
    ∃ (o : Obj) (its : Array Value) (n : Nat),K.lookup a = some o∧o.cls = .type "tuple"∧o.data = .seq its n∧its.size≤sizeLine∧Vals xs its.toList
noncomputable def absV : Value→Option V
  | .none => some .non
  | .bool b => some (.bl b)
  | .int i _ => some (.int i)
  | .str x _ => some (.str x)
  | .bytes b _ => some (.byt b)
  | .float b _ => some (.flt b)
  | .ref a => some (.ref a)
  | .type n => some (.ty n)
  | _ => none
theorem RelV.abs {x : V} {u : Value} (r : RelV x u) : absV u = some x := by
  cases x with
  | non => cases r; rfl
  | bl _ => cases r; rfl
  | int _ => obtain ⟨t,rfl⟩ := r; rfl
  | str _ => obtain ⟨t,rfl⟩ := r; rfl
  | byt _ => obtain ⟨t,rfl⟩ := r; rfl
  | flt _ => obtain ⟨t,rfl⟩ := r; rfl
  | ref _ => cases r; rfl
  | ty _ => cases r; rfl
theorem RelV.inj {x y : V} {u : Value} (r : RelV x u) (q : RelV y u) : x = y := Option.some.inj (r.abs.symm.trans q.abs)
theorem Vals.inj {xs ys : List V} {us : List Value} (h : Vals xs us) (h' : Vals ys us) : xs = ys := by
  induction h generalizing ys with
  | nil => cases h'; rfl
  | cons r t ih =>
    cases h' with
    | cons r' t' => rw [r.inj r',ih t']
section
variable {X : Cx} {pins : List (Addr × Obj)} {σ : St} {H : Hp} {s : Shared} {a : Addr} {xs ys : List V}
theorem SqL.of {K : PySem.W.Frag} (h : H a = some (.lst xs)) : SqL K H a xs := .inl (.inl h)
theorem Inv.list (I : Inv X pins σ H s) (h : SqL X.K H a xs) : ∃ its : List Value,Vals xs its∧PlainL s.heap a its.toArray∧xs.length≤sizeLine := by
  rcases h with h | ⟨o,its,n,hk,hc,hd,hs,hz,r⟩
  · obtain ⟨z,its,n,r,e⟩ := h.ok I.hok
    exact ⟨its,r,⟨_,n,e,rfl,rfl,rfl⟩,z⟩
  · refine ⟨its.toList,r,⟨o,n,I.kIn a o hk,hc,hd,by simpa using hs⟩,?_⟩
    have e := r.length
    simp only [Array.length_toList] at e
    omega
theorem Inv.tuple (I : Inv X pins σ H s) (h : SqT X.K H a xs) : ∃ its : List Value,Vals xs its∧IsTup s.heap a its.toArray∧xs.length≤sizeLine := by
  rcases h with h | ⟨o,its,n,hk,hc,hs,hz,r⟩
  · obtain ⟨z,its,r,p,_⟩ := h.ok I.hok
    exact ⟨its,r,p,z⟩
  · refine ⟨its.toList,r,⟨o,I.kIn a o hk,hc,n,by simpa using hs⟩,?_⟩
    have e := r.length
    simp only [Array.length_toList] at e
    omega
theorem Inv.list_inj (I : Inv X pins σ H s) (h : SqL X.K H a xs) (h' : SqL X.K H a ys) : xs = ys := by
  obtain ⟨its,r,⟨o,n,e,_,_,d⟩,_⟩ := I.list h
  obtain ⟨its',r',⟨o',n',e',_,_,d'⟩,_⟩ := I.list h'
  rw [e] at e'; cases e'
  rw [d] at d'
  injection d' with d1 _
  have : its = its' := by simpa using congrArg Array.toList d1
  subst this
  exact r.inj r'
theorem Inv.tuple_inj (I : Inv X pins σ H s) (h : SqT X.K H a xs) (h' : SqT X.K H a ys) : xs = ys := by
  obtain ⟨its,r,⟨o,e,_,n,d⟩,_⟩ := I.tuple h
  obtain ⟨its',r',⟨o',e',_,n',d'⟩,_⟩ := I.tuple h'
  rw [e] at e'; cases e'
  rw [d] at d'
  injection d' with d1 _
  have : its = its' := by simpa using congrArg Array.toList d1
  subst this
  exact r.inj r'
end
noncomputable abbrev Cx.wish (X : Cx) (E : Value→Shared→Prop) : Cx := { X with xe := E }
noncomputable abbrev Cx.nox (X : Cx) : Cx := X.wish fun _ _ => False
theorem Cx.Ok.wish {X : Cx} (ok : X.Ok) (E : Value→Shared→Prop) : (X.wish E).Ok :=
  ⟨ok.mod,ok.kind,ok.glob,ok.blt,ok.above,ok.inj,ok.has,ok.cab,ok.hd,ok.frames,ok.stk,ok.exf,ok.bs,ok.bsz,ok.noex,ok.exfs,ok.funs,ok.frf⟩
theorem Cx.Ok.unwish {X : Cx} {E : Value→Shared→Prop} (ok : (X.wish E).Ok) : X.Ok :=
  ⟨ok.mod,ok.kind,ok.glob,ok.blt,ok.above,ok.inj,ok.has,ok.cab,ok.hd,ok.frames,ok.stk,ok.exf,ok.bs,ok.bsz,ok.noex,ok.exfs,ok.funs,ok.frf⟩
section
variable {X : Cx} {pins : List (Addr × Obj)} {σ : St} {H : Hp} {s : Shared} {E : Value → Shared → Prop}
theorem Inv.wish (I : Inv X pins σ H s) (E : Value→Shared→Prop) : Inv (X.wish E) pins σ H s := ⟨I.ok.wish E,I.os,I.bare,I.base,I.loc,I.cell,I.free,I.freeC,I.pin,I.hok,I.len⟩
theorem Inv.unwish (I : Inv (X.wish E) pins σ H s) : Inv X pins σ H s := ⟨I.ok.unwish,I.os,I.bare,I.base,I.loc,I.cell,I.free,I.freeC,I.pin,I.hok,I.len⟩
theorem SP.unwish {D : Ends} {f : Flow} {s' : Shared} (h : SP (X.wish E) pins D f s') : SP X pins D f s' := by
  cases f with
  | next => obtain ⟨σ',H',I,q⟩ := h; exact ⟨σ',H',I.unwish,q⟩
  | brk => obtain ⟨σ',H',I,q⟩ := h; exact ⟨σ',H',I.unwish,q⟩
  | cont => obtain ⟨σ',H',I,q⟩ := h; exact ⟨σ',H',I.unwish,q⟩
  | ret u => obtain ⟨v,σ',H',I,r,q⟩ := h; exact ⟨v,σ',H',I.unwish,r,q⟩
theorem PSs.nox {st : List Stmt} {t : TS} (h : PSs X.nox st t) : PSs X st t := fun pins s σ H D I hw =>
  wpAny_mono (h pins s σ H D (I.wish _) hw) (fun _ _ q => q.unwish) fun _ _ z => False.elim z
end
section
variable {X : Cx} {st : Stmt} {rest : List Stmt} {t u : TS} {e : Expr} {te : TE} {pos : Pos}
noncomputable def zjn : TS := fun D σ H => D.nx σ H
noncomputable def tSeq (t u : TS) : TS := fun D σ H => t { D with nx := u D } σ H
theorem zg7 : PSs X [] zjn := fun _ _ σ H _ I h => wpAny_execs_nil ⟨σ,H,I,h⟩
theorem zfR (h1 : PS X st t) (h2 : PSs X rest u) : PSs X (st::rest) (tSeq t u) := by
  intro pins s σ H D I h
  refine wpAny_execs_cons (thn (h1 pins s σ H { D with nx := u D } I h) fun f s1 q => ?_)
  cases f with
  | next =>
    obtain ⟨σ',H',I',q⟩ := q
    exact h2 pins s1 σ' H' D I' q
  | ret v => exact q
  | brk => exact q
  | cont => exact q
theorem Inv.quiet {pins : List (Addr × Obj)} {σ : St} {H : Hp} {s : Shared} (I : Inv X pins σ H s) : interactive X.env = false := by simp [interactive,I.ok.kind]
noncomputable def zjo (te : TE) : TS := fun D σ H => te σ H fun _ H1 => D.nx σ H1
theorem zg8 (he : PE X e te) (hs : swapsWith e none pos.line X.env = pure false := by rfl) : PS X (.Expr e pos) (zjo te) := by
  intro pins s σ H D I h
  exact wpAny_Expr_any (thn (he pins s σ H _ I h) fun v s1 ⟨x,H1,I1,r1,q1⟩ => ⟨σ,H1,I1,q1⟩) I.quiet hs
noncomputable def tRet (te : TE) : TS := fun D σ H => te σ H D.rt
theorem zik (he : PE X e te) : PS X (.Return (some e) pos) (tRet te) := by
  intro pins s σ H D I h
  exact wpAny_Return_some (thn (he pins s σ H _ I h) fun v s1 ⟨x,H1,I1,r1,q1⟩ => ⟨x,σ,H1,I1,r1,q1⟩)
noncomputable def tIfS (c : TT) (t u : TS) : TS := fun D σ H => c σ H fun b H1 => if b = true then t D σ H1 else u D σ H1
theorem zjB {c : Expr} {a b : List Stmt} {tc : TT} (hc : PT X c tc) (ha : PSs X a t) (hb : PSs X b u) : PS X (.If c a b pos) (tIfS tc t u) := by
  intro pins s σ H D I h
  refine wpAny_If (thn (hc pins s σ H _ I h) fun d s1 ⟨H1,I1,q1⟩ => ?_)
  cases d with
  | true => exact ha pins s1 σ H1 D I1 q1
  | false => exact hb pins s1 σ H1 D I1 q1
noncomputable def zhW : TS := fun _ _ _ => False
theorem zfT : PS X st zhW := fun _ _ _ _ _ _ h => h.elim
end
noncomputable abbrev TG := V→St→Hp→(St→Hp→Prop)→Prop
noncomputable abbrev TGs := List V→St→Hp→(St→Hp→Prop)→Prop
noncomputable def PG (X : Cx) (target : Expr) (t : TG) : Prop :=
  ∀ (pins : List (Addr × Obj)) (s : Shared) (σ : St) (H : Hp) (v : V) (u : Value) (Q : St→Hp→Prop),Inv X pins σ H s→RelV v u→t v σ H Q →
    wpAny (model X.prog X.w) X.A (assign target X.env u) (fun _ s' => ∃ σ' H',Inv X pins σ' H' s'∧Q σ' H') X.xe s
noncomputable def PGs (X : Cx) (ts : List Expr) (t : TGs) : Prop :=
  ∀ (pins : List (Addr × Obj)) (s : Shared) (σ : St) (H : Hp) (vs : List V) (us : List Value) (Q : St→Hp→Prop),Inv X pins σ H s→Vals vs us→t vs σ H Q →
    wpAny (model X.prog X.w) X.A (assignInOrder ((assignEach ts X.env).map (·.2)) us) (fun _ s' => ∃ σ' H',Inv X pins σ' H' s'∧Q σ' H') X.xe s
section
variable {X : Cx} {pos : Pos}
noncomputable def ziZ (i : Nat) : TG := fun v σ H Q => Q (σ.set i (some v)) H
theorem zha {i : Nat} {x : Str} (hN : X.N.Nodup) (hi : X.N[i]? = some x) (hx : Loc X.env.scope x) (hf : X.fn x = true∨X.env.scope.names.lookup x = some .local := by first | exact .inl rfl | exact .inr rfl | assumption) : PG X (.Name x pos) (ziZ i) := by
  intro pins s σ H v u Q I r h
  exact wpAny_assign_Name (zcr I hN hi hx r (fun s' I' => ⟨_,H,I',h⟩) hf)
noncomputable def gNil : TGs := fun vs σ H Q => vs = []∧Q σ H
noncomputable def zjT (t : TG) (u : TGs) : TGs := fun vs σ H Q => ∃ v r,vs = v::r∧t v σ H fun σ' H' => u r σ' H' Q
theorem zg9 : PGs X [] gNil := by
  intro pins s σ H vs us Q I r h
  obtain ⟨e,h⟩ := h
  subst e
  cases r
  exact assignInOrder_nil ⟨σ,H,I,h⟩
theorem zfZ {e : Expr} {es : List Expr} {t : TG} {u : TGs} (h1 : PG X e t) (h2 : PGs X es u)
    (hs : (assignEach (e::es) X.env).map (·.2) = assign e X.env::(assignEach es X.env).map (·.2) := by rfl) : PGs X (e::es) (zjT t u) := by
  intro pins s σ H vs us Q I r h
  obtain ⟨v,vr,e1,h⟩ := h
  subst e1
  cases r with
  | cons r rr =>
    rw [hs]
    refine assignInOrder_cons (thn (h1 pins s σ H _ _ _ I r h) fun _ s1 ⟨σ1,H1,I1,q1⟩ => ?_)
    exact h2 pins s1 σ1 H1 _ _ Q I1 rr q1
noncomputable def gTup (K : PySem.W.Frag) (n : Nat) (t : TGs) : TG := fun v σ H Q => ∃ a xs,v = .ref a∧SqT K H a xs∧xs.length = n∧t xs σ H Q
theorem zin {es : List Expr} {k : Nat} {t : TGs} {n : Nat} (hc : X.calm = true) (h : PGs X es t)
    (hn : (assignEach es X.env).length = n := by rfl) (hst : (assignEach es X.env).findIdx? (·.1) = none := by rfl) : PG X (.Tuple es k pos) (gTup X.K n t) := by
  intro pins s σ H v u Q I r hw
  obtain ⟨a,xs,e1,hq,hl,hw⟩ := hw
  subst e1
  cases r
  obtain ⟨its,rv,ht,hz⟩ := I.tuple hq
  refine assign_Tuple_tuple (I.ok.hd hc) ht (by simp [hn,← hl,rv.length]) hst fun h' hx => ?_
  have I1 : Inv X pins σ H { s with heap := h' } := I.kept (t' := s.toks) fun b o e => hx b o (Nat.ne_of_lt (Heap.lt_size e)) e
  exact h pins _ σ H xs _ Q I1 (by simpa using rv) hw
noncomputable def tAsg (te : TE) (g : TG) : TS := fun D σ H => te σ H fun x H1 => g x σ H1 D.nx
theorem zil {tg e : Expr} {te : TE} {g : TG} (he : PE X e te) (hg : PG X tg g) (hs : swapsWithSole [tg] e pos.line X.env = pure false := by rfl) (hw : swappedStores [tg] e X.env = pure none := by rfl)
    (h1 : (assignEach [tg] X.env).map (·.2) = [assign tg X.env] := by rfl) : PS X (.Assign [tg] e pos) (tAsg te g) := by
  intro pins s σ H D I h
  refine wpAny_Assign_stores (thn (he pins s σ H _ I h) fun v s1 ⟨x,H1,I1,r1,q1⟩ => ?_) hs hw
  rw [h1]
  exact thn (hg pins s1 σ H1 x v _ I1 r1 q1) fun _ s2 q => q
theorem zij {i : Nat} {x : Str} {e : Expr} {te : TE} {pos' : Pos} (hN : X.N.Nodup) (hi : X.N[i]? = some x) (hx : Loc X.env.scope x) (he : PE X e te) (hs : swapsWith e (some (.Name x pos')) pos.line X.env = pure false := by rfl) (hf : X.fn x = true∨X.env.scope.names.lookup x = some .local := by first | exact .inl rfl | exact .inr rfl | assumption) :
    PS X (.Assign [.Name x pos'] e pos) (tAsg te (ziZ i)) := by
  intro pins s σ H D I h
  refine wpAny_Assign_Name (thn (he pins s σ H _ I h) fun v s1 ⟨y,H1,I1,r1,q1⟩ => ?_) hs
  exact zcr I1 hN hi hx r1 (fun s2 I2 => ⟨_,H1,I2,q1⟩) hf
end
section
variable {X : Cx} {pos : Pos}
noncomputable def zhV (c : TT) (tb : TS) : TS := fun D σ H => ∃ W : Nat→St→Hp→Prop,(∃ m,W m σ H)∧∀ m σ H,W m σ H →
  c σ H fun b H1 => if b = true then ∃ N : St→Hp→Prop,(∀ σ' H',N σ' H'→∃ m',m' < m∧W m' σ' H')∧tb { D with nx := N,ct := N,bk := D.nx } σ H1 else D.nx σ H1
theorem zfS {c : Expr} {body : List Stmt} {tc : TT} {tb : TS} (hp : PassesOwn (model X.prog X.w) X.A X.env X.xe) (hc : PT X c tc) (hb : PSs X body tb) : PS X (.While c body [] pos) (zhV tc tb) := by
  intro pins s σ H D I h
  obtain ⟨W,⟨m0,w0⟩,turn⟩ := h
  refine wpAny_While (codeAny_whileLoop (fun n s' => ∃ σ' H',Inv X pins σ' H' s'∧W n σ' H') ?_ m0 ⟨σ,H,I,w0⟩)
  rintro n s1 ⟨σ1,H1,I1,w1⟩
  refine wpAny_passesOwn hp (thn (hc pins s1 σ1 H1 _ I1 (turn n σ1 H1 w1)) fun b s2 ⟨H2,I2,q2⟩ => ?_)
  cases b with
  | true =>
    obtain ⟨N,hN,q2⟩ := q2
    rw [if_pos rfl]
    refine wpAny_passesOwn hp (thn (hb pins s2 σ1 H2 _ I2 q2) fun f s3 q3 => ?_)
    cases f with
    | next =>
      obtain ⟨σ3,H3,I3,n3⟩ := q3
      obtain ⟨m',hm,w3⟩ := hN σ3 H3 n3
      exact ⟨m',hm,σ3,H3,I3,w3⟩
    | cont =>
      obtain ⟨σ3,H3,I3,n3⟩ := q3
      obtain ⟨m',hm,w3⟩ := hN σ3 H3 n3
      exact ⟨m',hm,σ3,H3,I3,w3⟩
    | brk => exact q3
    | ret v => exact q3
  | false =>
    rw [if_neg Bool.false_ne_true]
    exact wpAny_execs_nil ⟨σ1,H2,I2,q2⟩
end
structure It where
  go : Nat→Hp→Prop
  yld : Nat→Hp→V→Hp→Prop
  stop : Nat→Hp→Prop
noncomputable def FpOk (X : Cx) (pins : List (Addr × Obj)) (H : Hp) (b : Addr) : Prop :=
  H b = none∧b≠X.env.locals∧b∉X.fs∧(b∈X.ex∨X.s₀.heap.objs.size≤b)∧(∀ x c,X.env.cells.lookup x = some c→c≠b)∧∀ p∈X.pn++pins,p.1≠b
theorem Inv.fpOk {X : Cx} {pins : List (Addr × Obj)} {σ : St} {H H' : Hp} {s : Shared} {b : Addr} (I : Inv X pins σ H s) (hb : s.heap.objs.size≤b) (hn : H' b = none) : FpOk X pins H' b := by
  refine ⟨hn,Nat.ne_of_gt (Nat.lt_of_lt_of_le I.lt hb),I.nofs hb,.inr (Nat.le_trans I.sz hb),fun x c e z => ?_,fun p hp z => ?_⟩
  · obtain ⟨v,q⟩ := I.cell x c e
    exact absurd (Nat.lt_of_lt_of_le q.lt (by rw [z]; exact hb)) (Nat.lt_irrefl _)
  · exact absurd (Nat.lt_of_lt_of_le (Heap.lt_size (I.pin p hp).1) (by rw [z]; exact hb)) (Nat.lt_irrefl _)
structure Turn (P : Program) (w : World) (K : PySem.W.Frag) (tg : Expr) (J : It) (fp : List Addr) (it : Addr) (tn : Nat→Heap→Prop) : Prop where
  mem : it∈fp
  obj : ∀ i h,tn i h→∀ b∈fp,∃ o,h.get? b = some o∧∀ v,o.data≠.cell v
  keep : ∀ i h h',tn i h→(∀ b∈fp,∀ o,h.get? b = some o→h'.get? b = some o)→tn i h'
  item : ∀ (X : Cx),X.prog = P→X.w = w→X.K = K→X.calm = true→∀ (i : Nat) (pins : List (Addr × Obj)) (s : Shared) (σ : St) (H : Hp) (E : Value→Shared→Prop),Inv X pins σ H s→(∀ b∈fp,FpOk X pins H b)→tn i s.heap→J.go i H →
    wpAny (model P w) X.A (pyNext (.ref it)) (fun r s1 => ∃ u,r = some u ∧
      wpAny (model P w) X.A (letOwnedTupleGo tg (.ref it) u) (fun _ s2 => ∃ x H',Inv X pins σ H' s2∧RelV x u∧J.yld i H x H'∧tn (i + 1) s2.heap∧∀ b∈fp,H' b = none) E s1) E s
  done : ∀ (X : Cx),X.prog = P→X.w = w→X.K = K→X.calm = true→∀ (i : Nat) (pins : List (Addr × Obj)) (s : Shared) (σ : St) (H : Hp) (E : Value→Shared→Prop),Inv X pins σ H s→(∀ b∈fp,FpOk X pins H b)→tn i s.heap→J.stop i H →
    wpAny (model P w) X.A (pyNext (.ref it)) (fun r s1 => r = none∧Inv X pins σ H s1) E s
  self : ∀ (A : Around) (i : Nat) (s : Shared) (Q : Value→Shared→Prop) (E : Value→Shared→Prop),tn i s.heap→Q (.ref it) s→wpAny (model P w) A (pyIter (.ref it)) Q E s
noncomputable abbrev TI := St→Hp→(It→Hp→Prop)→Prop
noncomputable def PIE (X : Cx) (pins : List (Addr × Obj)) (σ : St) (tg : Expr) (R : It→Hp→Prop) (itv : Value) (s2 : Shared) : Prop :=
  ∃ (it : Addr) (fp : List Addr) (tn : Nat→Heap→Prop) (J : It) (H' : Hp),itv = .ref it∧Inv X pins σ H' s2∧Turn X.prog X.w X.K tg J fp it tn∧tn 0 s2.heap∧(∀ b∈fp,FpOk X pins H' b)∧R J H'
noncomputable def PI (X : Cx) (tg iter : Expr) (wi : TI) : Prop :=
  ∀ (pins : List (Addr × Obj)) (s : Shared) (σ : St) (H : Hp) (R : It→Hp→Prop),Inv X pins σ H s→wi σ H R →
    wpAny (model X.prog X.w) X.A (eval iter X.env) (fun v s1 => wpAny (model X.prog X.w) X.A (pyIter v) (PIE X pins σ tg R) X.xe s1) X.xe s
theorem ziY {M : Model} {A : Around} {E : Value→Shared→Prop} {s : Shared} {tg : Expr} {it : Addr} {u : Value} {o : Obj} {n : String} {vs : Array Value} {Q : Unit→Shared→Prop} (ho : s.heap.get? it = some o) (hc : o.cls = .type n) (hd : o.data = .fields vs)
    (hn : ["enumerate","zip","dict_itemiterator","dict_reverseitemiterator","odict_iterator","itertools.zip_longest","itertools.pairwise"].contains n = false) (hQ : Q () s) : wpAny M A (letOwnedTupleGo tg (.ref it) u) Q E s := by
  unfold letOwnedTupleGo
  cases tg <;> first
    | exact wpAny_pure hQ
    | (cases u <;> first
        | exact wpAny_pure hQ
        | (refine wpAny_bind (wpAny_load ho ?_)
           rw [hc,hd]
           show wpAny M A (if (["enumerate","zip","dict_itemiterator","dict_reverseitemiterator","odict_iterator","itertools.zip_longest","itertools.pairwise"].contains n && vs[0]? == some (rawInt _)) = true then _ else _) Q E s
           rw [if_neg (by intro h; rw [hn,Bool.false_and] at h; cases h)]
           exact wpAny_pure hQ))
noncomputable def Itl (K : PySem.W.Frag) (a : Addr) : It :=
  ⟨fun i H => ∃ xs x,SqL K H a xs∧xs[i]? = some x,fun i H x H' => H' = H∧∀ xs,SqL K H a xs→xs[i]? = some x,fun i H => ∃ xs,SqL K H a xs∧xs.length≤i⟩
noncomputable def Itt (K : PySem.W.Frag) (a : Addr) : It :=
  ⟨fun i H => ∃ xs x,SqT K H a xs∧xs[i]? = some x,fun i H x H' => H' = H∧∀ xs,SqT K H a xs→xs[i]? = some x,fun i H => ∃ xs,SqT K H a xs∧xs.length≤i⟩
theorem zeA {P : Program} {w : World} {K : PySem.W.Frag} {tg : Expr} (a it : Addr) : Turn P w K tg (Itl K a) [it] it (fun i h => h.IsListIter it a i) where
  mem := by simp
  obj := fun i h st b hb => by
    have e : b = it := by simpa using hb
    subst e
    obtain ⟨o,e,c,d⟩ := st
    exact ⟨o,e,fun v z => by rw [d] at z; cases z⟩
  keep := fun i h h' st k => st.at fun o e => k it (by simp) o e
  item := by
    intro X hP hw hK hc i pins s σ H E I hf st hg
    subst hP hw hK
    obtain ⟨xs,x,hq,hx⟩ := hg
    obtain ⟨its,rv,p,hz⟩ := I.list hq
    obtain ⟨u,hu,ru⟩ := rv.get hx
    obtain ⟨f0,f1,f2,f3,f4,f5⟩ := hf it (by simp)
    refine wpAny_pyNext_list_item st p.isList (x := u) (by simpa using hu) fun h' st' sb => ?_
    have I1 : Inv X pins σ H { s with heap := h' } := I.turned (t' := s.toks) (fun b o hb e => (sb.2 b hb).trans e) f0 f1 f3 f4 f5
    obtain ⟨o,e,c,d⟩ := id st'
    exact ⟨u,rfl,ziY (s := { s with heap := h' }) e c d (by decide) ⟨x,H,I1,ru,⟨rfl,fun ys hy => by rw [I.list_inj hy hq]; exact hx⟩,st',fun b hb => (hf b hb).1⟩⟩
  done := by
    intro X hP hw hK hc i pins s σ H E I hf st hg
    subst hP hw hK
    obtain ⟨xs,hq,hx⟩ := hg
    obtain ⟨its,rv,p,hz⟩ := I.list hq
    obtain ⟨f0,f1,f2,f3,f4,f5⟩ := hf it (by simp)
    have hl := rv.length
    exact wpAny_pyNext_list_end (I.ok.hd hc) st p.isList (by simp; omega) fun h' eb => ⟨rfl,I.turned (t' := s.toks) (fun b o hb e => eb b o hb e) f0 f1 f3 f4 f5⟩
  self := fun _ _ _ _ _ st h => wpAny_pyIter_listiter st h
theorem zeh {P : Program} {w : World} {K : PySem.W.Frag} {tg : Expr} (a it : Addr) : Turn P w K tg (Itt K a) [it] it (fun i h => h.IsTupleIter it a i) where
  mem := by simp
  obj := fun i h st b hb => by
    have e : b = it := by simpa using hb
    subst e
    obtain ⟨o,e,c,d⟩ := st
    exact ⟨o,e,fun v z => by rw [d] at z; cases z⟩
  keep := fun i h h' st k => st.at fun o e => k it (by simp) o e
  item := by
    intro X hP hw hK hc i pins s σ H E I hf st hg
    subst hP hw hK
    obtain ⟨xs,x,hq,hx⟩ := hg
    obtain ⟨its,rv,p,hz⟩ := I.tuple hq
    obtain ⟨u,hu,ru⟩ := rv.get hx
    obtain ⟨f0,f1,f2,f3,f4,f5⟩ := hf it (by simp)
    refine wpAny_pyNext_tuple_item st (show s.heap.IsTuple a its.toArray from p) (x := u) (by simpa using hu) fun h' st' sb => ?_
    have I1 : Inv X pins σ H { s with heap := h' } := I.turned (t' := s.toks) (fun b o hb e => (sb.2 b hb).trans e) f0 f1 f3 f4 f5
    obtain ⟨o,e,c,d⟩ := id st'
    exact ⟨u,rfl,ziY (s := { s with heap := h' }) e c d (by decide) ⟨x,H,I1,ru,⟨rfl,fun ys hy => by rw [I.tuple_inj hy hq]; exact hx⟩,st',fun b hb => (hf b hb).1⟩⟩
  done := by
    intro X hP hw hK hc i pins s σ H E I hf st hg
    subst hP hw hK
    obtain ⟨xs,hq,hx⟩ := hg
    obtain ⟨its,rv,p,hz⟩ := I.tuple hq
    obtain ⟨f0,f1,f2,f3,f4,f5⟩ := hf it (by simp)
    have hl := rv.length
    exact wpAny_pyNext_tuple_end (I.ok.hd hc) st (show s.heap.IsTuple a its.toArray from p) (by simp; omega) fun h' eb => ⟨rfl,I.turned (t' := s.toks) (fun b o hb e => eb b o hb e) f0 f1 f3 f4 f5⟩
  self := fun _ _ _ _ _ st h => wpAny_pyIter_tupleiter st h
end L2
namespace L2
open PySem PySem.Spec PyProof.Rows
section
variable {X : Cx} {tg : Expr}
noncomputable def tFor (wi : TI) (g : TG) (tb : TS) : TS := fun D σ H => wi σ H fun J H1 => ∃ W : Nat→Nat→St→Hp→Prop,(∃ m,W 0 m σ H1)∧∀ i m σ H,W i m σ H →
  (J.stop i H∧D.nx σ H)∨(J.go i H∧∃ N : St→Hp→Prop,(∀ σ' H',N σ' H'→∃ m',m' < m∧W (i + 1) m' σ' H')∧∀ x H',J.yld i H x H'→g x σ H' fun σ2 H2 => tb { D with nx := N,ct := N,bk := D.nx } σ2 H2)
noncomputable def zdl (fp : List Addr) (h : Heap) : List (Addr × Obj) := fp.filterMap fun b => (h.get? b).map fun o => (b,o)
theorem zbU {fp : List Addr} {h : Heap} {b : Addr} {o : Obj} (hb : b∈fp) (e : h.get? b = some o) : (b,o)∈zdl fp h := List.mem_filterMap.mpr ⟨b,hb,by rw [e]; rfl⟩
theorem zeR {fp : List Addr} {h : Heap} {p : Addr × Obj} (hp : p∈zdl fp h) : p.1∈fp∧h.get? p.1 = some p.2 := by
  obtain ⟨b,hb,e⟩ := List.mem_filterMap.mp hp
  cases q : h.get? b with
  | none => rw [q] at e; cases e
  | some o =>
    rw [q] at e
    have e' : (b,o) = p := Option.some.inj e
    subst e'
    exact ⟨hb,q⟩
theorem Inv.pinned {pins : List (Addr × Obj)} {σ : St} {H : Hp} {s : Shared} {fp : List Addr} (I : Inv X pins σ H s) (hf : ∀ b∈fp,FpOk X pins H b) (ho : ∀ b∈fp,∃ o,s.heap.get? b = some o∧∀ v,o.data≠.cell v) : Inv X (pins++zdl fp s.heap) σ H s :=
  I.pins_of fun p hp => (List.mem_append.mp hp).elim (fun z => I.pin p (List.mem_append_right _ z)) fun z => by
    obtain ⟨hb,e⟩ := zeR z
    obtain ⟨f0,f1,f2,_⟩ := hf p.1 hb
    obtain ⟨o,e',d⟩ := ho p.1 hb
    rw [e] at e'; cases e'
    exact ⟨e,f0,f1,f2,d⟩
theorem Inv.unpinned {pins pl : List (Addr × Obj)} {σ : St} {H : Hp} {s : Shared} (I : Inv X (pins++pl) σ H s) : Inv X pins σ H s := I.pins_of fun p hp => I.pin p (List.mem_append_right _ (List.mem_append_left _ hp))
theorem zgB {iter : Expr} {body : List Stmt} {wi : TI} {g : TG} {tb : TS} {pos : Pos} (hp : PassesOwn (model X.prog X.w) X.A X.env X.xe) (hc : X.calm = true) (hi : PI X tg iter wi) (hg : PG X tg g) (hb : PSs X body tb)
    (hs : ∀ x,foldedSetIterable iter X.env x = pure x := by intro _; rfl) : PS X (.For tg iter body [] pos) (tFor wi g tb) := by
  intro pins s σ H D I h
  refine wpAny_For (thn (hi pins s σ H _ I h) fun v s1 h1 => thn h1 fun itv s2 h2 => ?_) hs
  obtain ⟨it,fp,tn,J,H2,e,I2,T,st2,f2,W,⟨m0,w0⟩,turn⟩ := h2
  subst e
  have stat : ∀ {H' : Hp},(∀ b∈fp,H' b = none)→∀ b∈fp,FpOk X pins H' b := fun hn b hb => ⟨hn b hb,(f2 b hb).2⟩
  refine codeAny_forLoop_any (fun n s' => ∃ i σ' H',Inv X pins σ' H' s'∧tn i s'.heap∧(∀ b∈fp,H' b = none)∧W i n σ' H') ?_ m0 ⟨0,σ,H2,I2,st2,fun b hb => (f2 b hb).1,w0⟩
  rintro n s3 ⟨i,σ3,H3,I3,st3,fr3,w3⟩
  rcases turn i n σ3 H3 w3 with ⟨stop,qn⟩ | ⟨go,N,hN,step⟩
  · refine wpAny_passesOwn hp (thn (T.done X rfl rfl rfl hc i pins s3 σ3 H3 X.xe I3 (stat fr3) st3 stop) fun r s4 ⟨hr,I4⟩ => ?_)
    subst hr
    exact wpAny_execs_nil ⟨σ3,H3,I4,qn⟩
  · refine wpAny_passesOwn hp (thn (T.item X rfl rfl rfl hc i pins s3 σ3 H3 X.xe I3 (stat fr3) st3 go) fun r s4 ⟨u,hr,h4⟩ => ?_)
    subst hr
    refine wpAny_passesOwn hp (thn h4 fun _ s5 ⟨x,H5,I5,r5,y5,st5,fr5⟩ => ?_)
    have I5' := I5.pinned (stat fr5) (T.obj _ _ st5)
    refine wpAny_passesOwn hp (thn (hg _ s5 σ3 H5 x u _ I5' r5 (step x H5 y5)) fun _ s6 ⟨σ6,H6,I6,q6⟩ => ?_)
    refine wpAny_passesOwn hp (thn (hb _ s6 σ6 H6 _ I6 q6) fun f s7 q7 => ?_)
    have again : ∀ {σ7 : St} {H7 : Hp},Inv X (pins++zdl fp s5.heap) σ7 H7 s7→N σ7 H7→∃ m,m < n∧∃ i σ' H',Inv X pins σ' H' s7∧tn i s7.heap∧(∀ b∈fp,H' b = none)∧W i m σ' H' := fun {σ7 H7} I7 n7 => by
      obtain ⟨m',hm,w7⟩ := hN σ7 H7 n7
      refine ⟨m',hm,i + 1,σ7,H7,I7.unpinned,T.keep _ _ _ st5 fun b hb o e => (I7.pin (b,o) (List.mem_append_right _ (List.mem_append_right _ (zbU hb e)))).1,fun b hb => ?_,w7⟩
      obtain ⟨o,e,d⟩ := T.obj _ _ st5 b hb
      exact (I7.pin (b,o) (List.mem_append_right _ (List.mem_append_right _ (zbU hb e)))).2.1
    cases f with
    | next => obtain ⟨σ7,H7,I7,n7⟩ := q7; exact again I7 n7
    | cont => obtain ⟨σ7,H7,I7,n7⟩ := q7; exact again I7 n7
    | brk => obtain ⟨σ7,H7,I7,q7⟩ := q7; exact ⟨σ7,H7,I7.unpinned,q7⟩
    | ret v => obtain ⟨x7,σ7,H7,I7,r7,q7⟩ := q7; exact ⟨x7,σ7,H7,I7.unpinned,r7,q7⟩
end
end L2
namespace L2
open PySem PySem.Spec PyProof.Rows
noncomputable abbrev R2 := V→V→Hp→VK→Prop
noncomputable def OpR (X : Cx) (f : Value→Value→Sem Value) (r : R2) : Prop :=
  ∀ (pins : List (Addr × Obj)) (s : Shared) (σ : St) (H : Hp) (x y : V) (v u : Value) (Q : VK),Inv X pins σ H s→RelV x v→RelV y u→r x y H Q →
    wpAny (model X.prog X.w) X.A (f v u) (EP X pins σ Q) X.xe s
noncomputable def UnR (X : Cx) (f : Value→Sem Value) (r : V→Hp→VK→Prop) : Prop :=
  ∀ (pins : List (Addr × Obj)) (s : Shared) (σ : St) (H : Hp) (x : V) (v : Value) (Q : VK),Inv X pins σ H s→RelV x v→r x H Q →
    wpAny (model X.prog X.w) X.A (f v) (EP X pins σ Q) X.xe s
noncomputable def zcp (X : Cx) (f : Value) (r : List V→Hp→VK→Prop) : Prop :=
  ∀ (pins : List (Addr × Obj)) (s : Shared) (σ : St) (H : Hp) (xs : List V) (us : List Value) (Q : VK),Inv X pins σ H s→Vals xs us→r xs H Q →
    wpAny (model X.prog X.w) X.A (call f us) (EP X pins σ Q) X.xe s
noncomputable def TruR (X : Cx) (r : V→Hp→(Bool→Hp→Prop)→Prop) : Prop :=
  ∀ (pins : List (Addr × Obj)) (s : Shared) (σ : St) (H : Hp) (x : V) (v : Value) (Q : Bool→Hp→Prop),Inv X pins σ H s→RelV x v→r x H Q →
    wpAny (model X.prog X.w) X.A (truthy v) (TP X pins σ Q) X.xe s
noncomputable def tOp (r : R2) (ta tb : TE) : TE := fun σ H Q => ta σ H fun x H1 => tb σ H1 fun y H2 => r x y H2 Q
noncomputable def tUn (r : V→Hp→VK→Prop) (ta : TE) : TE := fun σ H Q => ta σ H fun x H1 => r x H1 Q
noncomputable def rI (C : Int→Int→Prop) (g : Int→Int→V) : R2 := fun x y H Q => ∃ i j,x = .int i∧y = .int j∧C i j∧Q (g i j) H
noncomputable def rI0 (g : Int→Int→V) : R2 := fun x y H Q => ∃ i j,x = .int i∧y = .int j∧Q (g i j) H
noncomputable def rU (g : Int→V) : V→Hp→VK→Prop := fun x H Q => ∃ i,x = .int i∧Q (g i) H
section
variable {X : Cx} {a b c : Expr} {ta tb tc : TE} {pos : Pos}
theorem binT (ha : PE X a ta) (hb : PE X b tb) {pins : List (Addr × Obj)} {s : Shared} {σ : St} {H : Hp} {R : V→V→Hp→Prop} (I : Inv X pins σ H s)
    (h : ta σ H fun x H1 => tb σ H1 fun y H2 => R x y H2) {Q : Value→Shared→Prop} {f : Value→Value→Sem Value}
    (hf : ∀ v u s2 x y H2,Inv X pins σ H2 s2→RelV x v→RelV y u→R x y H2→wpAny (model X.prog X.w) X.A (f v u) Q X.xe s2) :
    wpAny (model X.prog X.w) X.A (eval a X.env) (fun v s₁ => wpAny (model X.prog X.w) X.A (eval b X.env) (fun u s₂ => wpAny (model X.prog X.w) X.A (f v u) Q X.xe s₂) X.xe s₁) X.xe s := by
  refine thn (ha pins s σ H _ I h) fun v s1 ⟨x,H1,I1,r1,q1⟩ => ?_
  refine thn (hb pins s1 σ H1 _ I1 q1) fun u s2 ⟨y,H2,I2,r2,q2⟩ => ?_
  exact hf v u s2 x y H2 I2 r1 r2 q2
theorem zjE {op : Operator} {r : R2} (ho : OpR X (binaryOp op) r) (ha : PE X a ta) (hb : PE X b tb) : PE X (.BinOp a op b pos) (tOp r ta tb) := by
  intro pins s σ H Q I h
  exact wpAny_BinOp (binT ha hb I h fun v u s2 x y H2 I2 rx ry q => ho pins s2 σ H2 x y v u Q I2 rx ry q)
theorem zjD {op : UnaryOp} {r : V→Hp→VK→Prop} (ho : UnR X (unaryOp op) r) (ha : PE X a ta) : PE X (.UnaryOp op a pos) (tUn r ta) := by
  intro pins s σ H Q I h
  exact UnaryOp_ (thn (ha pins s σ H _ I h) fun v s1 ⟨x,H1,I1,r1,q1⟩ => ho pins s1 σ H1 x v Q I1 r1 q1)
theorem opI {f : Value→Value→Sem Value} {C : Int→Int→Prop} {g : Int→Int→Int}
    (rule : ∀ (i j : Int) (t u : Tok) (s : Shared) (Q : Value→Shared→Prop) (E : Value→Shared→Prop),C i j→Q (.int (g i j) s.toks) { s with toks := s.toks + 1 }→wpAny (model X.prog X.w) X.A (f (.int i t) (.int j u)) Q E s) :
    OpR X f (rI C fun i j => .int (g i j)) := by
  intro pins s σ H x y v u Q I rx ry h
  obtain ⟨i,j,rfl,rfl,hc,q⟩ := h
  obtain ⟨t,rfl⟩ := rx
  obtain ⟨t',rfl⟩ := ry
  exact rule i j t t' s _ _ hc ⟨.int (g i j),H,I.tok _,⟨_,rfl⟩,q⟩
theorem opI0 {f : Value→Value→Sem Value} {g : Int→Int→Int}
    (rule : ∀ (i j : Int) (t u : Tok) (s : Shared) (Q : Value→Shared→Prop) (E : Value→Shared→Prop),Q (.int (g i j) s.toks) { s with toks := s.toks + 1 }→wpAny (model X.prog X.w) X.A (f (.int i t) (.int j u)) Q E s) :
    OpR X f (rI0 fun i j => .int (g i j)) := by
  intro pins s σ H x y v u Q I rx ry h
  obtain ⟨i,j,rfl,rfl,q⟩ := h
  obtain ⟨t,rfl⟩ := rx
  obtain ⟨t',rfl⟩ := ry
  exact rule i j t t' s _ _ ⟨.int (g i j),H,I.tok _,⟨_,rfl⟩,q⟩
theorem opB0 {f : Value→Value→Sem Value} {g : Int→Int→Bool}
    (rule : ∀ (i j : Int) (t u : Tok) (s : Shared) (Q : Value→Shared→Prop) (E : Value→Shared→Prop),Q (.bool (g i j)) s→wpAny (model X.prog X.w) X.A (f (.int i t) (.int j u)) Q E s) :
    OpR X f (rI0 fun i j => .bl (g i j)) := by
  intro pins s σ H x y v u Q I rx ry h
  obtain ⟨i,j,rfl,rfl,q⟩ := h
  obtain ⟨t,rfl⟩ := rx
  obtain ⟨t',rfl⟩ := ry
  exact rule i j t t' s _ _ ⟨.bl (g i j),H,I,rfl,q⟩
noncomputable def CDiv (i j : Int) : Prop := 0 < j∧j < 1073741824
noncomputable def CPow (i j : Int) : Prop := 0≤j∧j≤1000000∧i.natAbs < 2 ^ 64
noncomputable def CMul (i j : Int) : Prop := (-(2 ^ 64) < i∧i < 2 ^ 64)∨(-(2 ^ 64) < j∧j < 2 ^ 64)
theorem CMul.ok {i j : Int} (h : CMul i j) : IntMulOk i j := by
  rcases h with ⟨h1,h2⟩ | ⟨h1,h2⟩
  · exact .of_left (intBits_le_64 h1 h2)
  · exact .of_right (intBits_le_64 h1 h2)
theorem ziE : OpR X (binaryOp .Add) (rI0 fun i j => .int (i + j)) := opI0 fun _ _ _ _ _ _ _ q => add_int q
theorem zix : OpR X (binaryOp .Sub) (rI0 fun i j => .int (i - j)) := opI0 fun _ _ _ _ _ _ _ q => sub_int q
theorem ziz : OpR X (binaryOp .Mult) (rI CMul fun i j => .int (i * j)) := opI fun _ _ _ _ _ _ _ hc q => mul_int q hc.ok
theorem zhg : OpR X (binaryOp .FloorDiv) (rI CDiv fun i j => .int (i / j)) := opI fun i j _ _ _ _ _ hc q => by
  have h1 : (0 : Int) < j := hc.1
  have h2 : j < 1073741824 := hc.2
  exact floordiv_int (by omega) (by rw [Int.fdiv_eq_ediv_of_nonneg i (by omega)]; exact q) (.inl (PyProof.noPylong_small (by omega)))
theorem ziA : OpR X (binaryOp .Mod) (rI (fun _ j => 0 < j) fun i j => .int (i % j)) := opI fun i j _ _ _ _ _ hc q => by
  have h1 : (0 : Int) < j := hc
  exact mod_int' (by omega) (by rw [Int.fmod_eq_emod_of_nonneg i (by omega)]; exact q)
theorem zhf : OpR X (binaryOp .Mod) (rI (fun _ j => j≠0) fun i j => .int (i.fmod j)) := opI fun _ _ _ _ _ _ _ hc q => mod_int' hc q
theorem ziy : OpR X (binaryOp .Pow) (rI CPow fun i j => .int (i ^ j.toNat)) := opI fun _ _ _ _ _ _ _ hc q => pow_int_small hc.1 hc.2.1 hc.2.2 q
theorem unI {f : Value→Sem Value} {g : Int→Int}
    (rule : ∀ (i : Int) (t : Tok) (s : Shared) (Q : Value→Shared→Prop) (E : Value→Shared→Prop),Q (.int (g i) s.toks) { s with toks := s.toks + 1 }→wpAny (model X.prog X.w) X.A (f (.int i t)) Q E s) :
    UnR X f (rU fun i => .int (g i)) := by
  intro pins s σ H x v Q I rx h
  obtain ⟨i,rfl,q⟩ := h
  obtain ⟨t,rfl⟩ := rx
  exact rule i t s _ _ ⟨.int (g i),H,I.tok _,⟨_,rfl⟩,q⟩
theorem zhS : UnR X (unaryOp .USub) (rU fun i => .int (-i)) := unI fun _ _ _ _ _ q => neg_int q
end
noncomputable def scal : V→V→Bool
  | .non,.non => true | .non,.int _ => true | .int _,.non => true | .non,.bl _ => true | .bl _,.non => true | .non,.str _ => true | .str _,.non => true
  | .int _,.int _ => true | .bl _,.bl _ => true | .str _,.str _ => true | .byt _,.byt _ => true
  | .int _,.str _ => true | .str _,.int _ => true | .bl _,.str _ => true | .str _,.bl _ => true
  | _,_ => false
noncomputable def rEq : R2 := fun x y H Q => scal x y = true∧Q (.bl (decide (x = y))) H
noncomputable def rNe : R2 := fun x y H Q => scal x y = true∧Q (.bl (! decide (x = y))) H
theorem zdQ {i j : Int} : decide (V.int i = V.int j) = (i == j) := by
  rw [Bool.eq_iff_iff]
  simp
theorem zfk {i j : Bool} : decide (V.bl i = V.bl j) = (i == j) := by
  rw [Bool.eq_iff_iff]
  simp
theorem zdP {i j : Str} : decide (V.str i = V.str j) = (i == j) := by
  rw [Bool.eq_iff_iff]
  simp
theorem zfj {i j : Array UInt8} : decide (V.byt i = V.byt j) = (i.toList == j.toList) := by
  rw [Bool.eq_iff_iff]
  cases i
  cases j
  simp
section
variable {X : Cx} {a b c : Expr} {ta tb tc : TE} {pos : Pos}
theorem zas {pins : List (Addr × Obj)} {σ : St} {H : Hp} {s : Shared} {Q : VK} {k k' : Bool} (I : Inv X pins σ H s) (q : Q (.bl k) H) (e : k = k') : EP X pins σ Q (.bool k') s := by
  subst e
  exact ⟨.bl k,H,I,rfl,q⟩
theorem ziD : OpR X (compareOp .Eq) rEq := by
  intro pins s σ H x y v u Q I rx ry h
  obtain ⟨hs,q⟩ := h
  cases x with
  | non =>
    cases rx
    cases y with
    | non => cases ry; exact PySem.EqNone.eq_none_none (zas I q (by simp))
    | bl j => cases ry; exact PySem.EqNone.eq_none_bool (zas I q (by simp))
    | int j => obtain ⟨t',rfl⟩ := ry; exact PySem.EqNone.eq_none_int (zas I q (by simp))
    | str j => obtain ⟨t',rfl⟩ := ry; exact PySem.EqNone.eq_none_str (zas I q (by simp))
    | _ => exact absurd (show false = true from hs) Bool.false_ne_true
  | bl i =>
    cases rx
    cases y with
    | non => cases ry; exact PySem.EqNone.eq_bool_none (zas I q (by simp))
    | bl j => cases ry; exact eq_bool (zas I q zfk)
    | str j => obtain ⟨t',rfl⟩ := ry; exact PySem.EqMixed.eq_bool_str (zas I q (by simp))
    | _ => exact absurd (show false = true from hs) Bool.false_ne_true
  | int i =>
    obtain ⟨t,rfl⟩ := rx
    cases y with
    | non => cases ry; exact PySem.EqNone.eq_int_none (zas I q (by simp))
    | int j => obtain ⟨t',rfl⟩ := ry; exact eq_int (zas I q zdQ)
    | str j => obtain ⟨t',rfl⟩ := ry; exact PySem.EqMixed.eq_int_str (zas I q (by simp))
    | _ => exact absurd (show false = true from hs) Bool.false_ne_true
  | str i =>
    obtain ⟨t,rfl⟩ := rx
    cases y with
    | non => cases ry; exact PySem.EqNone.eq_str_none (zas I q (by simp))
    | bl j => cases ry; exact PySem.EqMixed.eq_str_bool (zas I q (by simp))
    | int j => obtain ⟨t',rfl⟩ := ry; exact PySem.EqMixed.eq_str_int (zas I q (by simp))
    | str j => obtain ⟨t',rfl⟩ := ry; exact eq_str (zas I q zdP)
    | _ => exact absurd (show false = true from hs) Bool.false_ne_true
  | byt i =>
    obtain ⟨t,rfl⟩ := rx
    cases y with
    | byt j => obtain ⟨t',rfl⟩ := ry; exact PySem.W.eq_bytes (zas I q zfj)
    | _ => exact absurd (show false = true from hs) Bool.false_ne_true
  | _ => cases y <;> exact absurd (show false = true from hs) Bool.false_ne_true
theorem zjI : OpR X (compareOp .NotEq) rNe := by
  intro pins s σ H x y v u Q I rx ry h
  obtain ⟨hs,q⟩ := h
  cases x with
  | non =>
    cases rx
    cases y with
    | non => cases ry; exact PySem.EqNone.ne_none_none (zas I q (by simp))
    | bl j => cases ry; exact PySem.EqNone.ne_none_bool (zas I q (by simp))
    | int j => obtain ⟨t',rfl⟩ := ry; exact PySem.EqNone.ne_none_int (zas I q (by simp))
    | str j => obtain ⟨t',rfl⟩ := ry; exact PySem.EqNone.ne_none_str (zas I q (by simp))
    | _ => exact absurd (show false = true from hs) Bool.false_ne_true
  | bl i =>
    cases rx
    cases y with
    | non => cases ry; exact PySem.EqNone.ne_bool_none (zas I q (by simp))
    | bl j => cases ry; exact ne_bool (zas I q (congrArg not zfk))
    | str j => obtain ⟨t',rfl⟩ := ry; exact PySem.EqMixed.ne_bool_str (zas I q (by simp))
    | _ => exact absurd (show false = true from hs) Bool.false_ne_true
  | int i =>
    obtain ⟨t,rfl⟩ := rx
    cases y with
    | non => cases ry; exact PySem.EqNone.ne_int_none (zas I q (by simp))
    | int j => obtain ⟨t',rfl⟩ := ry; exact ne_int (zas I q (congrArg not zdQ))
    | str j => obtain ⟨t',rfl⟩ := ry; exact PySem.EqMixed.ne_int_str (zas I q (by simp))
    | _ => exact absurd (show false = true from hs) Bool.false_ne_true
  | str i =>
    obtain ⟨t,rfl⟩ := rx
    cases y with
    | non => cases ry; exact PySem.EqNone.ne_str_none (zas I q (by simp))
    | bl j => cases ry; exact PySem.EqMixed.ne_str_bool (zas I q (by simp))
    | int j => obtain ⟨t',rfl⟩ := ry; exact PySem.EqMixed.ne_str_int (zas I q (by simp))
    | str j => obtain ⟨t',rfl⟩ := ry; exact ne_str (zas I q (congrArg not zdP))
    | _ => exact absurd (show false = true from hs) Bool.false_ne_true
  | byt i =>
    obtain ⟨t,rfl⟩ := rx
    cases y with
    | byt j => obtain ⟨t',rfl⟩ := ry; exact PySem.W.ne_bytes (zas I q (congrArg not zfj))
    | _ => exact absurd (show false = true from hs) Bool.false_ne_true
  | _ => cases y <;> exact absurd (show false = true from hs) Bool.false_ne_true
theorem ziB : OpR X (compareOp .Lt) (rI0 fun i j => .bl (decide (i < j))) := opB0 fun _ _ _ _ _ _ _ q => lt_int q
theorem ziC : OpR X (compareOp .Gt) (rI0 fun i j => .bl (decide (j < i))) := opB0 fun _ _ _ _ _ _ _ q => gt_int q
theorem OpR.or {f : Value→Value→Sem Value} {r r' : R2} (h : OpR X f r) (h' : OpR X f r') : OpR X f (fun x y H Q => r x y H Q∨r' x y H Q) := by
  intro pins s σ H x y v u Q I rx ry q
  rcases q with q | q
  · exact h pins s σ H x y v u Q I rx ry q
  · exact h' pins s σ H x y v u Q I rx ry q
theorem zcz (b : Expr) {op : CmpOp} (h : op≠.In := by decide) (h2 : op≠.NotIn := by decide) : behindInMarks op b = false := by
  have e1 : (op == CmpOp.In) = false := by cases op <;> first | rfl | exact absurd rfl h
  have e2 : (op == CmpOp.NotIn) = false := by cases op <;> first | rfl | exact absurd rfl h2
  cases b <;> simp [behindInMarks,e1,e2]
theorem zhc {op : CmpOp} {r : R2} (ho : OpR X (compareOp op) r) (ha : PE X a ta) (hb : PE X b tb) (hm : behindInMarks op b = false) : PE X (.Compare a [op] [b] pos) (tOp r ta tb) := by
  intro pins s σ H Q I h
  exact wpAny_Compare1 (binT ha hb I h fun v u s2 x y H2 I2 rx ry q => ho pins s2 σ H2 x y v u Q I2 rx ry q) hm
noncomputable def zjl (t : TE) : TT := fun σ H Q => t σ H fun x H' => ∃ k,x = .bl k∧Q k H'
theorem zg6 {op : CmpOp} {r : R2} (ho : OpR X (compareOp op) r) (ha : PE X a ta) (hb : PE X b tb) (hm : behindInMarks op b = false) : PT X (.Compare a [op] [b] pos) (zjl (tOp r ta tb)) := by
  intro pins s σ H Q I h
  refine wpAny_isTrue_Compare1 (thn (ha pins s σ H _ I h) fun v s1 ⟨x,H1,I1,r1,q1⟩ => thn (hb pins s1 σ H1 _ I1 q1) fun u s2 ⟨y,H2,I2,r2,q2⟩ =>
    thn (ho pins s2 σ H2 x y v u _ I2 r1 r2 q2) fun c s3 ⟨z,H3,I3,r3,k,e,q3⟩ => ?_) hm
  subst e
  cases r3
  exact wpAny_truthy_bool ⟨H3,I3,q3⟩
noncomputable def TruV (K : PySem.W.Frag) (x : V) (H : Hp) (k : Bool) : Prop :=
  match x with
  | .non => k = false
  | .bl b => k = b
  | .int i => k = (i != 0)
  | .str y => y.length≤sizeLine∧k = ((y.length : Int) != 0)
  | .byt y => y.size≤sizeLine∧k = ((y.size : Int) != 0)
  | .ref p => (∃ xs,SqL K H p xs∧k = ! xs.isEmpty)∨(∃ xs,SqT K H p xs∧k = ! xs.isEmpty)∨∃ kvs,Rd H p (.dK kvs)∧k = ! kvs.isEmpty
  | _ => False
theorem zeo {κ : Type} {kvs : List (κ × V)} {vs : List (κ × Value)} (r : KV kvs vs) : (! vs.isEmpty) = ! kvs.isEmpty := by
  cases r <;> rfl
theorem zcT {xs : List V} {its : List Value} (r : Vals xs its) : (! its.toArray.isEmpty) = ! xs.isEmpty := by
  cases r <;> simp
theorem zdp : (sizeLine : Nat) < 2 ^ 63 := by rw [sizeLine_eq]; decide
theorem zhU : TruR X (fun x H Q => ∃ k,TruV X.K x H k∧Q k H) := by
  intro pins s σ H x v Q I rx h
  obtain ⟨k,e,q⟩ := h
  have hl := zdp
  have hs : sizeLine = 16777216 := sizeLine_eq
  cases x with
  | non =>
    cases rx
    have e' : k = false := e
    subst e'
    exact truthy_none ⟨H,I,q⟩
  | bl b =>
    cases rx
    have e' : k = b := e
    subst e'
    exact wpAny_truthy_bool ⟨H,I,q⟩
  | int i =>
    obtain ⟨t,rfl⟩ := rx
    have e' : k = (i != 0) := e
    subst e'
    exact PySem.P.truthy_int ⟨H,I,q⟩
  | str y =>
    obtain ⟨t,rfl⟩ := rx
    obtain ⟨hy,e'⟩ : y.length≤sizeLine∧k = ((y.length : Int) != 0) := e
    subst e'
    exact PySem.P.truthy_str (by omega) ⟨H,I.tok _,q⟩
  | byt y =>
    obtain ⟨t,rfl⟩ := rx
    obtain ⟨hy,e'⟩ : y.size≤sizeLine∧k = ((y.size : Int) != 0) := e
    subst e'
    exact PySem.W.truthy_bytes (by omega) ⟨H,I.tok _,q⟩
  | ref p =>
    cases rx
    have e' : (∃ xs,SqL X.K H p xs∧k = ! xs.isEmpty)∨(∃ xs,SqT X.K H p xs∧k = ! xs.isEmpty)∨∃ kvs,Rd H p (.dK kvs)∧k = ! kvs.isEmpty := e
    rcases e' with ⟨xs,hx,e'⟩ | ⟨xs,hx,e'⟩ | ⟨kvs,hx,e'⟩
    · subst e'
      obtain ⟨its,r,pl,hz⟩ := I.list hx
      have hlen := r.length
      exact wpAny_truthy_list pl.isList (by simp only [List.size_toArray]; omega) ⟨H,I.tok _,by rw [zcT r]; exact q⟩
    · subst e'
      obtain ⟨its,r,pl,hz⟩ := I.tuple hx
      have hlen := r.length
      exact truthy_tuple pl (by simp only [List.size_toArray]; omega) ⟨H,I.tok _,by rw [zcT r]; exact q⟩
    · subst e'
      obtain ⟨hz,hS,vs,r,m⟩ : kvs.length≤sizeLine∧(p == sysModules) = false∧∃ vs,KV kvs vs∧s.heap.DictOf (zbk X.prog X.w) p vs := hx.ok I.hok
      have hlen : kvs.length = vs.length := Paired.length r
      exact wpAny_truthy_dict hS m (by omega) ⟨H,I.tok _,by rw [zeo r]; exact q⟩
  | _ => exact (show False from e).elim
theorem zfQ (ha : PE X a ta) (he : ∀ whole,isTrue a X.env whole = (do let v ← whole; standAt a.pos; holding [v] (truthy v))) :
    PT X a (fun σ H Q => ta σ H fun x H' => ∃ k,TruV X.K x H' k∧Q k H') := by
  intro pins s σ H Q I h
  exact isTrue_plain (thn (ha pins s σ H _ I h) fun v s1 ⟨x,H1,I1,r1,q1⟩ => zhU pins s1 σ H1 x v Q I1 r1 q1) (he _)
theorem zel : OpR X (binaryOp .Add) (fun x y H Q => ∃ i j,x = .str i∧y = .str j∧i.length + j.length≤sizeLine∧Q (.str (i++j)) H) := by
  intro pins s σ H x y v u Q I rx ry h
  obtain ⟨i,j,rfl,rfl,hz,q⟩ := h
  obtain ⟨t,rfl⟩ := rx
  obtain ⟨t',rfl⟩ := ry
  exact add_str (fun t' tk => ⟨.str (i++j),H,I.tok _,⟨_,rfl⟩,q⟩) hz
theorem zfF {x : V} {us : List Value} (r : Vals [x] us) : ∃ u,us = [u]∧RelV x u := by
  cases r with
  | cons r1 r2 => cases r2; exact ⟨_,rfl,r1⟩
theorem zhR {x y : V} {us : List Value} (r : Vals [x,y] us) : ∃ u w',us = [u,w']∧RelV x u∧RelV y w' := by
  cases r with
  | cons r1 r2 =>
    cases r2 with
    | cons r3 r4 => cases r4; exact ⟨_,_,rfl,r1,r3⟩
theorem zgo : zcp X (.builtin "abs") (fun xs H Q => ∃ i,xs = [.int i]∧Q (.int (if i < 0 then -i else i)) H) := by
  intro pins s σ H xs us Q I r h
  obtain ⟨i,rfl,q⟩ := h
  obtain ⟨u,rfl,t,rfl⟩ := zfF r
  exact call_abs_int fun u tk => ⟨.int (if i < 0 then -i else i),H,I.tok _,⟨_,rfl⟩,q⟩
noncomputable def LenV (K : PySem.W.Frag) (x : V) (H : Hp) (n : Nat) : Prop :=
  match x with
  | .str y => y.length≤sizeLine∧n = y.length
  | .byt y => y.size≤sizeLine∧n = y.size
  | .ref p => (∃ xs,SqL K H p xs∧n = xs.length)∨∃ xs,SqT K H p xs∧n = xs.length
  | _ => False
theorem zgk : zcp X (.builtin "len") (fun xs H Q => ∃ x n,xs = [x]∧LenV X.K x H n∧Q (.int n) H) := by
  intro pins s σ H xs us Q I r h
  obtain ⟨x,n,rfl,e,q⟩ := h
  obtain ⟨u,rfl,rx⟩ := zfF r
  have hl := zdp
  have hs : sizeLine = 16777216 := sizeLine_eq
  cases x with
  | str y =>
    obtain ⟨t,rfl⟩ := rx
    obtain ⟨hy,e'⟩ : y.length≤sizeLine∧n = y.length := e
    subst e'
    exact len_str (by omega) ⟨.int _,H,I.tok _,⟨_,rfl⟩,q⟩
  | byt y =>
    obtain ⟨t,rfl⟩ := rx
    obtain ⟨hy,e'⟩ : y.size≤sizeLine∧n = y.size := e
    subst e'
    exact PySem.W.len_bytes (by omega) ⟨.int _,H,I.tok _,⟨_,rfl⟩,q⟩
  | ref p =>
    cases rx
    have e' : (∃ xs,SqL X.K H p xs∧n = xs.length)∨∃ xs,SqT X.K H p xs∧n = xs.length := e
    rcases e' with ⟨xs,hx,e'⟩ | ⟨xs,hx,e'⟩
    · subst e'
      obtain ⟨its,r',pl,hz⟩ := I.list hx
      have hlen := r'.length
      exact Calls.call_len_list pl.isList (by simp only [List.size_toArray]; omega) ⟨.int xs.length,H,I.tok _,⟨_,by simp only [List.size_toArray]; rw [hlen]⟩,q⟩
    · subst e'
      obtain ⟨its,r',pl,hz⟩ := I.tuple hx
      have hlen := r'.length
      exact len_tuple pl (by simp only [List.size_toArray]; omega) ⟨.int xs.length,H,I.tok _,⟨_,by simp only [List.size_toArray]; rw [hlen]⟩,q⟩
  | _ => exact (show False from e).elim
end
end L2
namespace L2
open PySem PySem.Spec PyProof.Rows
structure ObjM (h : Heap) (x dx C : Addr) (mA : Str→Option Value) : Prop where
  obj : h.get? x = some (PySem.W.instObj C dx)
  ns : h.Ns1 dx mA
  ne : dx≠x
section
variable {prog : Program} {w : World} {A : Around} {E : Value → Shared → Prop} {s : Shared} {K : PySem.W.Frag} {x dx C f : Addr} {mA : Str → Option Value} {name : Str} {v : Value}
end
theorem RelO.some_of {v : V} {o : Option Value} (r : RelO (some v) o) : ∃ u,o = some u∧RelV v u := by
  cases o with
  | none => exact (show False from r).elim
  | some u => exact ⟨u,rfl,r⟩
section
variable {P : Program} {w : World} {H H' : Hp} {h h' : Heap} {a C dx : Addr} {fs fs' : List (Str × V)}
end
structure Cls (K : PySem.W.Frag) (C : Addr) : Prop where
  pg : PySem.W.plainGet K C Str.empty = true
  hd : PySem.W.hasDictIn K C = true
  po : PySem.W.plainOver K C = true
  sa : PySem.W.findIn K (.ref C) "__setattr__" = some (some (.builtin "object.__setattr__"))
theorem Cls.get {K : PySem.W.Frag} {C : Addr} (c : Cls K C) (f : Str) : PySem.W.plainGet K C f = true := c.pg
structure Con (K : PySem.W.Frag) (C : Addr) (f : Str) (v : V) (u : Value) : Prop where
  at_ : PySem.W.findIn K (.ref C) f = some (some u)
  rel : RelV v u
  get : PySem.W.specialIn K u "__get__" = some none
  cp : PySem.W.copiedNames.contains f = false
structure Meth (K : PySem.W.Frag) (C : Addr) (m : Str) (f : Addr) : Prop where
  at_ : PySem.W.findIn K (.ref C) m = some (some (.ref f))
  fn : PySem.W.isFn K (.ref f) = true
  kp : PySem.W.keepIn K (.ref f) = true
section
variable {X : Cx} {pins : List (Addr × Obj)} {σ : St} {H : Hp} {s : Shared} {a C dx : Addr} {fs : List (Str × V)} {f : Str} {v : V} {A : Around} {E : Value → Shared → Prop}
end
section
variable {X : Cx} {o e value : Expr} {f : Str} {pos pos' tpos : Pos} {ta tv : TE}
end
section
variable {X : Cx} {pins : List (Addr × Obj)} {σ : St} {H : Hp} {s : Shared} {A : Around} {E : Value → Shared → Prop} {Q : Value → Shared → Prop} {c : Value} {b : Bool}
inductive TyOf (K : PySem.W.Frag) (H : Hp) : V→Value→Prop where
  | non : TyOf K H .non (.type "NoneType")
  | bl (x : Bool) : TyOf K H (.bl x) (.type "bool")
  | int (i : Int) : TyOf K H (.int i) (.type "int")
  | str (x : Str) : TyOf K H (.str x) (.type "str")
  | flt (x : UInt64) : TyOf K H (.flt x) (.type "float")
  | lst {a : Addr} {xs : List V} (e : H a = some (.lst xs)) : TyOf K H (.ref a) (.type "list")
  | frz {a : Addr} {o : Obj} {xs : List V} (e : H a = some (.frz o (.lst xs))) : TyOf K H (.ref a) (.type "list")
  | tup {a : Addr} {xs : List V} (e : H a = some (.tup xs)) : TyOf K H (.ref a) (.type "tuple")
  | dK {a : Addr} {kvs : List (Key × V)} (e : H a = some (.dK kvs)) : TyOf K H (.ref a) (.type "dict")
  | dT {a : Addr} {kvs : List (List Key × V)} (e : H a = some (.dT kvs)) : TyOf K H (.ref a) (.type "dict")
  | ins {a C dx : Addr} {fs : List (Str × V)} (e : H a = some (.ins C dx fs)) (cl : Cls K C) (ha : PySem.W.findIn K (.ref C) "__class__" = some (some (.builtin "object.__class__")))
      (hn : PySem.W.specialIn K (.builtin "object.__class__") "__get__" = some (some (.builtin "getset_descriptor.__get__"))) (htk : PySem.W.takesIn K (.builtin "object.__class__") = some true)
      (hm : PySem.W.mroIn K C (.type "object") = some true) : TyOf K H (.ref a) (.ref C)
end
end L2
namespace L2
open PySem PySem.Spec PyProof.Rows
structure Room (k : Nat) (A : Around) : Prop where
  hd : A.handled = none
  dp : A.depth + 3 * k + 5 < recursionLimit
  un : A.units + 16 * k + 200 < cLine
theorem Room.mono {j k : Nat} {A : Around} (r : Room k A) (h : j≤k) : Room j A := ⟨r.hd,by have := r.dp; omega,by have := r.un; omega⟩
theorem Room.deeper {k : Nat} {A : Around} (r : Room (k + 1) A) (env : Env) : Room k (A.deeper env) :=
  ⟨r.hd,by have := r.dp; show A.depth + 1 + 3 * k + 5 < _; omega,by have := r.un; show A.units + 3 + 16 * k + 200 < _; omega⟩
theorem Room.depth {k : Nat} {A : Around} (r : Room k A) : A.depth < recursionLimit := by have := r.dp; omega
theorem Room.units {k : Nat} {A : Around} (r : Room k A) : A.units + 64 < cLine := by have := r.un; omega
noncomputable def tNil : TA := fun _ H Q => Q [] H
noncomputable def zjp (ta : TE) (tr : TA) : TA := fun σ H Q => ta σ H fun x H1 => tr σ H1 fun xs H2 => Q (x::xs) H2
section
variable {X : Cx} {e : Expr} {es : List Expr} {te : TE} {t : TA} {pos : Pos}
theorem zdm : PA X [] tNil := fun _ _ _ _ H Q I h => Calls.spliced_nil ⟨[],H,I,.nil,h⟩
theorem zbP (ha : PE X e te) (hr : PA X es t) (hs : starEach (e::es) X.env = (false,eval e X.env)::starEach es X.env := by rfl) : PA X (e::es) (zjp te t) := by
  intro pos pins s σ H Q I h
  rw [hs]
  show wpAny _ _ (spliced ((false,eval e X.env)::backTo pos (starEach es X.env))) _ _ s
  refine Calls.spliced_cons (thn (ha pins s σ H _ I h) fun u s1 ⟨x,H1,I1,r1,q1⟩ => ?_)
  exact thn (hr pos pins s1 σ H1 _ I1 q1) fun us s2 ⟨xs,H2,I2,r2,q2⟩ => ⟨x::xs,H2,I2,.cons r1 r2,q2⟩
noncomputable def tTup (t : TA) : TE := fun σ H Q => t σ H fun xs H1 => xs.length≤sizeLine∧∀ p,H1 p = none→Q (.ref p) (upd H1 p (.tup xs))
noncomputable def tLst (t : TA) : TE := fun σ H Q => t σ H fun xs H1 => xs.length≤sizeLine∧∀ p,H1 p = none→Q (.ref p) (upd H1 p (.lst xs))
theorem zio {x1} (h : PA X es t) : PE X (.Tuple es x1 pos) (tTup t) := by
  intro pins s σ H Q I hq
  refine wpAny_Tuple_spliced (thn (h pos pins s σ H _ I hq) fun us s1 ⟨xs,H1,I1,r,z,q⟩ => ⟨by rw [← r.length]; exact z,?_⟩)
  have hf : H1 s1.heap.objs.size = none := I1.hok.fresh (Nat.le_refl _)
  refine ⟨.ref s1.heap.objs.size,upd H1 s1.heap.objs.size (.tup xs),I1.laid (t' := s1.toks) (fun b u e => Heap.get?_push_of_some _ e) (Nat.le_refl _) ?_,rfl,q _ hf⟩
  exact ⟨z,us,r,⟨_,Heap.get?_push_size _ rfl,rfl,_,rfl⟩,_,Heap.get?_push_size _ rfl,rfl⟩
theorem ziu (h : PA X es t) : PE X (.List es pos) (tLst t) := by
  intro pins s σ H Q I hq
  refine wpAny_List_spliced (thn (h pos pins s σ H _ I hq) fun us s1 ⟨xs,H1,I1,r,z,q⟩ => ⟨by rw [← r.length]; exact z,?_⟩)
  have hf : H1 s1.heap.objs.size = none := I1.hok.fresh (Nat.le_refl _)
  refine ⟨.ref s1.heap.objs.size,upd H1 s1.heap.objs.size (.lst xs),I1.laid (t' := s1.toks) (fun b u e => Heap.get?_push_of_some _ e) (Nat.le_refl _) ?_,rfl,q _ hf⟩
  exact ⟨z,us,0,r,Heap.get?_push_size _ rfl⟩
end
noncomputable abbrev Sp := List V→Hp→VK→XK→Prop
noncomputable abbrev CXT := List Env→Hp→Shared→XK→Value→Shared→Prop
structure Env0 (P : Program) (w : World) (K : PySem.W.Frag) (mg : Str→Option Value) (base : Heap) (A : Around) (outer : List Env) (s : Shared) (H : Hp) : Prop where
  frames : A.frames = some outer
  mod : Mod K mg base
  bs : ∀ b o,base.get? b = some o→s.heap.get? b = some o∧H b = none
  bsz : base.objs.size≤s.heap.objs.size
  funs : s.heap.FunFrames base outer
  frf : ∀ b∈frs outer,H b = none
  hok : HOk P w H s.heap
  bare : AllBare s.gens
noncomputable def CE (outer : List Env) (P : Program) (w : World) (H : Hp) (s : Shared) (Q : VK) (u : Value) (s' : Shared) : Prop :=
  ∃ v H',s'.os = s.os∧AllBare s'.gens∧Un (frs outer) [] H H' s.heap s'.heap∧HOk P w H' s'.heap∧RelV v u∧Q v H'
noncomputable def CR (CX : CXT) (outer : List Env) (P : Program) (w : World) (H : Hp) (s : Shared) (Q : VK) (E : XK) (r : Result) (s' : Shared) : Prop :=
  match r with
  | .ok (.ret u) => CE outer P w H s Q u s'
  | .ok _ => False
  | .error e => CX outer H s E e s'
structure FnOk (P : Program) (w : World) (K : PySem.W.Frag) (mg : Str→Option Value) (base : Heap) (CX : CXT) (k : Nat) (f : Addr) (fd : FuncData) (ps : List Str) (sp : Sp) : Prop where
  len : ∀ vs H Q E,sp vs H Q E→vs.length = ps.length
  run : ∀ (A : Around) (outer : List Env) (s : Shared) (H : Hp) (args : Args) (us : List Value) (vs : List V) (Q : VK) (E : XK),Room k A→Env0 P w K mg base A outer s H→BindsTo s fd args (ps.zip us)→Vals vs us→sp vs H Q E →
    codeAny (model P w) A (.call (.ref f) args) (CR CX outer P w H s Q E) s
theorem FnOk.mono {P : Program} {w : World} {K : PySem.W.Frag} {mg : Str→Option Value} {base : Heap} {CX : CXT} {j k : Nat} {f : Addr} {fd : FuncData} {ps : List Str} {sp : Sp} (F : FnOk P w K mg base CX j f fd ps sp) (h : j≤k) :
    FnOk P w K mg base CX k f fd ps sp := ⟨F.len,fun A outer s H args us vs Q E hr => F.run A outer s H args us vs Q E (hr.mono h)⟩
section
variable {X : Cx} {pins : List (Addr × Obj)} {σ : St} {H : Hp} {s s' : Shared}
theorem Inv.env0 (I : Inv X pins σ H s) : Env0 X.prog X.w X.K X.mg X.base X.A X.stack s H :=
  ⟨I.ok.frames,I.ok.mod,I.bs,Nat.le_trans I.ok.bsz I.sz,I.stack,I.stkFree,I.hok,I.bare⟩
theorem Inv.after {Q : VK} {u : Value} (I : Inv X pins σ H s) (h : CE X.stack X.prog X.w H s Q u s') : EP X pins σ Q u s' := by
  obtain ⟨v,H',os,bare,un,hok,r,q⟩ := h
  obtain ⟨hh,g,d,t,os'⟩ := s'
  obtain rfl : os' = s.os := os
  exact ⟨v,H',I.call (h' := hh) (g' := g) (d' := d) (t' := t) (ch := []) un hok bare (fun b z => absurd z (by simp)),r,q⟩
end
noncomputable def zjq (sp : Sp) (dvs : List V) (E : XK) (t : TA) : TE := fun σ H Q => t σ H fun vs H1 => sp (vs++dvs) H1 Q E
noncomputable def zcq (K : PySem.W.Frag) (fd : FuncData) (ps : List Str) (ds : List Value) : Prop :=
  ∀ (s : Shared) (us : List Value),K.In s.heap→(us++ds).length = ps.length→BindsTo s fd ⟨us,[]⟩ (ps.zip (us++ds))
theorem zcq.all {K : PySem.W.Frag} {fd : FuncData} {ps : List Str} (h : ∀ us : List Value,us.length = ps.length→bindArgs fd ⟨us,[]⟩ = pure (ps.zip us)) : zcq K fd ps [] := fun s us _ hl => by
  rw [List.append_nil] at hl ⊢
  exact .of_eq (h us hl)
noncomputable def zfx (CX : CXT) (X : Cx) (E : XK) : Prop := ∀ (pins : List (Addr × Obj)) (σ : St) (H : Hp) (s : Shared) (e : Value) (s' : Shared),Inv X pins σ H s→CX X.stack H s E e s'→X.xe e s'
section
variable {X : Cx} {CX : CXT} {k : Nat} {f C : Addr} {fd : FuncData} {ps : List Str} {sp : Sp} {dvs : List V} {ds : List Value} {E : XK} {x m : Str} {p pos apos : Pos} {e o : Expr} {es : List Expr} {ta : TE} {t : TA}
theorem zib {pins : List (Addr × Obj)} {σ : St} {H : Hp} {s : Shared} {Q : VK} {us : List Value} {vs : List V} (F : FnOk X.prog X.w X.K X.mg X.base CX k f fd ps sp) (hr : Room k X.A) (hb : zcq X.K fd ps ds) (hd : Vals dvs ds) (hx : zfx CX X E)
    (I : Inv X pins σ H s) (r : Vals vs us) (h : sp (vs++dvs) H Q E) : wpAny (model X.prog X.w) X.A (call (.ref f) us) (EP X pins σ Q) X.xe s := by
  have r2 : Vals (vs++dvs) (us++ds) := r.append hd
  have hl : (us++ds).length = ps.length := by rw [← r2.length]; exact F.len _ _ _ _ h
  refine wpAny_call (codeAny_mono (F.run X.A X.stack s H ⟨us,[]⟩ (us++ds) (vs++dvs) Q E hr I.env0 (hb s us I.kIn hl) r2 h) fun r s' hq => ?_)
  cases r with
  | error e => exact hx pins σ H s e s' I hq
  | ok fl =>
    cases fl with
    | ret u => exact I.after hq
    | next => exact False.elim hq
    | brk => exact False.elim hq
    | cont => exact False.elim hq
theorem zhd (F : FnOk X.prog X.w X.K X.mg X.base CX k f fd ps sp) (hr : Room k X.A) (hg : Gl X x) (hm : X.mg x = some (.ref f)) (hk : PySem.W.keepIn X.K (.ref f) = true) (hb : zcq X.K fd ps ds) (hd : Vals dvs ds) (hx : zfx CX X E)
    (ha : PA X (e::es) t) (hdb : (x == ("__debug__" : Str)) = false := by decide) (he : starEach (e::es) X.env = (false,eval e X.env)::starEach es X.env := by rfl) (hpl : (backTo pos (starEach es X.env)).any (·.1) = false := by rfl) :
    PE X (.Call (.Name x p) (e::es) [] pos) (zjq sp dvs E t) := by
  intro pins s σ H Q I h
  refine wpAny_Call_Name_kw (zcB I hg hm ?_ hdb)
  refine PySem.W.callWith_K (h₀ := X.base) I.ok.mod.kin hk (thn (ha pos pins s σ H _ I h) fun us s1 ⟨vs,H1,I1,r,q⟩ => ⟨I1.kIn,?_⟩) he hpl
  exact zib F hr hb hd hx I1 r q
structure Mk (K : PySem.W.Frag) (C f : Addr) : Prop where
  makes : PySem.W.makesIn K C = true
  init : PySem.W.findIn K (.ref C) "__init__" = some (some (.ref f))
  fn : PySem.W.isFn K (.ref f) = true
  kp : PySem.W.keepIn K (.ref C) = true
end
section
variable {X : Cx} {CX : CXT} {k : Nat} {f C : Addr} {fd : FuncData} {ps ks : List Str} {sp : Sp} {E : XK} {x m : Str} {p pos apos kpos : Pos} {e o : Expr} {es : List Expr} {kws : List Keyword} {te ta : TE} {t tk : TA} {nm : Option Str}
structure KBinds (K : PySem.W.Frag) (fd : FuncData) (ps ks : List Str) (g : List Value→List Value→List Value) (gV : List V→List V→List V) : Prop where
  to : ∀ (s : Shared) (us ws : List Value),K.In s.heap→(g us ws).length = ps.length→BindsTo s fd ⟨us,ks.zip ws⟩ (ps.zip (g us ws))
  rel : ∀ {vs : List V} {us : List Value} {zs : List V} {ws : List Value},Vals vs us→Vals zs ws→Vals (gV vs zs) (g us ws)
variable {g : List Value → List Value → List Value} {gV : List V → List V → List V}
end
structure FnScope (N P : List Str) (sc : Scope) : Prop where
  kind : sc.kind = .function
  co : sc.isCoroutine = false
  gen : sc.isGenerator = false
  nd : N.Nodup
  pre : N.take P.length = P
  par : ∀ x∈P,sc.names.lookup x = some .local∨sc.names.lookup x = some .cell
  nofree : ∀ y∈sc.names,y.2≠.free
theorem zdx {kindOf : Str→Option NameKind} {x : Str} : ∀ {binds : List (Str × Value)} {m : Str→Option Value},(∀ v,(x,v)∉binds)→bindL kindOf binds m x = m x
  | [],_,_ => rfl
  | (n,v)::r,m,h => by
    unfold bindL
    rw [zdx fun w hw => h w (List.mem_cons_of_mem _ hw)]
    split
    · have : x≠n := by rintro rfl; exact h v List.mem_cons_self
      simp [this]
    · rfl
theorem zdz {kindOf : Str→Option NameKind} {x : Str} : ∀ {binds : List (Str × Value)} {m : Str→Option Value},(∀ v,(x,v)∉binds)→bindC kindOf binds m x = m x
  | [],_,_ => rfl
  | (n,v)::r,m,h => by
    unfold bindC
    rw [zdz fun w hw => h w (List.mem_cons_of_mem _ hw)]
    split
    · rfl
    · have : x≠n := by rintro rfl; exact h v List.mem_cons_self
      simp [this]
theorem zdy {kindOf : Str→Option NameKind} {x : Str} {v : Value} : ∀ {P : List Str} {vs : List Value} {i : Nat} {m : Str→Option Value},P.Nodup→P[i]? = some x→vs[i]? = some v→kindOf x = some .local →
    bindL kindOf (P.zip vs) m x = some v
  | [],_,_,_,_,h,_,_ => by simp at h
  | _::_,[],_,_,_,_,h,_ => by simp at h
  | p::P,w::vs,0,m,nd,h1,h2,hk => by
    simp at h1 h2; subst h1; subst h2
    show bindL kindOf ((p,w)::P.zip vs) m p = _
    unfold bindL
    rw [zdx fun v hv => (List.nodup_cons.mp nd).1 (List.of_mem_zip hv).1,if_pos hk]
    simp
  | p::P,w::vs,i + 1,m,nd,h1,h2,hk => by
    show bindL kindOf ((p,w)::P.zip vs) m x = _
    unfold bindL
    exact zdy (i := i) (List.nodup_cons.mp nd).2 (by simpa using h1) (by simpa using h2) hk
theorem zdA {kindOf : Str→Option NameKind} {x : Str} {v : Value} : ∀ {P : List Str} {vs : List Value} {i : Nat} {m : Str→Option Value},P.Nodup→P[i]? = some x→vs[i]? = some v→kindOf x≠some .local →
    bindC kindOf (P.zip vs) m x = some v
  | [],_,_,_,_,h,_,_ => by simp at h
  | _::_,[],_,_,_,_,h,_ => by simp at h
  | p::P,w::vs,0,m,nd,h1,h2,hk => by
    simp at h1 h2; subst h1; subst h2
    show bindC kindOf ((p,w)::P.zip vs) m p = _
    unfold bindC
    rw [zdz fun v hv => (List.nodup_cons.mp nd).1 (List.of_mem_zip hv).1,if_neg hk]
    simp
  | p::P,w::vs,i + 1,m,nd,h1,h2,hk => by
    show bindC kindOf ((p,w)::P.zip vs) m x = _
    unfold bindC
    exact zdA (i := i) (List.nodup_cons.mp nd).2 (by simpa using h1) (by simpa using h2) hk
noncomputable def start (N : List Str) (vs : List V) : St := vs.map some++List.replicate (N.length - vs.length) none
noncomputable def cxOf (CX : CXT) (P : Program) (w : World) (K : PySem.W.Frag) (mg : Str→Option Value) (base : Heap) (N : List Str) (qual : Str) (scope : Scope) (f : Addr) (cd : Value) (A : Around) (outer : List Env) (s : Shared) (H : Hp) (E : XK) : Cx where
  prog := P
  w := w
  K := K
  mg := mg
  base := base
  A := A.deeper (envOfC qual scope s.heap.objs.size f cd)
  N := N
  s₀ := s
  H₀ := H
  env := envOfC qual scope s.heap.objs.size f cd
  outer := outer
  stack := envOfC qual scope s.heap.objs.size f cd::outer
  ex := []
  calm := true
  fn := fun _ => true
  pn := []
  xe := fun e s' => wpAny (model P w) (A.deeper (envOfC qual scope s.heap.objs.size f cd)) (leaving (envOfC qual scope s.heap.objs.size f cd) e) (fun _ s'' => CX outer H s E e s'') (fun e' s'' => CX outer H s E e' s'') s'
theorem zea {sc : Scope} {n : Nat} {x : Str} (h : sc.names.lookup x = some .cell) : ∃ c,(cellsFrom n sc.names []).lookup x = some c := by
  have q := PySem.W.cellsFrom_some sc.names n [] (.inl h)
  exact Option.isSome_iff_exists.mp q
theorem ze4 {CX : CXT} {P : Program} {w : World} {K : PySem.W.Frag} {mg : Str→Option Value} {base : Heap} {N ps : List Str} {qual : Str} {scope : Scope} {f : Addr} {cd : Value} {A : Around} {outer : List Env} {s s1 : Shared} {H : Hp} {E : XK} {us : List Value} {vs : List V}
    (S : FnScope N ps scope) (hd : A.handled = none) (e0 : Env0 P w K mg base A outer s H) (hl : vs.length = ps.length) (r : Vals vs us)
    (x : InCallC s s.heap.objs.size (bindL (envOfC qual scope s.heap.objs.size f cd).kindOf (ps.zip us) fun _ => none) (cellsFrom (s.heap.objs.size + 1) scope.names []) (bindC (envOfC qual scope s.heap.objs.size f cd).kindOf (ps.zip us) fun _ => none) s1) :
    Inv (cxOf CX P w K mg base N qual scope f cd A outer s H E) [] (start N vs) H s1 := by
  have hpl : ps.length≤N.length := by have := congrArg List.length S.pre; rw [List.length_take] at this; omega
  obtain ⟨h1,tk,rfl,hk⟩ := x.done
  have noA : ∀ b : Addr,b∉(cxOf CX P w K mg base N qual scope f cd A outer s H E).ex := fun b z => absurd (show b∈([] : List Addr) from z) (by simp)
  refine ⟨⟨e0.mod,S.kind,rfl,rfl,Nat.le_refl _,fun y z c h1 h2 => ?_,fun y hy => ?_,fun y c _ h => ?_,fun _ => hd,Around.frames_deeper e0.frames,.inr ⟨rfl,rfl⟩,fun b z => absurd z (noA b),e0.bs,e0.bsz,fun b _ _ => noA b,fun b z => absurd z (noA b),e0.funs,e0.frf⟩,
    rfl,e0.bare,Un.kept hk,⟨_,x.toInCall.ns,fun i y v h1 h2 h3 => ?_⟩,fun y c h => ⟨_,x.cell y c h⟩,e0.hok.fresh (Nat.le_refl _),fun y c h => ?_,fun p hp => absurd (show p∈([] : List (Addr × Obj)) from hp) (by simp),e0.hok.kept hk,?_⟩
  · exact name_of_addr x.apart (PySem.mem_of_lookup h1) (PySem.mem_of_lookup h2)
  · have hy : scope.names.lookup y = some .cell∨scope.names.lookup y = some .free := hy
    rcases hy with hy | hy
    · exact zea hy
    · exact absurd rfl (S.nofree _ (PySem.mem_of_lookup hy))
  · exact Nat.le_of_lt (x.above y c (PySem.mem_of_lookup h))
  · have hi : i < vs.length := by
      unfold start at h2
      by_cases hi : i < vs.length
      · exact hi
      · rw [List.getElem?_append_right (by simpa using hi)] at h2
        rw [List.getElem?_replicate] at h2
        split at h2 <;> cases h2
    have ha : vs[i]? = some v := by
      unfold start at h2
      rw [List.getElem?_append_left (by simpa using hi),List.getElem?_map] at h2
      cases e : vs[i]? with
      | none => rw [e] at h2; cases h2
      | some a => rw [e] at h2; cases h2; rfl
    obtain ⟨u,hu,rv⟩ := r.get ha
    have hp : ps[i]? = some y := by
      rw [← S.pre,List.getElem?_take_of_lt (by omega)]; exact h1
    have ndP : ps.Nodup := by rw [← S.pre]; exact S.nd.sublist (List.take_sublist _ _)
    refine ⟨u,rv,?_⟩
    rcases S.par y (List.mem_of_getElem? hp) with k | k
    · exact .inl ⟨k,zdy ndP hp hu k⟩
    · obtain ⟨c,e⟩ := zea (n := s.heap.objs.size + 1) k
      refine .inr ⟨.inl k,c,e,?_⟩
      have q := x.cell y c e
      rw [zdA ndP hp hu (by show scope.names.lookup y≠_; rw [k]; decide)] at q
      exact q
  · exact e0.hok.fresh (Nat.le_of_lt (x.above y c (PySem.mem_of_lookup h)))
  · unfold start
    show _ = N.length
    rw [List.length_append,List.length_map,List.length_replicate]
    omega
theorem zi4 {CX : CXT} {P : Program} {w : World} {K : PySem.W.Frag} {mg : Str→Option Value} {base : Heap} {k : Nat} {f : Addr} {name qual : Str} {params : Arguments} {body : List Stmt} {scope : Scope} {dV kV doc pm cdv ct oc : Value} {an od : Option Addr}
    {osl : Array (Option Value)} {N ps : List Str} {sp : Sp} (lk : K.lookup f = some ⟨oc,od,.func (PySem.W.fnOf name qual params body scope dV kV doc pm an cdv ct),osl⟩) (hcd : PySem.W.codeIn K cdv qual = true) (S : FnScope N ps scope)
    (len : ∀ vs H Q E,sp vs H Q E→vs.length = ps.length)
    (hbody : ∀ (A : Around) (outer : List Env) (s : Shared) (H : Hp) (vs : List V) (Q : VK) (E : XK),Room k (A.deeper (envOfC qual scope s.heap.objs.size f cdv))→sp vs H Q E →
      ∃ t,PSs (cxOf CX P w K mg base N qual scope f cdv A outer s H E) body t∧t { nx := fun _ H' => Q .non H',rt := Q } (start N vs) H) :
    FnOk P w K mg base CX (k + 1) f (PySem.W.fnOf name qual params body scope dV kV doc pm an cdv ct) ps sp := by
  refine ⟨len,fun A outer s H args us vs Q E hr e0 hb r hsp => ?_⟩
  have hl := len _ _ _ _ hsp
  have KX : K.In s.heap := e0.mod.kin.keeps fun b o e => (e0.bs b o e).1
  have lim : s.heap.NoLimit := e0.mod.nolimit.keeps fun b o e => (e0.bs b o e).1
  have hkind : ∀ y∈ps.zip us,scope.names.lookup y.1 = some .local∨(scope.names.lookup y.1 = some .cell∧((cellsFrom (s.heap.objs.size + 1) scope.names []).lookup y.1).isSome = true) := fun ⟨n,v⟩ hy => by
    rcases S.par n (List.of_mem_zip hy).1 with q | q
    · exact .inl q
    · exact .inr ⟨q,PySem.W.cellsFrom_some _ _ _ (.inl q)⟩
  refine codeAny_call_function hr.depth (KX _ _ lk) rfl S.co S.gen rfl (PySem.W.codeRec_of KX hcd) (hb _ _ _ _ ?_)
  refine wpAny_newFunctionEnv_cells S.kind hkind fun env he s1 x => ?_
  subst he
  refine ⟨lim.keeps x.toInCall.keep,codeAny_func ?_⟩
  obtain ⟨t,ht,hq⟩ := hbody A outer s H vs Q E (hr.deeper _) hsp
  have I : Inv (cxOf CX P w K mg base N qual scope f cdv A outer s H E) [] (start N vs) H s1 := ze4 S hr.hd e0 hl r x
  refine wpAny_mono (ht [] s1 (start N vs) H _ I hq) (fun fl s' hs => ?_) fun e s' hs => hs
  have fin : ∀ {σ' : St} {H' : Hp} {v : V} {u : Value},Inv (cxOf CX P w K mg base N qual scope f cdv A outer s H E) [] σ' H' s'→RelV v u→Q v H'→CE outer P w H s Q u s' :=
    fun {σ' H' v u} J rv q => ⟨v,H',J.os,J.bare,J.base,J.hok,rv,q⟩
  cases fl with
  | ret u =>
    obtain ⟨v,σ',H',J,rv,q⟩ := hs
    exact fin J rv q
  | next =>
    obtain ⟨σ',H',J,q⟩ := hs
    exact fin (v := V.non) (u := Value.none) J rfl q
  | brk =>
    obtain ⟨_,_,_,q⟩ := hs
    exact False.elim q
  | cont =>
    obtain ⟨_,_,_,q⟩ := hs
    exact False.elim q
end L2
namespace L2
open PySem PySem.Spec PyProof.Rows
section
variable {X : Cx} {x : Str} {p pos : Pos} {e : Expr} {es : List Expr} {t : TA} {id T : String} {r : List V → Hp → VK → Prop}
noncomputable def tCB (r : List V→Hp→VK→Prop) (t : TA) : TE := fun σ H Q => t σ H fun vs H1 => r vs H1 Q
theorem zcd (hc : zcp X (.builtin id) r) (hg : Gl X x) (hm : X.mg x = none) (hv : bootBuiltins x = some (.builtin id)) (ha : PA X (e::es) t) (hn : x≠"__name__" := by decide) (hdb : (x == ("__debug__" : Str)) = false := by decide)
    (he : starEach (e::es) X.env = (false,eval e X.env)::starEach es X.env := by rfl) (hpl : (backTo pos (starEach es X.env)).any (·.1) = false := by rfl) : PE X (.Call (.Name x p) (e::es) [] pos) (tCB r t) := by
  intro pins s σ H Q I h
  refine wpAny_Call_Name_kw (zgJ I hg hm hv ?_ hn hdb)
  exact PyProof.Rows.callWith_builtin1 (thn (ha pos pins s σ H _ I h) fun us s1 ⟨vs,H1,I1,r1,q1⟩ => hc pins s1 σ H1 vs us Q I1 r1 q1) he hpl
end
end L2
namespace HT
open PySem PyProof.Rows
section
open PySem.SeqAt
open PySem.AutoSeq1 (wpAny_loadPart')
open PySem.MeetsSeq PySem.MeetsSeq2 PySem.MeetsSeq3
end
section
variable {prog : Program} {w : World} {A : Around} {E : Value → Shared → Prop} {s : Shared}
theorem cat_tup {t b : Addr} {vs ws : List Value} {Q : Value→Shared→Prop} (ht : IsTup s.heap t vs.toArray) (hb : IsTup s.heap b ws.toArray) (hv : vs≠[])
    (h1 : ws = []→Q (.ref t) s) (h2 : ws≠[]→Q (.ref s.heap.objs.size) { s with heap := s.heap.push { cls := .type "tuple",data := .seq (vs++ws).toArray } })
    (hsz : vs.length + ws.length≤sizeLine) : wpAny (model prog w) A (binaryOp .Add (.ref t) (.ref b)) Q E s := by
  obtain ⟨⟨cls,dd,data,sl⟩,ho,hc,n,hd⟩ := id ht
  obtain ⟨⟨cls2,dd2,data2,sl2⟩,ho2,hc2,n2,hd2⟩ := id hb
  simp only at hc hd hc2 hd2
  subst hc hd hc2 hd2
  have e : vs.toArray++ws.toArray = (vs++ws).toArray := by simp
  by_cases hw : ws = []
  · exact concat_meets ⟨_,ho,rfl⟩ ⟨_,ho2,rfl⟩ noFill_tuple_add seq_tuple_add PySem.F.slot_tuple_add PySem.F.entry_tuple_add (PySem.F.args_tuple_add_2 _ _)
      (tuple_addW1 t b vs.toArray ws.toArray n n2 dd dd2 sl sl2 (by simpa using hv) (by simp [hw])) ⟨ho,ho2,h1 hw⟩
  · refine concat_meets ⟨_,ho,rfl⟩ ⟨_,ho2,rfl⟩ noFill_tuple_add seq_tuple_add PySem.F.slot_tuple_add PySem.F.entry_tuple_add (PySem.F.args_tuple_add_2 _ _)
      (tuple_addW2 t b vs.toArray ws.toArray n n2 dd dd2 sl sl2 (by simpa using hv) (by simpa using hw) (by rw [List.size_toArray,List.size_toArray]; exact hsz)) ⟨ho,ho2,?_⟩
    rw [e]
    exact h2 hw
noncomputable def sIx (n d : Nat) : Option Int→Nat
  | none => d
  | some v => if v < 0 then (v + (n : Int)).toNat else min v.toNat n
end
end HT
namespace L2
open PySem PySem.Spec PyProof.Rows
noncomputable abbrev TO := St→Hp→(Option Int→Hp→Prop)→Prop
section
variable {X : Cx} {e : Expr} {te : TE} {lo hi : Option Expr} {tl th : TO} {pos p2 : Pos}
noncomputable def zid (K : PySem.W.Frag) : R2 := fun x y H Q => ∃ a b xs ys,x = .ref a∧y = .ref b∧SqT K H a xs∧SqT K H b ys∧xs≠[]∧xs.length + ys.length≤sizeLine ∧
  (ys = []→Q (.ref a) H)∧(ys≠[]→∀ p,H p = none→Q (.ref p) (upd H p (.tup (xs++ys))))
theorem Vals.nil_iff {xs : List V} {us : List Value} (r : Vals xs us) : us = []↔xs = [] := by
  cases r with
  | nil => simp
  | cons _ _ => simp
theorem zhh : OpR X (binaryOp .Add) (zid X.K) := by
  intro pins s σ H x y v u Q I rx ry h
  obtain ⟨a,b,xs,ys,rfl,rfl,ha,hb,hx,hz,q1,q2⟩ := h
  cases rx
  cases ry
  obtain ⟨its,r1,p1,_⟩ := I.tuple ha
  obtain ⟨its2,r2,p2,_⟩ := I.tuple hb
  refine HT.cat_tup p1 p2 (fun z => hx (r1.nil_iff.mp z)) (fun z => ⟨.ref a,H,I,rfl,q1 (r2.nil_iff.mp z)⟩) (fun z => ?_) (by rw [← r1.length,← r2.length]; exact hz)
  refine ⟨.ref s.heap.objs.size,_,I.laid (t' := s.toks) (o := .tup (xs++ys)) (fun b ob q => Heap.get?_push_of_some _ q) (Nat.le_refl _) ?_,rfl,q2 (fun w => z (r2.nil_iff.mpr w)) _ (I.hok.fresh (Nat.le_refl _))⟩
  exact ⟨by rw [List.length_append]; exact hz,_,r1.append r2,IsTup.new _ _,_,Heap.get?_push_size _ rfl,rfl⟩
end
end L2
namespace L2
open PySem PySem.Spec PyProof.Rows
noncomputable def ixN (n : Nat) (i : Int) : Option Nat := if 0≤i then (if i < n then some i.toNat else none) else if -(n : Int)≤i then some (i + n).toNat else none
noncomputable def atI {α : Type} (xs : List α) (i : Int) : Option α := (ixN xs.length i).bind fun j => xs[j]?
theorem zht {n : Nat} {i : Int} {j : Nat} (h : ixN n i = some j) : seqIndex? i n = some j∧j < n∧-(n : Int)≤i∧i < n := by
  unfold ixN at h
  by_cases h0 : 0≤i
  · rw [if_pos h0] at h
    by_cases h1 : i < n
    · rw [if_pos h1] at h
      have e : i.toNat = j := Option.some.inj h
      exact ⟨by rw [seqIndex_of h0 h1,e],by omega,by omega,h1⟩
    · rw [if_neg h1] at h; cases h
  · rw [if_neg h0] at h
    by_cases h1 : -(n : Int)≤i
    · rw [if_pos h1] at h
      have e : (i + n).toNat = j := Option.some.inj h
      exact ⟨by rw [seqIndex_neg (by omega) h1,e],by omega,h1,by omega⟩
    · rw [if_neg h1] at h; cases h
theorem zdR {α : Type} {xs : List α} {i : Int} {v : α} (h : atI xs i = some v) : ∃ j,seqIndex? i xs.length = some j∧xs[j]? = some v∧j < xs.length∧-(xs.length : Int)≤i∧i < xs.length := by
  unfold atI at h
  cases e : ixN xs.length i with
  | none => rw [e] at h; cases h
  | some j =>
    rw [e] at h
    obtain ⟨h1,h2,h3,h4⟩ := zht e
    exact ⟨j,h1,h,h2,h3,h4⟩
noncomputable def zfw (b : Expr) : Prop := ∀ o i,subscripted b false o i = operate [o,i] (getItem o i)
noncomputable def IxR (X : Cx) (r : R2) : Prop :=
  ∀ (value slice : Expr) (pins : List (Addr × Obj)) (s : Shared) (σ : St) (H : Hp) (x y : V) (v u : Value) (Q : VK),Inv X pins σ H s→RelV x v→RelV y u→r x y H Q →
    subscripted slice false v u = operate [v,u] (getItem v u)→wpAny (model X.prog X.w) X.A (subscriptTail value slice v u) (EP X pins σ Q) X.xe s
section
variable {X : Cx} {a b : Expr} {ta tb : TE} {pos : Pos}
theorem IxR.or {r r' : R2} (h : IxR X r) (h' : IxR X r') : IxR X (fun x y H Q => r x y H Q∨r' x y H Q) := by
  intro value slice pins s σ H x y v u Q I rx ry q hs
  rcases q with q | q
  · exact h value slice pins s σ H x y v u Q I rx ry q hs
  · exact h' value slice pins s σ H x y v u Q I rx ry q hs
theorem zjF {r : R2} (hr : IxR X r) (ha : PE X a ta) (hb : PE X b tb) (hs : zfw b) : PE X (.Subscript a b pos) (tOp r ta tb) := by
  intro pins s σ H Q I h
  exact Subscript_ (binT ha hb I h fun v u s2 x y H2 I2 rx ry q => hr a b pins s2 σ H2 x y v u Q I2 rx ry q (hs _ _))
noncomputable def rIxL (K : PySem.W.Frag) : R2 := fun x y H Q => ∃ p xs i v,x = .ref p∧y = .int i∧SqL K H p xs∧atI xs i = some v∧Q v H
noncomputable def rIxT (K : PySem.W.Frag) : R2 := fun x y H Q => ∃ p xs i v,x = .ref p∧y = .int i∧SqT K H p xs∧atI xs i = some v∧Q v H
noncomputable def rIxS : R2 := fun x y H Q => ∃ z i c,x = .str z∧y = .int i∧z.length≤sizeLine∧atI z.cps.toList i = some c∧Q (.str ⟨#[c]⟩) H
theorem zhs : IxR X (rIxL X.K) := by
  intro value slice pins s σ H x y v u Q I rx ry h hs
  obtain ⟨p,xs,i,z,rfl,rfl,hq,he,q⟩ := h
  cases rx
  obtain ⟨t,rfl⟩ := ry
  obtain ⟨its,r,pl,hz⟩ := I.list hq
  obtain ⟨j,h1,h2,h3,h4,h5⟩ := zdR he
  obtain ⟨w,ew,rw'⟩ := r.get h2
  have hl := r.length
  have hn := zdp
  have fin : EP X pins σ Q w s := ⟨z,H,I,rw',q⟩
  by_cases h0 : 0≤i
  · have hj : i.toNat = j := by
      rw [seqIndex_of h0 h5] at h1
      exact Option.some.inj h1
    exact item_listR pl.isList h0 (by omega) (by rw [hj]; simpa using ew) fin hs
  · have hj : (i + (its.toArray.size : Int)).toNat = j := by
      rw [seqIndex_neg (by omega) h4] at h1
      rw [List.size_toArray,← hl]
      exact Option.some.inj h1
    exact subscriptTail_builtinR (x := w) pl.isList.typeIs slot_list_getitem.lookup
      (wpAny_getItem_list_neg (Q := fun r s' => r = w∧EP X pins σ Q r s') pl.isList (by omega) (by rw [List.size_toArray] <;> omega) (by omega) (by rw [hj]; simpa using ew) ⟨rfl,fin⟩) hs
theorem ziR : IxR X (rIxT X.K) := by
  intro value slice pins s σ H x y v u Q I rx ry h hs
  obtain ⟨p,xs,i,z,rfl,rfl,hq,he,q⟩ := h
  cases rx
  obtain ⟨t,rfl⟩ := ry
  obtain ⟨its,r,pl,hz⟩ := I.tuple hq
  obtain ⟨j,h1,h2,h3,h4,h5⟩ := zdR he
  obtain ⟨w,ew,rw'⟩ := r.get h2
  have hl := r.length
  have hn := zdp
  have fin : EP X pins σ Q w s := ⟨z,H,I,rw',q⟩
  exact subscriptTail_builtinR (x := w) pl.typeIs slot_tuple_getitem.lookup
    (getItem_tuple (j := j) (Q := fun r s' => r = w∧EP X pins σ Q r s') pl (by omega) (by omega) (by rw [List.size_toArray,← hl]; exact h1) (by simpa using ew) ⟨rfl,fin⟩) hs
theorem ziS : IxR X rIxS := by
  intro value slice pins s σ H x y v u Q I rx ry h hs
  obtain ⟨z,i,c,rfl,rfl,hz,he,q⟩ := h
  obtain ⟨t,rfl⟩ := rx
  obtain ⟨t',rfl⟩ := ry
  obtain ⟨j,h1,h2,h3,h4,h5⟩ := zdR he
  have hl : z.cps.toList.length = z.length := by simp [Str.length]
  rw [hl] at h1 h4 h5
  have hn := zdp
  exact tail_any (typeIs_str s z t) slot_str_getitem.lookup (getItem_str (c := c) (by
    have e1 : decide (i < -(2 ^ 63 : Int)) = false := decide_eq_false (by omega)
    have e2 : decide (i ≥ 2 ^ 63) = false := decide_eq_false (by omega)
    rw [e1,e2,Bool.or_false]) (by rw [h1]; simpa using h2) ⟨.str ⟨#[c]⟩,H,I.tok _,⟨_,rfl⟩,q⟩) hs
noncomputable def rIx (K : PySem.W.Frag) : R2 := fun x y H Q => rIxL K x y H Q∨rIxT K x y H Q∨rIxS x y H Q
theorem ziT : IxR X (rIx X.K) := zhs.or (ziR.or ziS)
theorem Inv.lst {pins : List (Addr × Obj)} {σ : St} {H : Hp} {s : Shared} {p : Addr} {xs : List V} (I : Inv X pins σ H s) (h : H p = some (.lst xs)) :
    ∃ (its : List Value) (n : Nat),Vals xs its∧s.heap.get? p = some { cls := .type "list",data := .seq its.toArray n }∧xs.length≤sizeLine := by
  obtain ⟨z,its,n,r,e⟩ := I.hok p _ h
  exact ⟨its,n,r,e,z⟩
noncomputable def zjU : V→Bool
  | .non => true
  | .bl _ => true
  | .int _ => true
  | .str _ => true
  | _ => false
noncomputable def eqV : V→V→Bool
  | .non,.non => true
  | .bl a,.bl b => a == b
  | .bl a,.int b => (if a then 1 else 0) == b
  | .int a,.bl b => a == (if b then 1 else 0)
  | .int a,.int b => a == b
  | .str a,.str b => a == b
  | _,_ => false
theorem zcp.or {f : Value} {r r' : List V→Hp→VK→Prop} (h : zcp X f r) (h' : zcp X f r') : zcp X f (fun xs H Q => r xs H Q∨r' xs H Q) := by
  intro pins s σ H xs us Q I rs q
  rcases q with q | q
  · exact h pins s σ H xs us Q I rs q
  · exact h' pins s σ H xs us Q I rs q
variable {o e : Expr} {es : List Expr} {to : TE} {t : TA} {name : Str} {apos cpos : Pos} {T id : String} {r : V → List V → Hp → VK → Prop}
end
end L2
namespace L2
open PySem PySem.Spec PyProof.Rows
noncomputable def MtM (X : Cx) (id : String) (r : V→List V→Hp→VK→Prop) : Prop :=
  ∀ (pins : List (Addr × Obj)) (s : Shared) (σ : St) (H : Hp) (x : V) (xs : List V) (v : Value) (us : List Value) (Q : VK),Inv X pins σ H s→RelV x v→Vals xs us→r x xs H Q →
    wpAny (model X.prog X.w) X.A (call (.builtin id) (v::us)) (EP X pins σ Q) X.xe s
theorem Vals.one {x : V} {us : List Value} (h : Vals [x] us) : ∃ u,us = [u]∧RelV x u := by
  cases h with
  | cons r t => cases t; exact ⟨_,rfl,r⟩
theorem Vals.zero : ∀ {us : List Value},Vals [] us→us = []
  | _,.nil => rfl
section
variable {X : Cx} {pins : List (Addr × Obj)} {σ : St} {H : Hp} {s : Shared} {l b : Addr} {xs ys zs : List V}
theorem Inv.lset {its its' : List Value} {n : Nat} {f : Array Value→Array Value} {t' : Nat} (I : Inv X pins σ H s) (hH : H l = some (.lst xs))
    (e : s.heap.get? l = some { cls := .type "list",data := .seq its.toArray n }) (hf : f its.toArray = its'.toArray) (hv : Vals ys its') (hz : ys.length≤sizeLine) :
    Inv X pins σ (upd H l (.lst ys)) { s with heap := s.heap.update l (Obj.mapSeq f),toks := t' } := by
  have q := PySem.IsL.update e f
  rw [hf] at q
  refine I.write (x := l) (e := l) (by rw [hH]; exact trivial) (.inl rfl) (fun b' u hb hu => (Heap.get?_update_other s.heap (Obj.mapSeq f) (Ne.symm hb)).trans hu) ⟨_,q⟩ ?_
  exact ⟨hz,its',_,hv,q⟩
theorem Inv.lnew {its : List Value} {t' : Nat} (I : Inv X pins σ H s) (hv : Vals ys its) (hz : ys.length≤sizeLine) :
    Inv X pins σ (upd H s.heap.objs.size (.lst ys)) { s with heap := s.heap.push { cls := .type "list",data := .seq its.toArray },toks := t' } :=
  I.laid (fun _ _ q => Heap.get?_push_of_some _ q) (Nat.le_refl _) ⟨hz,its,0,hv,Heap.get?_push_size _ rfl⟩
theorem Inv.fresh (I : Inv X pins σ H s) : H s.heap.objs.size = none := I.hok.fresh (Nat.le_refl _)
theorem Inv.lstM (I : Inv X pins σ H s) (hH : H l = some (.lst xs)) : xs.length≤sizeLine∧∃ (its : List Value) (n : Nat),Vals xs its∧xs.length = its.length∧s.heap.get? l = some { cls := .type "list",data := .seq its.toArray n } := by
  obtain ⟨z,its,n,r,e⟩ := I.hok l _ hH
  exact ⟨z,its,n,r,r.length,e⟩
end
section
variable {X : Cx}
noncomputable def zg4 : V→List V→Hp→VK→Prop := fun x vs H Q => ∃ l xs y,x = .ref l∧vs = [y]∧H l = some (.lst xs)∧xs.length < sizeLine∧Q .non (upd H l (.lst (xs++[y])))
theorem zeV : MtM X "list.append" zg4 := by
  intro pins s σ H x vs v us Q I rx rv h
  obtain ⟨l,xs,y,rfl,rfl,hH,hz,q⟩ := h
  cases rx
  obtain ⟨u,rfl,ru⟩ := rv.one
  obtain ⟨z,its,n,r,hl,e⟩ := I.lstM hH
  refine call_meets F.slot_list_append ⟨_,e,rfl⟩ F.entry_list_append (F.args_list_append_2 _ _) (PySem.list_append l its.toArray n u (by rw [List.size_toArray]; omega)) ⟨e,?_⟩
  refine ⟨.non,_,I.lset (its' := its++[u]) hH e (by simp) (r.append (.cons ru .nil)) ?_,rfl,q⟩
  rw [List.length_append,List.length_singleton]
  omega
end
section
variable {prog : Program} {w : World} {A : Around} {E : Value → Shared → Prop} {s : Shared}
end
section
variable {X : Cx}
end
end L2
namespace L2
open PySem PySem.Spec PyProof.Rows
section
variable {κ : Type} [DecidableEq κ]
noncomputable def valV (kvs : List (κ × V)) (k : κ) : Option V := (kvs.find? fun kv => decide (kv.1 = k)).map (·.2)
noncomputable def putK (kvs : List (κ × V)) (k : κ) (v : V) : List (κ × V) :=
  if (kvs.any fun kv => decide (kv.1 = k)) = true then kvs.map (fun kv => if kv.1 = k then (kv.1,v) else kv) else kvs++[(k,v)]
theorem zcZ {p : κ × V} {r : List (κ × V)} {k : κ} (e : p.1 = k) : valV (p::r) k = some p.2 := by simp [valV,List.find?_cons,e]
theorem zc0 {p : κ × V} {r : List (κ × V)} {k : κ} (e : ¬ p.1 = k) : valV (p::r) k = valV r k := by simp [valV,List.find?_cons,e]
theorem RelO.getD {o : Option V} {u : Option Value} {d : V} {d' : Value} (r : RelO o u) (rd : RelV d d') : RelV (o.getD d) (u.getD d') := by
  cases o with
  | none => cases u with
    | none => exact rd
    | some _ => exact (show False from r).elim
  | some _ => cases u with
    | none => exact (show False from r).elim
    | some _ => exact r
theorem KV.val {kvs : List (κ × V)} {vs : List (κ × Value)} (r : KV kvs vs) (k : κ) : RelO (valV kvs k) (valueAt vs k) := by
  unfold KV at r
  induction r with
  | nil => exact True.intro
  | @cons p q ps qs h t ih =>
    obtain ⟨h1,h2⟩ := h
    by_cases e : p.1 = k
    · have e' : q.1 = k := h1.symm.trans e
      have b : valueAt (q::qs) k = some q.2 := by simp [valueAt,List.find?_cons,e']
      rw [zcZ e,b]; exact h2
    · have e' : ¬ q.1 = k := fun z => e (h1.trans z)
      have b : valueAt (q::qs) k = valueAt qs k := by simp [valueAt,List.find?_cons,e']
      rw [zc0 e,b]; exact ih
theorem KV.any {kvs : List (κ × V)} {vs : List (κ × Value)} (r : KV kvs vs) (k : κ) : (kvs.any fun kv => decide (kv.1 = k)) = vs.any fun kv => decide (kv.1 = k) := by
  unfold KV at r
  induction r with
  | nil => rfl
  | cons h t ih => rw [List.any_cons,List.any_cons,ih,h.1]
theorem KV.length {kvs : List (κ × V)} {vs : List (κ × Value)} (r : KV kvs vs) : kvs.length = vs.length := Paired.length r
end
theorem ziQ {P : Program} {w : World} {k : Key} {u : Value} (r : RelV (kV k) u) : (zbk P w).is k u = true := by
  cases k with
  | inl i => obtain ⟨t,e⟩ := (show ∃ t,u = Value.int i t from r); subst e; exact zdJ P w i t
  | inr x => obtain ⟨t,e⟩ := (show ∃ t,u = Value.str x t from r); subst e; exact zdI P w x t
theorem zdr {P : Program} {w : World} : ∀ {ks : List Key} {us : List Value},Vals (ks.map kV) us→ItemsAre (zbk P w) ks us
  | [],_,r => by rw [List.map_nil] at r; cases r; exact .nil
  | k::ks,_,r => by
    rw [List.map_cons] at r
    cases r with
    | cons h t => exact .cons (ziQ h) (zdr t)
noncomputable abbrev KT (H : Hp) : List (List Key × V)→List (List Key × Addr × Value)→Prop := Paired fun p q => p.1 = q.1∧H q.2.1 = some (.tup (p.1.map kV))∧RelV p.2 q.2.2
theorem KT.val {H : Hp} {kvs : List (List Key × V)} {xs : List (List Key × Addr × Value)} (r : KT H kvs xs) (k : List Key) : RelO (valV kvs k) ((atKey xs k).map (·.2)) := by
  induction r with
  | nil => exact True.intro
  | @cons p q ps qs h t ih =>
    obtain ⟨h1,_,h2⟩ := h
    by_cases e : p.1 = k
    · have e' : q.1 = k := h1.symm.trans e
      have b : atKey (q::qs) k = some q.2 := by simp [atKey,List.find?_cons,e']
      rw [zcZ e,b]; exact h2
    · have e' : ¬ q.1 = k := fun z => e (h1.trans z)
      have b : atKey (q::qs) k = atKey qs k := by simp [atKey,List.find?_cons,e']
      rw [zc0 e,b]; exact ih
theorem KT.keeps {H H' : Hp} {kvs : List (List Key × V)} {xs : List (List Key × Addr × Value)} (r : KT H kvs xs) (ht : ∀ b ys,H b = some (.tup ys)→H' b = some (.tup ys)) : KT H' kvs xs :=
  Paired.mapP r fun _ _ z => ⟨z.1,ht _ _ z.2.1,z.2.2⟩
section
variable {P : Program} {w : World} {H : Hp} {h : Heap} {a : Addr}
theorem zic {u : HO} (ok : HOk P w H h) (e : Rd H a u) : zbo P w H h a u := e.ok ok
theorem zhB {kvs : List (Key × V)} (ok : HOk P w H h) (e : Rd H a (.dK kvs)) : kvs.length≤sizeLine∧(a == sysModules) = false∧∃ vs,KV kvs vs∧h.DictOf (zbk P w) a vs :=
  show zbo P w H h a (.dK kvs) from zic ok e
theorem zgK {ks : List Key} (ok : HOk P w H h) (e : H a = some (.tup (ks.map kV))) : (tupleKind (zbk P w)).is h ks a := by
  obtain ⟨_,its,r,⟨o,h1,h2,n,h3⟩,_⟩ := (show zbo P w H h a (.tup (ks.map kV)) from ok a _ e)
  exact ⟨o,its.toArray,n,h1,h2,h3,by simpa using zdr r⟩
theorem zi9 {kvs : List (List Key × V)} (ok : HOk P w H h) (e : Rd H a (.dT kvs)) : kvs.length≤sizeLine∧(a == sysModules) = false ∧
    ∃ xs,KT H kvs xs∧h.DictOfH (tupleKind (zbk P w)) a xs := by
  obtain ⟨z,y,xs,r,o,es,ep,h1,h2,h3,h4,h5⟩ := (show zbo P w H h a (.dT kvs) from zic ok e)
  refine ⟨z,y,xs,r,o,es,ep,h1,h2,h3,h4,fun x hx => ?_,h5⟩
  have all : ∀ {l : List (List Key × V)} {m : List (List Key × Addr × Value)},KT H l m→∀ x∈m,(tupleKind (zbk P w)).is h x.1 x.2.1 := by
    intro l m q
    induction q with
    | nil => intro x hx; exact nomatch hx
    | @cons p q ps qs hq t ih =>
      intro x hx
      rcases List.mem_cons.mp hx with e | hx
      · subst e
        exact zgK ok (by rw [← hq.1]; exact hq.2.1)
      · exact ih x hx
  exact all r x hx
end
noncomputable def DGet (H : Hp) (a : Addr) (y : V) (r : Option V) : Prop :=
  (∃ kvs k,Rd H a (.dK kvs)∧y = kV k∧r = valV kvs k)∨∃ kvs k b,Rd H a (.dT kvs)∧y = .ref b∧H b = some (.tup (k.map kV))∧r = valV kvs k
noncomputable def DPut (H : Hp) (a : Addr) (y v : V) (H' : Hp) : Prop :=
  (∃ kvs k,H a = some (.dK kvs)∧y = kV k∧kvs.length < sizeLine∧H' = upd H a (.dK (putK kvs k v))) ∨
  ∃ kvs k b,H a = some (.dT kvs)∧y = .ref b∧H b = some (.tup (k.map kV))∧kvs.length < sizeLine∧H' = upd H a (.dT (putK kvs k v))
theorem DGet.k {H : Hp} {a : Addr} {kvs : List (Key × V)} {k : Key} (e : H a = some (.dK kvs)) : DGet H a (kV k) (valV kvs k) := .inl ⟨kvs,k,.inl e,rfl,rfl⟩
theorem DGet.t {H : Hp} {a b : Addr} {kvs : List (List Key × V)} {k : List Key} (e : H a = some (.dT kvs)) (eb : H b = some (.tup (k.map kV))) : DGet H a (.ref b) (valV kvs k) := .inr ⟨kvs,k,b,.inl e,rfl,eb,rfl⟩
theorem DPut.k {H : Hp} {a : Addr} {kvs : List (Key × V)} {k : Key} {v : V} (e : H a = some (.dK kvs)) (hl : kvs.length < sizeLine) : DPut H a (kV k) v (upd H a (.dK (putK kvs k v))) := .inl ⟨kvs,k,e,rfl,hl,rfl⟩
theorem DPut.t {H : Hp} {a b : Addr} {kvs : List (List Key × V)} {k : List Key} {v : V} (e : H a = some (.dT kvs)) (eb : H b = some (.tup (k.map kV))) (hl : kvs.length < sizeLine) :
    DPut H a (.ref b) v (upd H a (.dT (putK kvs k v))) := .inr ⟨kvs,k,b,e,rfl,eb,hl,rfl⟩
section
variable {X : Cx} {pins : List (Addr × Obj)} {σ : St} {H : Hp} {s : Shared} {a : Addr} {y v : V} {u r : Value} {o : Option V} {A : Around} {E : Value → Shared → Prop}
theorem zfl {Q : Value→Shared→Prop} (hu : A.units + 1 < cLine) (I : Inv X pins σ H s) (g : DGet H a y (some v)) (ry : RelV y u) (h : ∀ w' s',Inv X pins σ H s'→RelV v w'→Q w' s') :
    wpAny (model X.prog X.w) A (getItem (.ref a) u) Q E s := by
  rcases g with ⟨kvs,k,e,ey,l⟩ | ⟨kvs,k,b,e,ey,eb,l⟩
  · subst ey
    obtain ⟨z,hd,vs,rel,dd⟩ := zhB I.hok e
    obtain ⟨w',hw,rw'⟩ := RelO.some_of (v := v) (o := valueAt vs k) (by rw [l]; exact rel.val k)
    exact wpAny_getItem_of (ziQ ry) dd.mapOf hw (h w' _ (I.tok _) rw')
  · subst ey
    cases (show u = Value.ref b from ry)
    obtain ⟨z,hd,xs,rel,dd⟩ := zi9 I.hok e
    obtain ⟨w',hw,rw'⟩ := RelO.some_of (v := v) (o := (atKey xs k).map (·.2)) (by rw [l]; exact rel.val k)
    obtain ⟨p,hp,hp2⟩ := Option.map_eq_some_iff.mp hw
    refine wpAny_getItem_heap (tupleKind_room_in1 hu) (zgK I.hok eb) dd hp ?_
    rw [hp2]
    exact h w' _ (I.tok _) rw'
end
section
variable {X : Cx} {pins : List (Addr × Obj)} {σ : St} {H : Hp} {s : Shared} {a : Addr} {kvs : List (Key × V)} {k : Key} {u : Value} {A : Around} {E : Value → Shared → Prop}
theorem zjX {Q : Value→Shared→Prop} (I : Inv X pins σ H s) (e : Rd H a (.dK kvs)) (h : ∀ t s',Inv X pins σ H s'→Q (.int kvs.length t) s') : wpAny (model X.prog X.w) A (call (.builtin "len") [.ref a]) Q E s := by
  obtain ⟨z,hd,vs,rel,dd⟩ := zhB I.hok e
  refine call_len_dict hd dd (by rw [← rel.length]; rw [sizeLine_eq] at z; omega) ?_
  rw [← rel.length]
  exact h _ _ (I.tok _)
end
theorem zdO {X : Cx} {pins : List (Addr × Obj)} {σ : St} {H : Hp} {s : Shared} {a : Addr} {y : V} {o : Option V} (I : Inv X pins σ H s) (g : DGet H a y o) : s.TypeIs (.ref a) "dict" := by
  rcases g with ⟨kvs,k,e,_,_⟩ | ⟨kvs,k,b,e,_,_,_⟩
  · obtain ⟨_,_,vs,_,dd⟩ := zhB I.hok e
    exact dd.typeIs
  · obtain ⟨_,_,xs,_,dd⟩ := zi9 I.hok e
    exact dd.typeIs
section
variable {X : Cx} {o i e value : Expr} {pos pos' tpos : Pos} {td ty tv : TE}
end
section
variable {X : Cx} {pos : Pos}
end
structure M1 (X : Cx) (o : Expr) (m : Str) (apos : Pos) (e : Expr) (cpos : Pos) : Prop where
  base : attributeBase o m X.env (eval o X.env) = eval o X.env
  few : ((backTo cpos (starEach [e] X.env)).all (fun x => ! x.1) && (backToKw cpos (keywordEach [] X.env)).all (fun x => x.1.isSome)
    && decide (([e] : List Expr).length + ([] : List Keyword).length + (if ([] : List Keyword).isEmpty then 0 else 1) < 30)) = true
  line : (apos.endLine == cpos.line) = true
  trees : backTo cpos (starEach [e] X.env) = [(false,eval e X.env)]
structure M2 (X : Cx) (o : Expr) (m : Str) (apos : Pos) (e f : Expr) (cpos : Pos) : Prop where
  base : attributeBase o m X.env (eval o X.env) = eval o X.env
  few : ((backTo cpos (starEach [e,f] X.env)).all (fun x => ! x.1) && (backToKw cpos (keywordEach [] X.env)).all (fun x => x.1.isSome)
    && decide (([e,f] : List Expr).length + ([] : List Keyword).length + (if ([] : List Keyword).isEmpty then 0 else 1) < 30)) = true
  line : (apos.endLine == cpos.line) = true
  trees : backTo cpos (starEach [e,f] X.env) = [(false,eval e X.env),(false,eval f X.env)]
section
variable {X : Cx} {pins : List (Addr × Obj)} {σ : St} {H : Hp} {s : Shared} {a : Addr} {y d : V} {u r : Value} {o : Option V} {A : Around} {E : Value → Shared → Prop}
end
section
variable {X : Cx} {o e f : Expr} {apos cpos : Pos} {td ty tx : TE}
end
section
variable {X : Cx} {pins : List (Addr × Obj)} {σ : St} {H : Hp} {s : Shared} {a : Addr} {kvs : List (Key × V)} {A : Around} {E : Value → Shared → Prop}
end
section
variable {X : Cx} {pins : List (Addr × Obj)} {σ : St} {H : Hp} {s : Shared} {a : Addr} {y : V} {u : Value} {A : Around} {E : Value → Shared → Prop}
end
end L2
namespace Att
open PySem PySem.W PySem.Calls PyProof.Rows
theorem zcD {P : Params} {h : Heap} : ∀ (ns : List Int) (vs : List Value),WellAll P h vs (ns.map WData.int)→IntsAre vs ns := by
  intro ns
  induction ns with
  | nil =>
    intro vs w
    rw [List.map_nil] at w
    cases w
    exact .nil
  | cons n ns ih =>
    intro vs w
    rw [List.map_cons] at w
    cases w with
    | cons a b =>
      cases a
      exact .cons _ _ (ih _ b)
theorem zeF {l : OpenLaw} {n : Nat} (hn : l.most = some n) {P : Params} {h : Heap} {args : List WData} {vals : List Value}
    (hpre : l.row.toRowW.claim.pre args = true) (hwl : WellAll P h vals args) :
    ∃ a vs ns,vals = [Value.ref a]∧args = [WData.list (ns.map WData.int)]∧h.get? a = some { cls := .type "list",data := .seq vs.toArray }∧IntsAre vs ns∧ns.length≤n := by
  have hsh : WShape.hasAll [] args [.list .int] = true := (pre_splitW hpre).1
  have hc : l.pre.holds [] { args := args } = true := (pre_splitW hpre).2
  obtain ⟨d,r,rfl,h1,h2⟩ := hasAllW_cons hsh
  obtain rfl := hasAllW_nil h2
  obtain ⟨xs,rfl,h3⟩ := hasW_list h1
  obtain ⟨ns,rfl⟩ := items_int h3
  have hlen : ns.length≤n := by
    unfold OpenLaw.pre at hc
    have h4 : (WTm.not (.lt (.lit (.int (n : Int))) (.len (.arg 0)))).holds [] { args := [.list (ns.map .int)] } = true := by
      have h4 := (holds_andW hc).1
      rw [hn] at h4
      exact h4
    have h5 := condW_of h4 (w_not (w_lt w_lit (w_len_list (w_arg rfl))))
    rw [List.length_map] at h5
    refine Nat.le_of_not_lt fun q => ?_
    have q' : (n : Int) < ((ns.length : Nat) : Int) := by omega
    first
      | (rw [decide_eq_true q'] at h5; exact absurd h5 (by decide))
      | (simp at h5; omega)
  cases hwl with
  | cons w1 w2 =>
    cases w2
    cases w1 with
    | list ho hall => exact ⟨_,_,ns,rfl,rfl,ho,zcD ns _ hall,hlen⟩
theorem zeM (l : OpenLaw) (args : List WData) : l.row.toRowW.claim.post args (.bool true) args = true :=
  postW_of (r := l.row.toRowW) (X := (true == true))
    (show WShape.has [] (.bool true) .bool = true by first | rfl | decide | simp [WShape.has,WShape.arms,WShape.armsAll])
    (show (WTm.eq .res (.lit (.bool true))).value [] { args := args,res := some (.bool true),after := args } = some (.bool (true == true)) from w_eq_bool (w_res rfl) w_lit) rfl
theorem attach_call {l : OpenLaw} {n : Nat} {q : Program} {loose : List Str} {XP : (Str→Option Value)→Heap→Prop} {YP : World→Heap→Prop} {d : DefRec}
    (hn : l.most = some n) (hdf : d.params.defaults = [])
    (call : ∀ (w : World) (s₀ s₁ : Shared) (mg mb : Str→Option Value) (fa : Addr) (o : Obj) (pm cd doc : Value) (a : Addr) (vs : List Value) (ns : List Int),
      Ground q loose [] XP w s₀ mg mb s₁.heap→YP w s₁.heap →
      s₁.heap.get? fa = some o→o.data = .func (docDef d.name d.params d.body d.scope pm cd doc)→s₁.heap.CodeRec cd d.name→mg d.name = some (.ref fa) →
      s₁.heap.get? a = some { cls := .type "list",data := .seq vs.toArray }→IntsAre vs ns→ns.length≤n→s₁.gens = #[] →
      codeAny (model l.prog w) callerA (.call (.ref fa) ⟨[.ref a],[]⟩) (fun r s' => r = .ok (.ret (.bool true))∧OldK s₁.heap s'.heap∧s'.os = s₁.os∧AllBare s'.gens) s₁) :
    WalkO q loose XP YP l.row.toRowW d [] (fun f vs => PySem.call f vs) := by
  intro w s₀ s₁ mg mb G Y fa o pm cd doc dV kV ho hd hcd hD hmg hg args vals as hpre hlay hrd hwl hlo
  obtain rfl : dV = .none := Dflts.none hD hdf
  obtain rfl : kV = .none := Dflts.noKw hD
  obtain ⟨a,vs,ns,rfl,rfl,hobj,hints,hlen⟩ := zeF hn hpre hwl
  refine enter_call (codeAny_mono (call w s₀ s₁ mg mb fa o pm cd doc a vs ns G Y ho (fd_plain hd) hcd hmg hobj hints hlen hg) fun r s' hq => ?_)
  obtain ⟨rfl,h2,h3,h4⟩ := hq
  exact ⟨.inl ⟨.bool true,.bool true,[],rfl,fun _ => rfl,.bool true,zeM l _,fun _ => ⟨List.Pairwise.nil,fun _ hm => (nomatch hm)⟩⟩,h2,h3,h4⟩
section
variable {prog : Program} {w : World} {A : Around} {E : Value → Shared → Prop} {s : Shared} {K : Frag}
end
end Att
namespace L2
open PySem PySem.Spec PyProof.Rows
theorem zdh : ∀ {vs : List Value} {ns : List Int},IntsAre vs ns→Vals (ns.map V.int) vs
  | _,_,.nil => .nil
  | _,_,.cons n t h => .cons ⟨t,rfl⟩ (zdh h)
noncomputable def Only (H : Hp) : Prop := ∀ b,H b = none∨∃ o xs,H b = some (.frz o (.lst xs))
theorem zf6 {P : Program} {w : World} {K : PySem.W.Frag} {mg mb : Str→Option Value} {CX : CXT} {k : Nat} {fa a : Addr} {fd : FuncData} {x : Str} {sp : Sp} {s₁ : Shared} {vs : List Value} {ns : List Int}
    (KX : K.In s₁.heap) (hns : s₁.heap.Ns mainGlobals mg) (hb : s₁.heap.Ns builtinsNs mb) (hbb : ∀ x : Str,x≠"__name__"→mb x = bootBuiltins x) (hlim : s₁.heap.NoLimit) (hg : s₁.gens = #[])
    (ha : s₁.heap.get? a = some { cls := .type "list",data := .seq vs.toArray }) (hi : IntsAre vs ns) (hl : ns.length≤sizeLine) (hr : Room k callerA)
    (F : ∀ base : Heap,K.In base→base.Ns mainGlobals mg→FnOk P w K mg base CX k fa fd [x] sp) (hbind : ∀ (s : Shared) (u : Value),BindsTo s fd ⟨[u],[]⟩ [(x,u)])
    (hsp : ∀ H : Hp,Only H→SqL K H a (ns.map V.int)→sp [.ref a] H (fun v _ => v = .bl true) fun _ _ _ => False)
    (hCX : ∀ H e s',CX [] H s₁ (fun _ _ _ => False) e s'→False) :
    codeAny (model P w) callerA (.call (.ref fa) ⟨[.ref a],[]⟩) (fun r s' => r = .ok (.ret (.bool true))∧OldK s₁.heap s'.heap∧s'.os = s₁.os∧AllBare s'.gens) s₁ := by
  have rv := zdh hi
  have lenV := hi.length
  have core : ∀ H : Hp,Only H→SqL K H a (ns.map V.int)→HOk P w H s₁.heap→(∀ b,H b≠none→b = a)→(H a≠none→K.lookup a = none) →
      codeAny (model P w) callerA (.call (.ref fa) ⟨[.ref a],[]⟩) (fun r s' => r = .ok (.ret (.bool true))∧OldK s₁.heap s'.heap∧s'.os = s₁.os∧AllBare s'.gens) s₁ := by
    intro H hO hS hok hA hK
    have base_of : ∀ {b : Addr} {o : Obj},s₁.heap.get? b = some o→H b = none→(hidT s₁.heap H).get? b = some o := fun e n => zf8 e n
    have noA : ∀ {b : Addr} {o : Obj} {es : Array DictEntry} {ep : Nat},s₁.heap.get? b = some o→o.data = .dict es ep→H b = none := fun {b o es ep} e d => by
      cases q : H b with
      | none => rfl
      | some u =>
        have e' : b = a := hA b (by rw [q]; simp)
        subst e'
        rw [ha] at e; cases e
        have d' : Data.seq vs.toArray _ = Data.dict es ep := d
        cases d'
    have nsK : ∀ {b : Addr} {m : Str→Option Value},s₁.heap.Ns b m→(hidT s₁.heap H).Ns b m := fun {b m} ⟨o,es,ep,e,d,r⟩ => ⟨o,es,ep,base_of e (noA e d),d,r⟩
    have hKb : K.In (hidT s₁.heap H) := fun b o e => base_of (KX b o e) (by
      cases q : H b with
      | none => rfl
      | some u =>
        have e' : b = a := hA b (by rw [q]; simp)
        subst e'
        rw [hK (by rw [q]; simp)] at e; cases e)
    have hM : Mod K mg (hidT s₁.heap H) := ⟨hKb,nsK hns,⟨mb,nsK hb,hbb⟩,let ⟨mc,h1,h2⟩ := hlim; ⟨mc,nsK h1,h2⟩⟩
    have e0 : Env0 P w K mg (hidT s₁.heap H) callerA [] s₁ H := ⟨rfl,hM,fun b o e => zhl e,Nat.le_of_eq (ze6 _ _),trivial,fun b hb => absurd (show b∈([] : List Addr) from hb) (by simp),hok,.of_eq hg⟩
    refine codeAny_mono ((F _ hKb (nsK hns)).run callerA [] s₁ H ⟨[.ref a],[]⟩ [.ref a] [.ref a] _ _ hr e0 (hbind s₁ (.ref a)) (.cons rfl .nil) (hsp H hO hS)) fun r s' h => ?_
    cases r with
    | error e => exact (hCX H e s' h).elim
    | ok fl =>
      cases fl with
      | next => exact False.elim h
      | brk => exact False.elim h
      | cont => exact False.elim h
      | ret u =>
        obtain ⟨v,H',os,bare,un,hok',r',q⟩ := h
        have q' : v = .bl true := q
        subst q'
        obtain rfl : u = Value.bool true := r'
        refine ⟨rfl,OldK.of_keep fun b o e => ?_,os,bare⟩
        cases q : H b with
        | none => exact un.keep b o e q (by intro z; exact absurd (show b∈([] : List Addr) from z) (by simp)) (by simp)
        | some u =>
          rcases hO b with z | ⟨ob,xs,z⟩
          · rw [q] at z; cases z
          · have z2 := un.frzs b ob _ z
            obtain ⟨e1,_⟩ := hok b _ z
            obtain ⟨e2,_⟩ := hok' b _ z2
            rw [e] at e1; cases e1
            exact e2
  cases hk : K.lookup a with
  | some o =>
    have e := KX a o hk
    rw [ha] at e
    cases e
    refine core (fun _ => none) (fun _ => .inl rfl) (.inr ⟨_,vs.toArray,_,hk,rfl,rfl,rfl,by rw [List.size_toArray,lenV]; exact hl,by simpa using rv⟩) (fun b u z => by have z' : (none : Option HO) = some u := z; cases z') (fun b z => absurd rfl z) fun z => absurd rfl z
  | none =>
    refine core (fun b => if b = a then some (.frz { cls := .type "list",data := .seq vs.toArray } (.lst (ns.map V.int))) else none) (fun b => ?_) (.inl (.inr ⟨{ cls := .type "list",data := .seq vs.toArray },if_pos rfl⟩)) (fun b u z => ?_) (fun b z => ?_) fun _ => hk
    · by_cases hb : b = a
      · exact .inr ⟨_,_,if_pos hb⟩
      · exact .inl (if_neg hb)
    · by_cases hb : b = a
      · have z' := (if_pos hb).symm.trans z
        cases z'
        subst hb
        exact ⟨ha,by rw [List.length_map]; exact hl,vs,_,rv,ha⟩
      · have z' := (if_neg hb).symm.trans z
        cases z'
    · by_cases hb : b = a
      · exact hb
      · exact absurd (if_neg hb) z
end L2
namespace L2
open PySem PySem.Spec PyProof.Rows
noncomputable abbrev KOf {K : PySem.W.Frag} {h : Heap} (_ : K.In h) : PySem.W.Frag := K
theorem walk_of {l : PySem.W.OpenLaw} {n k : Nat} {q : Program} {loose : List Str} {XP : (Str→Option Value)→Heap→Prop} {YP : World→Heap→Prop} {d : DefRec} {K : Params→PySem.W.Frag} {CX : World→CXT} {sp : World→Sp} {x : Str}
    (hn : l.most = some n) (hn2 : n≤sizeLine) (hdf : d.params.defaults = []) (hr : Room k callerA)
    (hY : ∀ (w : World) (h : Heap),YP w h→(K w.params).In h)
    (F : ∀ (w : World) (mg : Str→Option Value) (fa : Addr) (h : Heap),(K w.params).In h→h.Ns mainGlobals mg→mg d.name = some (.ref fa) →
      ∃ fd : FuncData,(∀ (s : Shared) (u : Value),BindsTo s fd ⟨[u],[]⟩ [(x,u)]) ∧
        ∀ base : Heap,(K w.params).In base→base.Ns mainGlobals mg→FnOk l.prog w (K w.params) mg base (CX w) k fa fd [x] (sp w))
    (hsp : ∀ (w : World) (H : Hp) (a : Addr) (ns : List Int),ns.length≤n→Only H→SqL (K w.params) H a (ns.map V.int)→sp w [.ref a] H (fun v _ => v = .bl true) fun _ _ _ => False)
    (hCX : ∀ (w : World) (H : Hp) (s : Shared) (e : Value) (s' : Shared),CX w [] H s (fun _ _ _ => False) e s'→False) :
    PySem.W.WalkO q loose XP YP l.row.toRowW d [] (fun f vs => PySem.call f vs) := by
  refine Att.attach_call hn hdf fun w s₀ s₁ mg mb fa o pm cd doc a vs ns G Y ho hd hcd hmg hobj hints hlen hg => ?_
  have KX := hY w _ Y
  obtain ⟨fd,hb,hF⟩ := F w mg fa _ KX G.T.g hmg
  exact zf6 KX G.T.g G.T.b G.T.builtins G.T.nolimit hg hobj hints (Nat.le_trans hlen hn2) hr hF hb (fun H hO hS => hsp w H a ns hlen hO hS) fun H e s' => hCX w H s₁ e s'
end L2
namespace L2
open PySem PySem.Spec PyProof.Rows
noncomputable def zbG (s : Stmt) : Arguments := match s with
  | .FunctionDef _ a _ _ _ _ _ _ _ _ => a
  | _ => { posonlyargs := [],args := [],vararg := none,kwonlyargs := [],kw_defaults := [],kwarg := none,defaults := [] }
noncomputable def zaS (s : Stmt) : List Stmt := match s with
  | .FunctionDef _ _ b _ _ _ _ _ _ _ => b
  | _ => []
noncomputable def zac (s : Stmt) : Scope := match s with
  | .FunctionDef _ _ _ _ _ _ sc _ _ _ => sc
  | _ => { kind := .function,names := [],isGenerator := false,isCoroutine := false }
noncomputable abbrev CX0 : CXT := fun _ _ _ _ _ _ => False
noncomputable abbrev E0 : XK := fun _ _ _ => False
theorem zjH {X : Cx} : zfx CX0 X E0 := fun _ _ _ _ _ _ _ h => h.elim
structure Fun (K : PySem.W.Frag) (x qual : Str) (st : Stmt) (f : Addr) (fd : FuncData) : Prop where
  ex : ∃ (oc : Value) (od : Option Addr) (kV doc pm : Value) (an : Option Addr) (cdv ct : Value) (osl : Array (Option Value)),
    fd = PySem.W.fnOf x qual (zbG st) (zaS st) (zac st) .none kV doc pm an cdv ct∧K.lookup f = some ⟨oc,od,.func fd,osl⟩∧PySem.W.codeIn K cdv qual = true
  kp : PySem.W.keepIn K (.ref f) = true
section
variable {P : Program} {w : World} {K : PySem.W.Frag} {mg : Str → Option Value} {base : Heap}
theorem Fun.ok {x qual : Str} {st : Stmt} {f : Addr} {fd : FuncData} {N ps : List Str} {k : Nat} {sp : Sp} (F : Fun K x qual st f fd) (S : FnScope N ps (zac st)) (len : ∀ vs H Q E,sp vs H Q E→vs.length = ps.length)
    (hbody : ∀ (cdv : Value) (A : Around) (outer : List Env) (s : Shared) (H : Hp) (vs : List V) (Q : VK) (E : XK),Room k (A.deeper (envOfC qual (zac st) s.heap.objs.size f cdv))→sp vs H Q E →
      ∃ t,PSs (cxOf CX0 P w K mg base N qual (zac st) f cdv A outer s H E).nox (zaS st) t∧t { nx := fun _ H' => Q .non H',rt := Q } (start N vs) H) : FnOk P w K mg base CX0 (k + 1) f fd ps sp := by
  obtain ⟨oc,od,kV,doc,pm,an,cdv,ct,osl,rfl,lk,hcd⟩ := F.ex
  refine zi4 lk hcd S len fun A outer s H vs Q E hr hsp => ?_
  obtain ⟨t,h,q⟩ := hbody cdv A outer s H vs Q E hr hsp
  exact ⟨t,h.nox,q⟩
theorem Fun.binds {x qual : Str} {st : Stmt} {f : Addr} {fd : FuncData} {ps : List Str} (F : Fun K x qual st f fd)
    (h : ∀ (kV doc pm : Value) (an : Option Addr) (cdv ct : Value) (us : List Value),us.length = ps.length→bindArgs (PySem.W.fnOf x qual (zbG st) (zaS st) (zac st) .none kV doc pm an cdv ct) ⟨us,[]⟩ = pure (ps.zip us)) : zcq K fd ps [] := by
  obtain ⟨oc,od,kV,doc,pm,an,cdv,ct,osl,rfl,lk,hcd⟩ := F.ex
  exact .all (h kV doc pm an cdv ct)
theorem zi2 {x qual : Str} {st : Stmt} {f : Addr} {oc : Value} {od an : Option Addr} {osl : Array (Option Value)} {kV doc pm cdv ct : Value} (l : K.lookup f = some ⟨oc,od,.func (PySem.W.fnOf x qual (zbG st) (zaS st) (zac st) .none kV doc pm an cdv ct),osl⟩)
    (c : PySem.W.codeIn K cdv qual = true) (k : PySem.W.keepIn K (.ref f) = true) : Fun K x qual st f (PySem.W.fnOf x qual (zbG st) (zaS st) (zac st) .none kV doc pm an cdv ct) := ⟨⟨oc,od,kV,doc,pm,an,cdv,ct,osl,rfl,l,c⟩,k⟩
end
theorem zbX {A : Around} {k : Nat} (hr : Room k A) : A.units + 1 < cLine := Nat.lt_of_le_of_lt (Nat.add_le_add_left (by decide : 1≤64) _) hr.units
section
variable {X : Cx}
theorem zfq : zcp X (.builtin "len") (fun xs H Q => ∃ a kvs,xs = [V.ref a]∧Rd H a (.dK kvs)∧Q (.int kvs.length) H) := by
  intro pins s σ H xs us Q I r h
  obtain ⟨a,kvs,rfl,ha,q⟩ := h
  obtain ⟨u,rfl,ru⟩ := zfF r
  cases ru
  exact zjX I ha fun t s' I' => ⟨.int kvs.length,H,I',⟨t,rfl⟩,q⟩
end
noncomputable def Same (H H' : Hp) : Prop := ∀ b o,H b = some o→H' b = some o
theorem Same.refl (H : Hp) : Same H H := fun _ _ h => h
theorem Same.trans {H H1 H2 : Hp} (a : Same H H1) (b : Same H1 H2) : Same H H2 := fun c o h => b c o (a c o h)
theorem Same.free {H H' : Hp} (e : Same H H') {l : Addr} (h : H' l = Option.none) : H l = Option.none := by
  cases q : H l with
  | none => rfl
  | some o =>
    rw [e l o q] at h
    cases h
theorem Same.seq {K : PySem.W.Frag} {H H' : Hp} {a : Addr} {xs : List V} (e : Same H H') (h : SqL K H a xs) : SqL K H' a xs := by
  rcases h with (h | ⟨o,h⟩) | h
  · exact .inl (.inl (e _ _ h))
  · exact .inl (.inr ⟨o,e _ _ h⟩)
  · exact .inr h
section
variable {κ : Type} [DecidableEq κ]
end
end L2
end
section
namespace DL
open PySem
open PySem.SeqAt
open PySem.AutoSeq1 (wpAny_loadPart')
open PySem.MeetsSeq PySem.MeetsSeq2 PySem.MeetsSeq3
end DL
end
section
namespace DL
open PySem PyProof.Rows
section
variable {prog : Program} {w : World} {A : Around} {E : Value → Shared → Prop} {s : Shared}
end
end DL
end
section
namespace DL
open PySem PyProof.Rows PySem.W
noncomputable def zgL {α : Type} (c : Nat→Nat→Bool) : KasT α→α
  | .ret a => a
  | .ask i j k => zgL c (k (c i j))
inductive Asks (n : Nat) {α : Type} (P : α→Prop) : KasT α→Prop where
  | ret {a : α} : P a→Asks n P (.ret a)
  | ask {i j : Nat} {k : Bool→KasT α} : i < n→j < n→(∀ b,Asks n P (k b))→Asks n P (.ask i j k)
theorem Asks.bind {n : Nat} {α β : Type} {P : α→Prop} {P' : β→Prop} {t : KasT α} {f : α→KasT β} (h : Asks n P t) (hf : ∀ a,P a→Asks n P' (f a)) : Asks n P' (t.bind f) := by
  induction h with
  | ret h => exact hf _ h
  | ask h1 h2 _ ih => exact .ask h1 h2 ih
theorem Asks.run {n : Nat} {α : Type} {P : α→Prop} {t : KasT α} (h : Asks n P t) (c : Nat→Nat→Bool) : P (zgL c t) := by
  induction h with
  | ret h => exact h
  | ask _ _ _ ih => exact ih _
theorem Asks.mono {n : Nat} {α : Type} {P P' : α→Prop} {t : KasT α} (h : Asks n P t) (hp : ∀ a,P a→P' a) : Asks n P' t := by
  induction h with
  | ret h => exact .ret (hp _ h)
  | ask h1 h2 _ ih => exact .ask h1 h2 ih
section
variable {n : Nat} (hn : 0 < n)
include hn
end
end DL
end
section
namespace DL
open PySem PyProof.Rows PySem.W PySem.Calls
section
variable {prog : Program} {w : World} {A : Around} {E : Value → Shared → Prop} {s : Shared}
end
end DL
end
section
namespace DL
open PySem PySem.Spec PyProof.Rows L2 PySem.W PySem.Calls
structure Lft (fr : List Addr) (a : Addr) (oe : Obj) (vs : Array Value) (T : Option Addr) (h h' : Heap) : Prop where
  keep : ∀ b o,b∉fr→b≠a→T≠some b→h.get? b = some o→h'.get? b = some o
  slot : ∀ b o,h.get? b = some o→(∀ vs : Array Value,o.data≠Data.fields vs)→∃ sl,h'.get? b = some { cls := o.cls,dict := o.dict,data := o.data,slots := sl }
  obj : ∃ tb ot ts,h.get? tb = none∧tb≠a∧h'.get? a = some { cls := oe.cls,dict := oe.dict,data := .fields (vs.setIfInBounds 1 (.ref tb)),slots := oe.slots }∧h'.get? tb = some ot∧ot.data = .fields ts∧ts[3]? = some Value.none
section
variable {M : Model} {A : Around} {E : Value → Shared → Prop} {s : Shared} {B : Heap} {env : Env} {outer : List Env} {L a : Addr} {oe : Obj} {vs : Array Value} {Q : Unit → Shared → Prop}
theorem zeT {head : Value} {had : Bool} (hf : A.frames = some (env::outer)) (ff : s.heap.FunFrames B (env::outer)) (hL : env.frame = some L) (e0 : s.heap.get? a = some oe) (hd : oe.data = .fields vs) (hs : 1 < vs.size)
    (q : ∀ h',Lft (frs (env::outer)) a oe vs none s.heap h'→Q () { heap := h',gens := s.gens,drawn := s.drawn,toks := s.toks,os := s.os }) :
    wpAny M A (do
      let f ← PySem.frameOf env
      let pl ← entryPlaceOf L had
      let b ← EntryCells.newEntry head f Value.none (rawInt ↑L) Value.none pl
      setField (Value.ref a) 1 b) (fun _ s' => wpAny M A (setFlight (Value.ref a) none) Q E s') E s := by
  have haf : a∉frs (env::outer) := fun z => by
    obtain ⟨_,o,e1,nf⟩ := ff.mem z
    rw [e0] at e1; cases e1
    exact nf vs hd
  refine wpAny_bind (wpAny_frameOf_fun hf ff hL fun h2 so => ?_)
  refine wpAny_bind (wpAny_entryPlaceOf fun pl hpl => ?_)
  obtain ⟨so1,so2,so3⟩ := so
  have e2 : h2.get? a = some oe := (so2 a haf).trans e0
  have key : ∀ fs : List Value,fs.length≤100→fs[3]? = some (rawInt ↑L)→wpAny M A ((do
      let b ← newFields "traceback" fs
      setField (Value.ref a) 1 b)) (fun _ s' => wpAny M A (setFlight (Value.ref a) none) Q E s') E { heap := h2,gens := s.gens,drawn := s.drawn,toks := s.toks,os := s.os } := fun fs hlen h3 => by
    refine wpAny_bind ?_
    unfold newFields
    have hsz : sizeOk (Data.fields fs.toArray) := by
      show fs.toArray.size≤_
      have : fs.toArray.size≤100 := by simpa using hlen
      exact Nat.le_trans this (by decide)
    refine wpAny_newObj_type (T := "traceback") (data := .fields fs.toArray) (dict := none) ?_ hsz
    have hat : a < h2.objs.size := Heap.lt_size e2
    have htb : h2.get? h2.objs.size = none := by
      cases z : h2.get? h2.objs.size with
      | none => rfl
      | some o => exact absurd (Heap.lt_size z) (Nat.lt_irrefl _)
    have hne : h2.objs.size≠a := fun z => by rw [z] at hat; exact absurd hat (Nat.lt_irrefl _)
    generalize htbn : h2.objs.size = tb at *
    have e3 : (h2.push { cls := .type "traceback",dict := none,data := .fields fs.toArray }).get? a = some oe := Heap.get?_push_of_some _ e2
    have e3t : (h2.push { cls := .type "traceback",dict := none,data := .fields fs.toArray }).get? tb = some { cls := .type "traceback",dict := none,data := .fields fs.toArray } := by rw [← htbn]; exact Heap.get?_push_size _ rfl
    generalize hh3 : h2.push { cls := .type "traceback",dict := none,data := .fields fs.toArray } = h3' at *
    refine wpAny_setField (a := a) (o := oe) (vs := vs) (i := 1) e3 hd hs ?_
    have mf : ∀ g,Obj.mapFields g oe = { cls := oe.cls,dict := oe.dict,data := .fields (g vs),slots := oe.slots } := fun g => by
      obtain ⟨c,d,da,sl⟩ := oe
      have : da = .fields vs := hd
      subst this
      rfl
    have e4 := Heap.get?_update_self (h := h3') (Obj.mapFields fun v => v.setIfInBounds 1 (.ref tb)) e3 (by rw [mf]; rfl)
    rw [mf] at e4
    have e4t : (h3'.update a (Obj.mapFields fun v => v.setIfInBounds 1 (.ref tb))).get? tb = some { cls := .type "traceback",dict := none,data := .fields fs.toArray } := by rw [Heap.get?_update_ne _ _ _ _ hne]; exact e3t
    have e4o : ∀ b,b≠a→(h3'.update a (Obj.mapFields fun v => v.setIfInBounds 1 (.ref tb))).get? b = h3'.get? b := fun b hb => Heap.get?_update_ne _ _ _ _ hb
    generalize h3'.update a (Obj.mapFields fun v => v.setIfInBounds 1 (.ref tb)) = h4 at *
    unfold setFlight
    refine wpAny_bind (wpAny_field (o := { cls := oe.cls,dict := oe.dict,data := .fields (vs.setIfInBounds 1 (.ref tb)),slots := oe.slots }) (x := .ref tb) e4 rfl ?_ ?_)
    · rw [Array.getElem?_setIfInBounds_self_of_lt hs]
    · rw [if_pos (by rfl)]
      refine wpAny_setField (a := tb) (vs := fs.toArray) (i := 3) e4t rfl ?_ ?_
      · have := (List.getElem?_eq_some_iff.mp h3).1
        simpa using this
      have e5 := Heap.get?_update_self (h := h4) (Obj.mapFields fun v => v.setIfInBounds 3 Value.none) e4t rfl
      have e5o : ∀ b,b≠tb→(h4.update tb (Obj.mapFields fun v => v.setIfInBounds 3 Value.none)).get? b = h4.get? b := fun b hb => Heap.get?_update_ne _ _ _ _ hb
      refine q (h4.update tb (Obj.mapFields fun v => v.setIfInBounds 3 Value.none)) ⟨fun b o nf ne _ e => ?_,fun b o e nf => ?_,tb,_,_,?_,hne,?_,e5,rfl,?_⟩
      · have hb2 : h2.get? b = some o := (so2 b nf).trans e
        have hbt : b≠tb := fun z => by rw [z,htb] at hb2; cases hb2
        rw [e5o b hbt,e4o b ne,← hh3]
        exact Heap.get?_push_of_some _ hb2
      · obtain ⟨sl,e1⟩ := so3 b o e
        have hbt : b≠tb := fun z => by rw [z,htb] at e1; cases e1
        have hba : b≠a := fun z => by rw [z,e0] at e; cases e; exact nf vs hd
        refine ⟨sl,?_⟩
        rw [e5o b hbt,e4o b hba,← hh3]
        exact Heap.get?_push_of_some _ e1
      · cases z : s.heap.get? tb with
        | none => rfl
        | some o =>
          obtain ⟨sl,e1⟩ := so3 tb o z
          rw [htb] at e1; cases e1
      · rw [e5o a (Ne.symm hne)]; exact e4
      · show (fs.toArray.setIfInBounds 3 _)[3]? = _
        rw [Array.getElem?_setIfInBounds_self_of_lt (by have := (List.getElem?_eq_some_iff.mp h3).1; simpa using this)]
  unfold EntryCells.newEntry
  refine key _ ?_ rfl
  rcases hpl with rfl | ⟨x1,x2,x3,x4,x5,x6,_,rfl⟩ <;> simp
theorem zc7 {T : Option Addr} (hf : A.frames = some (env::outer)) (ff : s.heap.FunFrames B (env::outer)) (hL : env.frame = some L) (e0 : s.heap.get? a = some oe) (hd : oe.data = .fields vs)
    (h1 : (vs[1]? = some Value.none∧T = none)∨∃ T' oT ts,T = some T'∧vs[1]? = some (.ref T')∧T'≠a∧s.heap.get? T' = some oT∧oT.data = .fields ts∧ts[3]? = some Value.none)
    (q : ∀ h',Lft (frs (env::outer)) a oe vs T s.heap h'→Q () { heap := h',gens := s.gens,drawn := s.drawn,toks := s.toks,os := s.os }) : wpAny M A (noteFrame (.ref a) env) (fun _ s' => wpAny M A (setFlight (.ref a) none) Q E s') E s := by
  have hs : 1 < vs.size := by
    rcases h1 with ⟨z,_⟩ | ⟨_,_,_,_,z,_⟩ <;> exact (Array.getElem?_eq_some_iff.mp z).1
  unfold noteFrame
  simp only [hL]
  rcases h1 with ⟨z,rfl⟩ | ⟨T',oT,ts,rfl,z,hTa,eT,hT,h3⟩
  · refine wpAny_bind (wpAny_field e0 hd z ?_)
    rw [if_neg (by decide)]
    exact zeT hf ff hL e0 hd hs q
  · refine wpAny_bind (wpAny_field e0 hd z ?_)
    rw [if_pos (by rfl)]
    refine wpAny_bind (wpAny_field eT hT h3 ?_)
    rw [if_neg (by intro z; cases z)]
    have h3s : 3 < ts.size := (Array.getElem?_eq_some_iff.mp h3).1
    refine wpAny_bind (wpAny_setField eT hT h3s ?_)
    have eo : ∀ b,b≠T'→(s.heap.update T' (Obj.mapFields fun v => v.setIfInBounds 3 Value.none)).get? b = s.heap.get? b := fun b hb => Heap.get?_update_ne _ _ _ _ hb
    refine zeT (s := { heap := s.heap.update T' (Obj.mapFields fun v => v.setIfInBounds 3 Value.none),gens := s.gens,drawn := s.drawn,toks := s.toks,os := s.os }) hf (ff.of_keeps fun b o e nf => ?_) hL ((eo a (Ne.symm hTa)).trans e0) hd hs fun h' l => q h' ⟨fun b o nf ne hT' e => ?_,fun b o e nf => ?_,?_⟩
    · have hb : b≠T' := fun z => by rw [z,eT] at e; cases e; exact nf ts hT
      exact ⟨o,(eo b hb).trans e,rfl⟩
    · have hb : b≠T' := fun z => hT' (by rw [z])
      exact l.keep b o nf ne (by simp) ((eo b hb).trans e)
    · have hb : b≠T' := fun z => by rw [z,eT] at e; cases e; exact nf ts hT
      exact l.slot b o ((eo b hb).trans e) nf
    · obtain ⟨tb,ot,ts',t1,t2⟩ := l.obj
      refine ⟨tb,ot,ts',?_,t2⟩
      by_cases hb : tb = T'
      · have mf : Obj.mapFields (fun v => v.setIfInBounds 3 Value.none) oT = { cls := oT.cls,dict := oT.dict,data := .fields (ts.setIfInBounds 3 Value.none),slots := oT.slots } := by
          obtain ⟨c,d,da,sl⟩ := oT
          have : da = .fields ts := hT
          subst this
          rfl
        have := Heap.get?_update_self (h := s.heap) (Obj.mapFields fun v => v.setIfInBounds 3 Value.none) eT (by rw [mf]; rfl)
        rw [hb] at t1
        exact absurd (t1.symm.trans this) (by simp)
      · exact (eo tb hb).symm.trans t1
theorem zdq {T : Option Addr} (hf : A.frames = some (env::outer)) (ff : s.heap.FunFrames B (env::outer)) (hL : env.frame = some L) (e0 : s.heap.get? a = some oe) (hd : oe.data = .fields vs)
    (h1 : (vs[1]? = some Value.none∧T = none)∨∃ T' oT ts,T = some T'∧vs[1]? = some (.ref T')∧T'≠a∧s.heap.get? T' = some oT∧oT.data = .fields ts∧ts[3]? = some Value.none)
    (q : ∀ h',Lft (frs (env::outer)) a oe vs T s.heap h'→Q () { heap := h',gens := s.gens,drawn := s.drawn,toks := s.toks,os := s.os }) : wpAny M A (leaving env (.ref a)) Q E s :=
  wpAny_bind (zc7 hf ff hL e0 hd h1 q)
end
end DL
end
section
namespace DL
open PySem PySem.Spec PyProof.Rows L2 PySem.W PySem.Calls
noncomputable def zj1 (h B : Heap) (a : Addr) (cls : Value) (od : Option Addr) : Prop :=
  ∃ oe vs,h.get? a = some oe∧oe.cls = cls∧(∀ dx,od = some dx→oe.dict = some dx)∧oe.data = .fields vs ∧
    (vs[1]? = some Value.none∨∃ T oT ts,vs[1]? = some (.ref T)∧B.get? T = none∧T≠a∧h.get? T = some oT∧oT.data = .fields ts∧ts[3]? = some Value.none)
structure Fly (P : Program) (w : World) (st : List Env) (H : Hp) (s : Shared) (H' : Hp) (a : Addr) (cls : Value) (od : Option Addr) (s' : Shared) : Prop where
  os : s'.os = s.os
  bare : AllBare s'.gens
  un : Un (frs st) [] H H' s.heap s'.heap
  hok : HOk P w H' s'.heap
  ex : ∃ B : Heap,B.StaysIn s'.heap∧B.get? a = none∧s'.heap.FunFrames B st∧zj1 s'.heap B a cls od ∧
    (∀ b o,s.heap.get? b = some o→b∉frs st→∃ o',B.get? b = some o')∧∀ b u,H' b = some u→∃ o',B.get? b = some o'
section
variable {X : Cx} {pins : List (Addr × Obj)} {σ : L2.St} {H H' : Hp} {s s' : Shared} {a : Addr} {cls : Value} {od : Option Addr} {M : Model} {E : Value → Shared → Prop}
theorem Fly.inv (F : Fly X.prog X.w X.stack H s H' a cls od s') (I : Inv X pins σ H s) : Inv X pins σ H' s' := I.call' F.os F.un F.hok F.bare fun b z => absurd z (by simp)
theorem Fly.leaves {Q : Unit→Shared→Prop} (F : Fly X.prog X.w X.stack H s H' a cls od s') (I : Inv X pins σ H s) (hst : X.stack = X.env::X.outer) (hfr : X.env.frame = some X.env.locals) (hex : X.ex = [])
    (q : ∀ s'',Fly X.prog X.w X.outer X.H₀ X.s₀ H' a cls od s''→Q () s'') : wpAny M X.A (leaving X.env (.ref a)) Q E s' := by
  have I' := F.inv I
  obtain ⟨B,hB,hBa,hff,⟨oe,vs,r1,r2,r3,r4,r5⟩,hd,hH⟩ := F.ex
  have hfs : frs X.stack = X.env.locals::frs X.outer := by rw [hst]; unfold frs; rw [List.filterMap_cons,hfr]
  have inB : ∀ b o,X.s₀.heap.get? b = some o→b∉frs X.outer→∃ o',B.get? b = some o' := fun b o e n => by
    obtain ⟨o1,e1⟩ := I.base.there b o e (by rw [hex]; simp)
    refine hd b o1 e1 ?_
    rw [hfs]
    intro z
    rcases List.mem_cons.mp z with z | z
    · have h1 := Heap.lt_size e
      have h2 := I.ok.above
      rw [z] at h1
      exact absurd h1 (Nat.not_lt.mpr h2)
    · exact n z
  rw [hst] at hff
  have fin : ∀ (T : Option Addr) h',(∀ b,T = some b→B.get? b = none)→Lft (frs (X.env::X.outer)) a oe vs T s'.heap h'→Q () { heap := h',gens := s'.gens,drawn := s'.drawn,toks := s'.toks,os := s'.os } := fun T h' hT l => by
    have same : ∀ b o,(∃ o',B.get? b = some o')→s'.heap.get? b = some o→h'.get? b = some o := fun b o ⟨o',e⟩ h => by
      refine l.keep b o (fun z => ?_) (fun z => by rw [z,hBa] at e; cases e) (fun z => by rw [hT b z] at e; cases e) h
      rw [(hff.mem z).1] at e
      cases e
    have hso := (show X.env.scope.kind≠ScopeKind.module∧(∃ L o,X.env.frame = some L∧B.get? L = none∧s'.heap.get? L = some o∧∀ (vs : Array Value),o.data≠Data.fields vs)∧s'.heap.FunFrames B X.outer by unfold Heap.FunFrames at hff; exact hff).2.2
    have ho : h'.FunFrames B X.outer := hso.of_keeps fun b o e nf => by
      obtain ⟨sl,e1⟩ := l.slot b o e nf
      exact ⟨_,e1,rfl⟩
    obtain ⟨tb,ot,ts,t1,t2,t3,t4,t5,t6⟩ := l.obj
    have htB : B.get? tb = none := by
      cases z : B.get? tb with
      | none => rfl
      | some o => have := hB tb o z; rw [t1] at this; cases this
    have hs1 : 1 < vs.size := by
      rcases r5 with z | ⟨_,_,_,z,_⟩ <;> exact (Array.getElem?_eq_some_iff.mp z).1
    refine q _ ⟨I'.os,F.bare,⟨fun b o e n f z => ?_,fun b o e n f z => ?_,fun b o e n z => ?_,fun b o e z => ?_,I'.base.tups,I'.base.frzs,I'.base.tbls⟩,fun b u e => ?_,B,fun b o e => same b o ⟨o,e⟩ (hB b o e),hBa,ho,
      ⟨_,_,t3,r2,r3,rfl,.inr ⟨tb,ot,ts,Array.getElem?_setIfInBounds_self_of_lt hs1,htB,t2,t4,t5,t6⟩⟩,inB,hH⟩
    · exact same b o (inB b o e f) (I'.base.keep b o e n f (by rw [hex]; exact z))
    · obtain ⟨sl,e1⟩ := I'.base.slot b o e n f (by rw [hex]; exact z)
      obtain ⟨_,o2,e2,nf⟩ := hso.mem f
      rw [e1] at e2
      cases e2
      obtain ⟨sl2,e3⟩ := l.slot b _ e1 nf
      exact ⟨sl2,e3⟩
    · exact I'.base.free b o e n (by rw [hex]; exact z)
    · obtain ⟨o1,e1⟩ := I'.base.there b o e (by rw [hex]; exact z)
      by_cases f : b∈frs X.outer
      · obtain ⟨_,o2,e2,nf⟩ := hso.mem f
        obtain ⟨sl,e3⟩ := l.slot b _ e2 nf
        exact ⟨_,e3⟩
      · exact ⟨o1,same b o1 (inB b o e f) e1⟩
    · refine (F.hok b u e).stay (fun c v hc e1 => same c v ?_ e1) (fun _ z => z) fun _ _ z => z
      rcases hc with hc | hc
      · rw [hc]; exact hH b u e
      · exact hH c _ hc
  rcases r5 with z | ⟨T,oT,ts,z1,z2,z3,z4,z5,z6⟩
  · exact zdq (T := none) (by rw [I.ok.frames,hst]) hff hfr r1 r4 (.inl ⟨z,rfl⟩) fun h' l => fin none h' (fun b e => nomatch e) l
  · exact zdq (T := some T) (by rw [I.ok.frames,hst]) hff hfr r1 r4 (.inr ⟨T,oT,ts,rfl,z1,z3,z4,z5,z6⟩) fun h' l => fin (some T) h' (fun b e => by cases e; exact z2) l
end
noncomputable def CXR (P : Program) (w : World) : CXT := fun outer H s E e s' => ∃ a cls H' od,e = .ref a∧Fly P w outer H s H' a cls od s'∧E cls od H'
end DL
end
section
namespace DL
open PySem PySem.Spec PyProof.Rows L2 PySem.W PySem.Calls
theorem ziF {P : Program} {w : World} {H : Hp} {h : Heap} {a : Addr} {o : HO} (x : zbo P w H h a o) : ∃ u,h.get? a = some u := by
  cases o with
  | lst xs => obtain ⟨_,_,_,_,e⟩ := x; exact ⟨_,e⟩
  | tup xs => obtain ⟨_,_,_,_,o,e,_⟩ := x; exact ⟨_,e⟩
  | dK kvs => obtain ⟨_,_,_,_,o,_,_,e,_⟩ := x; exact ⟨_,e⟩
  | dT kvs => obtain ⟨_,_,_,_,o,_,_,e,_⟩ := x; exact ⟨_,e⟩
  | set S n => obtain ⟨o,_,_,_,e,_⟩ := x; exact ⟨_,e⟩
  | ins C dx fs => obtain ⟨_,_,_,e,_⟩ := x; exact ⟨_,e⟩
  | own y => exact x
  | xd fs => obtain ⟨_,⟨_,_,_,e,_⟩,_⟩ := x; exact ⟨_,e⟩
  | rng lo hi => obtain ⟨_,_,_,e⟩ := x; exact ⟨_,e⟩
  | frz ob u => obtain ⟨e,_⟩ := x; exact ⟨_,e⟩
  | tbl ps => exact ⟨_,(show h.get? a = some _ from x)⟩
  | met f y => exact ⟨_,(show h.get? a = some _ from x)⟩
  | ext φ => exact x.2.1
noncomputable abbrev vErr : List Value := [Value.type "ValueError",Value.type "Exception",Value.type "BaseException",Value.type "object"]
theorem zfG {h : Heap} {bmB bm : List Value} {v : Value} (t : OwnTail h bmB bm) (hb : bmB.contains v = true) : bm.contains v = true := by
  induction t with
  | base => exact hb
  | own _ _ _ _ ih => rw [List.contains_cons,ih,Bool.or_true]
theorem zhy {K : PySem.W.Frag} {h : Heap} {C : Addr} {bmB : List Value} {newId : String} (k : K.In h) (e : excIn K C bmB newId = true) : ∃ bm N nm q bs hdct sn sub ab col dd k0 k1 k2 k3 k5 mN,
    h.get? C = some (excClassObj nm q C N bs bm hdct sn sub ab col dd k0 k1 k2 k3 k5 newId)∧h.Ns N mN∧mN (Str.ofString "__init__") = none∧OwnTail h bmB bm := by
  unfold excIn at e
  split at e
  · rename_i dict cd sl hk
    split at e
    · rename_i C' bm k0 k1 k2 k3 n k5 hm hs
      simp only [Bool.and_eq_true,beq_iff_eq,Bool.not_eq_true'] at e
      obtain ⟨⟨⟨⟨⟨rfl,rfl⟩,hd⟩,ht⟩,hn⟩,hi⟩ := e
      have hns := isNs_of_in k hn
      obtain ⟨nm,bs,mro,ns,q,hdct,sn,sub,ab,col,hdel⟩ := cd
      have e1 : mro = Value.ref C'::bm := hm
      have e2 : hdel = false := hd
      subst e1 e2
      have e3 : sl = #[k0,k1,k2,k3,some (Value.builtin n),k5] := by
        cases sl with
        | mk l => exact congrArg Array.mk hs
      subst e3
      exact ⟨bm,ns,nm,q,bs,hdct,sn,sub,ab,col,dict,k0,k1,k2,k3,k5,h.nsMap ns,k _ _ hk,Heap.Ns.of_isNs hns,nsMap_none_of_in k hn hi,tail_of_in k ht⟩
    · cases e
  · cases e
structure XC (K : PySem.W.Frag) (mg : Str→Option Value) (x : Str) (C : Addr) : Prop where
  bound : mg x = some (.ref C)
  exc : excIn K C vErr "ValueError.__new__" = true
section
variable {X : Cx} {pins : List (Addr × Obj)} {σ : L2.St} {H : Hp} {s : Shared} {x : Str} {C : Addr} {np cpos pos : Pos} {e₀ : Expr} {rest : List Expr} {t : TA}
theorem Fly.made {h' : Heap} {e : Addr} {cls : Value} {vs : List Value} (I : Inv X pins σ H s) (m : s.heap.MadeExcOf h' e cls vs) : Fly X.prog X.w X.stack H s H e cls none { heap := h',gens := s.gens,drawn := s.drawn,toks := s.toks,os := s.os } := by
  obtain ⟨t,m1,m2,m3⟩ := m.there
  have hst : ∀ b o,(hideAll s.heap (frs X.stack)).get? b = some o→h'.get? b = some o := fun b o e => m.keeps b o (of_hideAll _ e)
  refine ⟨rfl,I.bare,Un.kept m.keeps,I.hok.kept m.keeps,hideAll s.heap (frs X.stack),hst,?_,?_,⟨_,_,m1,rfl,(fun _ e => nomatch e),rfl,.inl rfl⟩,fun b o e n => ⟨o,hideAll_get _ e n⟩,fun b u e => ?_⟩
  · cases q : (hideAll s.heap (frs X.stack)).get? e with
    | none => rfl
    | some o => have := of_hideAll _ q; rw [m.new] at this; cases this
  · have ff := I.stack
    have key : ∀ l : List Env,(∀ b∈frs l,b∈frs X.stack)→s.heap.FunFrames X.base l→h'.FunFrames (hideAll s.heap (frs X.stack)) l := by
      intro l
      induction l with
      | nil => intro _ _; unfold Heap.FunFrames; trivial
      | cons env l ih =>
        intro hs hf
        unfold Heap.FunFrames at hf ⊢
        obtain ⟨f1,⟨L,o,f2,f3,f4,f5⟩,f6⟩ := hf
        refine ⟨f1,⟨L,o,f2,hideAll_none _ (hs L ?_),m.keeps _ _ f4,f5⟩,ih (fun b hb => hs b ?_) f6⟩
        · unfold frs; rw [List.filterMap_cons,f2]; exact List.mem_cons_self
        · unfold frs; rw [List.filterMap_cons,f2]; exact List.mem_cons_of_mem _ hb
    exact key X.stack (fun _ hb => hb) ff
  · obtain ⟨o,eo⟩ := ziF (I.hok b u e)
    exact ⟨o,hideAll_get _ eo fun z => by rw [I.stkFree b z] at e; cases e⟩
theorem zfO {Q : Flow→Shared→Prop} (I : Inv X pins σ H s) (hc : X.calm = true) (c : XC X.K X.mg x C) (hg : Gl X x) (ha : PA X (e₀::rest) t)
    (h : t σ H fun vs H1 => vs.length≤sizeLine∧∀ s1 a s',Inv X pins σ H1 s1→Fly X.prog X.w X.stack H1 s1 H1 a (.ref C) none s'→X.xe (.ref a) s')
    (hdb : (x == ("__debug__" : Str)) = false := by decide) (he : starEach (e₀::rest) X.env = (false,eval e₀ X.env)::starEach rest X.env := by rfl) (hpl : (backTo cpos (starEach rest X.env)).any (·.1) = false := by rfl) :
    wpAny (model X.prog X.w) X.A (exec (.Raise (some (.Call (.Name x np) (e₀::rest) [] cpos)) none pos) X.env) Q X.xe s := by
  obtain ⟨bm,N,nm,q,bs,hdct,sn,sub,ab,col,dd,k0,k1,k2,k3,k5,mN,c1,c2,c3,c4⟩ := zhy I.ok.mod.kin c.exc
  refine wpAny_Raise_call_subT (nm := nm) (q := q) (C := C) (N := N) (bs := bs) (bm := bm) (hdct := hdct) (sn := sn) (sub := sub) (ab := ab) (col := col) (dd := dd) (k0 := k0) (k1 := k1) (k2 := k2) (k3 := k3) (k5 := k5) (mN := mN) F.excBase_ValueError (zfG c4 (by decide +kernel)) (I.ok.hd hc) ?_ c3 ?_
  · rw [he]; exact hpl
  refine zcB I hg c.bound ⟨rfl,?_⟩ hdb
  rw [he]
  refine evalArgs_plain ?_
  have hp := ha cpos pins s σ H _ I h
  rw [he] at hp
  refine thn hp fun us s1 ⟨vs,H1,I1,r,hl,q⟩ => ⟨rfl,?_,I1.bk _ _ c1,?_,?_,fun h' e m => q s1 e _ I1 (Fly.made I1 m)⟩
  · show us.length≤sizeLine
    rw [← r.length]; exact hl
  · exact c2.keeps I1.bk
  · exact c4.keeps I1.bk
end
end DL
end
section
namespace DL
open PySem PySem.Spec PyProof.Rows L2
inductive D where
  | non | bl (b : Bool) | int (i : Int) | str (x : Str)
  | tup (ds : List D) | lst (ds : List D)
  | dic (kvs : List (Key × D))
  | obj (c : Nat) (fs : List (Str × D))
instance : Inhabited D := ⟨.non⟩
inductive Res (α : Type) where
  | ok (a : α) | exc (x : D) | stuck
noncomputable def Res.bind {α β : Type} (r : Res α) (f : α→Res β) : Res β := match r with
  | .ok a => f a
  | .exc x => .exc x
  | .stuck => .stuck
@[simp] theorem bind_ok {α β : Type} (a : α) (f : α→Res β) : (Res.ok a).bind f = f a := rfl
@[simp] theorem bind_exc {α β : Type} (x : D) (f : α→Res β) : (Res.exc x : Res α).bind f = .exc x := rfl
@[simp] theorem bind_stuck {α β : Type} (f : α→Res β) : (Res.stuck : Res α).bind f = .stuck := rfl
noncomputable def fin {α : Type} (r : Res α) (q : α→Prop) (x : D→Prop) : Prop := match r with
  | .ok a => q a
  | .exc e => x e
  | .stuck => False
theorem zaf {α : Type} {r : Res α} {q q' : α→Prop} {x : D→Prop} (h : fin r q x) (hq : ∀ a,q a→q' a) : fin r q' x := by
  cases r with
  | ok a => exact hq a h
  | exc e => exact h
  | stuck => exact h
theorem zai {α β : Type} {r : Res α} {f : α→Res β} {q : β→Prop} {x : D→Prop} (h : fin (r.bind f) q x) : fin r (fun a => fin (f a) q x) x := by
  cases r with
  | ok a => exact h
  | exc e => exact h
  | stuck => exact h
noncomputable abbrev GH := Addr→Option D
inductive Scl : V→D→Prop where
  | non : Scl .non .non
  | bl (b : Bool) : Scl (.bl b) (.bl b)
  | int (i : Int) : Scl (.int i) (.int i)
  | str (x : Str) : Scl (.str x) (.str x)
inductive KC (K : PySem.W.Frag) (a : Addr) : D→Prop where
  | lst {xs : List V} {ds : List D} : SqL K (fun _ => none) a xs→Paired Scl xs ds→KC K a (.lst ds)
  | tup {xs : List V} {ds : List D} : SqT K (fun _ => none) a xs→Paired Scl xs ds→(∃ o,K.lookup a = some o∧o.cls = .type "tuple"∧o.dict = none)→KC K a (.tup ds)
inductive RG (K : PySem.W.Frag) (G : GH) : V→D→Prop where
  | scl {v : V} {d : D} : Scl v d→RG K G v d
  | ref {a : Addr} {d : D} : G a = some d→RG K G (.ref a) d
  | kc {a : Addr} {d : D} : KC K a d→RG K G (.ref a) d
noncomputable abbrev RGs (K : PySem.W.Frag) (G : GH) : List V→List D→Prop := Paired (RG K G)
noncomputable abbrev RKs (K : PySem.W.Frag) (G : GH) : List (Key × V)→List (Key × D)→Prop := Paired fun p q => p.1 = q.1∧RG K G p.2 q.2
noncomputable abbrev xD (nm : Str) (ds : List (Str × D)) : D := .obj 0 (("__class__",.str nm)::ds)
noncomputable def XN (K : PySem.W.Frag) (nm : Str) (C : Addr) : Prop := ∃ o cd,K.lookup C = some o∧o.data = Data.cls cd∧cd.name = nm
noncomputable def XcO (a C : Addr) (od : Option Addr) : Heap→Prop := fun h => ∃ oe vs,h.get? a = some oe∧oe.cls = .ref C∧(∀ dx,od = some dx→oe.dict = some dx)∧oe.data = .fields vs
noncomputable def XF (G : GH) (od : Option Addr) (ds : List (Str × D)) : Prop := match od with
  | none => ds = []
  | some dx => G dx = some (.obj 1 ds)
theorem XF.mono {G G' : GH} {od : Option Addr} {ds : List (Str × D)} (h : XF G od ds) (ge : ∀ a d,G a = some d→G' a = some d) : XF G' od ds := by
  cases od with
  | none => exact h
  | some dx => exact ge _ _ h
noncomputable abbrev RFs (K : PySem.W.Frag) (G : GH) : List (Str × V)→List (Str × D)→Prop := Paired fun p q => p.1 = q.1∧RG K G p.2 q.2
inductive OB (K : PySem.W.Frag) (G : GH) (H : Hp) (a : Addr) : D→Prop where
  | lst {xs : List V} {ds : List D} : Rd H a (.lst xs)→RGs K G xs ds→OB K G H a (.lst ds)
  | tup {xs : List V} {ds : List D} : Rd H a (.tup xs)→RGs K G xs ds→OB K G H a (.tup ds)
  | dic {ob : Obj} {ps : List (Key × V)} {kvs : List (Key × D)} : H a = some (.frz ob (.dK ps))→RKs K G ps kvs→OB K G H a (.dic kvs)
  | exc {nm : Str} {C : Addr} {od : Option Addr} {ds : List (Str × D)} : H a = some (.ext (XcO a C od))→XN K nm C→XF G od ds→OB K G H a (xD nm ds)
  | fld {fs : List (Str × V)} {ds : List (Str × D)} : H a = some (.xd fs)→RFs K G fs ds→OB K G H a (.obj 1 ds)
noncomputable def GOk (K : PySem.W.Frag) (G : GH) (H : Hp) : Prop := ∀ a d,G a = some d→OB K G H a d
inductive OwnO (K : PySem.W.Frag) (G : GH) (H : Hp) (a : Addr) : D→Prop where
  | lst {xs : List V} {ds : List D} : H a = some (.lst xs)→RGs K G xs ds→OwnO K G H a (.lst ds)
  | dic {ps : List (Key × V)} {kvs : List (Key × D)} : H a = some (.dK ps)→RKs K G ps kvs→OwnO K G H a (.dic kvs)
structure Own (K : PySem.W.Frag) (G : GH) (H : Hp) (a : Addr) (d : D) : Prop where
  un : G a = none
  ob : OwnO K G H a d
structure Grow (K : PySem.W.Frag) (G : GH) (H : Hp) (G' : GH) (H' : Hp) : Prop where
  ok : GOk K G' H'
  he : ∀ a o,H a = some o→H' a = some o
  ge : ∀ a d,G a = some d→G' a = some d
  gf : ∀ a,H a≠none→G' a = G a
section
variable {K : PySem.W.Frag} {G G' G1 G2 : GH} {H H' H1 H2 : Hp} {a p : Addr} {d : D} {v : V}
theorem Rd.mono {u : HO} (h : Rd H a u) (he : ∀ a o,H a = some o→H' a = some o) : Rd H' a u := by
  rcases h with h | ⟨o,h⟩
  · exact .inl (he _ _ h)
  · exact .inr ⟨o,he _ _ h⟩
theorem Rd.isS {u : HO} (h : Rd H a u) : H a≠none := by
  rcases h with h | ⟨o,h⟩ <;> rw [h] <;> simp
theorem RG.mono (h : RG K G v d) (ge : ∀ a d,G a = some d→G' a = some d) : RG K G' v d := by
  cases h with
  | scl s => exact .scl s
  | ref e => exact .ref (ge _ _ e)
  | kc k => exact .kc k
theorem RGs.mono {xs : List V} {ds : List D} (h : RGs K G xs ds) (ge : ∀ a d,G a = some d→G' a = some d) : RGs K G' xs ds := Paired.mono (fun _ _ r => r.mono ge) h
theorem RKs.mono {xs : List (Key × V)} {ds : List (Key × D)} (h : RKs K G xs ds) (ge : ∀ a d,G a = some d→G' a = some d) : RKs K G' xs ds := Paired.mono (fun _ _ r => ⟨r.1,r.2.mono ge⟩) h
theorem OB.mono (h : OB K G H a d) (ge : ∀ a d,G a = some d→G' a = some d) (he : ∀ o,H a = some o→H' a = some o) : OB K G' H' a d := by
  have rd : ∀ {u : HO},Rd H a u→Rd H' a u := fun r => by
    rcases r with r | ⟨o,r⟩
    · exact .inl (he _ r)
    · exact .inr ⟨o,he _ r⟩
  cases h with
  | lst r s => exact .lst (rd r) (s.mono ge)
  | tup r s => exact .tup (rd r) (s.mono ge)
  | dic r s => exact .dic (he _ r) (RKs.mono s ge)
  | exc r n f => exact .exc (he _ r) n (f.mono ge)
  | fld r s => exact .fld (he _ r) (Paired.mono (fun _ _ r => ⟨r.1,r.2.mono ge⟩) s)
theorem OB.isS (h : OB K G H a d) : H a≠none := by
  cases h with
  | lst r s => exact Rd.isS r
  | tup r s => exact Rd.isS r
  | dic r s => rw [r]; simp
  | exc r n f => rw [r]; simp
  | fld r s => rw [r]; simp
theorem GOk.isN (g : GOk K G H) (h : H p = none) : G p = none := by
  cases e : G p with
  | none => rfl
  | some d => exact absurd h (g p d e).isS
theorem OwnO.isS (h : OwnO K G H a d) : H a≠none := by
  cases h with
  | lst r s => rw [r]; simp
  | dic r s => rw [r]; simp
theorem OwnO.mono (h : OwnO K G H a d) (ge : ∀ a d,G a = some d→G' a = some d) (he : ∀ o,H a = some o→H' a = some o) : OwnO K G' H' a d := by
  cases h with
  | lst r s => exact .lst (he _ r) (s.mono ge)
  | dic r s => exact .dic (he _ r) (RKs.mono s ge)
theorem Own.mono (h : Own K G H a d) (w : Grow K G H G' H') : Own K G' H' a d :=
  ⟨by rw [w.gf a h.ob.isS]; exact h.un,h.ob.mono w.ge fun o e => w.he _ _ e⟩
noncomputable def fz (H : Hp) (a : Addr) (ob : Obj) : Hp := match H a with
  | some (.dK ps) => upd H a (.frz ob (.dK ps))
  | _ => H
theorem zfa {b : Addr} {ob : Obj} (h : b≠a) : fz H a ob b = H b := by
  unfold fz
  cases e : H a with
  | none => rfl
  | some u => cases u <;> first | rfl | exact zam h
theorem zi0 {xs : List V} {ob : Obj} (h : H a = some (.lst xs)) : fz H a ob = H := by
  unfold fz
  rw [h]
theorem zi1 {ps : List (Key × V)} {ob : Obj} (h : H a = some (.dK ps)) : fz H a ob a = some (.frz ob (.dK ps)) := by
  unfold fz
  rw [h]; exact zaP
theorem OwnO.fast (h : OwnO K G H a d) (ob : Obj) : OB K G (fz H a ob) a d := by
  cases h with
  | lst r s => rw [zi0 r]; exact .lst (.inl r) s
  | dic r s => exact .dic (zi1 r) s
theorem GOk.fast (g : GOk K G H) (hn : G a = none) (ob : Obj) : GOk K G (fz H a ob) := fun b d e => by
  have hb : b≠a := by rintro rfl; rw [hn] at e; cases e
  exact (g b d e).mono (fun _ _ z => z) fun o z => by rw [zfa hb]; exact z
theorem Grow.refl (g : GOk K G H) : Grow K G H G H := ⟨g,fun _ _ e => e,fun _ _ e => e,fun _ _ => rfl⟩
theorem Grow.trans (x : Grow K G H G1 H1) (y : Grow K G1 H1 G2 H2) : Grow K G H G2 H2 :=
  ⟨y.ok,fun a o e => y.he _ _ (x.he _ _ e),fun a d e => y.ge _ _ (x.ge _ _ e),fun a h => by
    have h1 : H1 a≠Option.none := by
      cases e : H a with
      | none => exact absurd e h
      | some o => rw [x.he _ _ e]; simp
    rw [y.gf a h1,x.gf a h]⟩
noncomputable def gset (G : GH) (a : Addr) (d : D) : GH := fun b => if b = a then some d else G b
theorem zar : gset G a d a = some d := if_pos rfl
theorem zax {b : Addr} (h : b≠a) : gset G a d b = G b := if_neg h
theorem zaA (hn : G a = none) : ∀ b e,G b = some e→gset G a d b = some e := fun b e h => by
  have : b≠a := by rintro rfl; rw [hn] at h; cases h
  rw [zax this]; exact h
theorem GOk.gset (g : GOk K G H) (hn : G a = none) (o : OB K G H a d) : GOk K (gset G a d) H := fun b e h => by
  by_cases hb : b = a
  · subst hb; rw [zar] at h; cases h
    exact o.mono (zaA hn) fun _ q => q
  · rw [zax hb] at h
    exact (g b e h).mono (zaA hn) fun _ q => q
theorem zgw (hn : H p = none) {o : HO} : ∀ a u,H a = some u→upd H p o a = some u := fun a u e => by
  rw [zam (zbe e hn)]; exact e
theorem Grow.new (g : GOk K G H) (hn : H p = none) (o : HO) : Grow K G H G (upd H p o) :=
  ⟨fun a d e => (g a d e).mono (fun _ _ q => q) fun u q => zgw hn _ _ q,fun a u e => zgw hn _ _ e,fun _ _ e => e,fun _ _ => rfl⟩
theorem Grow.newF (g : GOk K G H) (hn : H p = none) {o : HO} (ob : OB K G (upd H p o) p d) : Grow K G H (gset G p d) (upd H p o) := by
  have w := Grow.new g hn o
  have gn := g.isN hn
  exact ⟨w.ok.gset gn ob,w.he,fun a e h => zaA gn a e h,fun a h => zax (by rintro rfl; exact h hn)⟩
theorem Grow.frz (w : Grow K G H G' H') (hn : H a = none) (o : Own K G' H' a d) (ob : Obj) : Grow K G H (gset G' a d) (fz H' a ob) :=
  ⟨(w.ok.fast o.un ob).gset o.un (o.ob.fast ob),fun b u e => by rw [zfa (by rintro rfl; rw [hn] at e; cases e)]; exact w.he b u e,fun b e h => zaA o.un b e (w.ge b e h),fun b h => by rw [zax (by rintro rfl; exact h hn)]; exact w.gf b h⟩
theorem RG.lst {ds : List D} (g : GOk K G H) (h : RG K G v (.lst ds)) : ∃ a xs,v = .ref a∧SqL K H a xs∧RGs K G xs ds := by
  cases h with
  | scl s => cases s
  | ref e =>
    cases g _ _ e with
    | lst r s => exact ⟨_,_,rfl,.inl r,s⟩
  | kc k =>
    cases k with
    | lst r s =>
      refine ⟨_,_,rfl,?_,Paired.mono (fun _ _ z => .scl z) s⟩
      rcases r with (r | ⟨o,r⟩) | r
      · cases r
      · cases r
      · exact .inr r
theorem RG.tup {ds : List D} (g : GOk K G H) (h : RG K G v (.tup ds)) : ∃ a xs,v = .ref a∧SqT K H a xs∧RGs K G xs ds := by
  cases h with
  | scl s => cases s
  | ref e =>
    cases g _ _ e with
    | tup r s => exact ⟨_,_,rfl,.inl r,s⟩
  | kc k =>
    cases k with
    | tup r s _ =>
      refine ⟨_,_,rfl,?_,Paired.mono (fun _ _ z => .scl z) s⟩
      rcases r with (r | ⟨o,r⟩) | r
      · cases r
      · cases r
      · exact .inr r
theorem RG.dic {kvs : List (Key × D)} (g : GOk K G H) (h : RG K G v (.dic kvs)) : ∃ a ps,v = .ref a∧Rd H a (.dK ps)∧RKs K G ps kvs := by
  cases h with
  | scl s => cases s
  | ref e =>
    cases g _ _ e with
    | dic r s => exact ⟨_,_,rfl,.inr ⟨_,r⟩,s⟩
  | kc k => cases k
theorem RG.int {i : Int} (g : GOk K G H) (h : RG K G v (.int i)) : v = .int i := by
  cases h with
  | scl s => cases s; rfl
  | ref e => cases g _ _ e
  | kc k => cases k
theorem RG.str {x : Str} (g : GOk K G H) (h : RG K G v (.str x)) : v = .str x := by
  cases h with
  | scl s => cases s; rfl
  | ref e => cases g _ _ e
  | kc k => cases k
theorem RG.bl {b : Bool} (g : GOk K G H) (h : RG K G v (.bl b)) : v = .bl b := by
  cases h with
  | scl s => cases s; rfl
  | ref e => cases g _ _ e
  | kc k => cases k
theorem RG.non (g : GOk K G H) (h : RG K G v .non) : v = .non := by
  cases h with
  | scl s => cases s; rfl
  | ref e => cases g _ _ e
  | kc k => cases k
noncomputable def RB (K : PySem.W.Frag) (G : GH) (H : Hp) (v : V) (d : D) : Prop := RG K G v d∨∃ a,v = .ref a∧Own K G H a d
theorem RG.rb (h : RG K G v d) : RB K G H v d := .inl h
theorem RB.mono (h : RB K G H v d) (w : Grow K G H G' H') : RB K G' H' v d := by
  rcases h with h | ⟨a,e,h⟩
  · exact .inl (h.mono w.ge)
  · exact .inr ⟨a,e,h.mono w⟩
theorem RB.lst {ds : List D} (g : GOk K G H) (h : RB K G H v (.lst ds)) : ∃ a xs,v = .ref a∧SqL K H a xs∧RGs K G xs ds := by
  rcases h with h | ⟨a,e,h⟩
  · exact h.lst g
  · cases h.ob with
    | lst r s => exact ⟨a,_,e,SqL.of r,s⟩
theorem RB.tup {ds : List D} (g : GOk K G H) (h : RB K G H v (.tup ds)) : ∃ a xs,v = .ref a∧SqT K H a xs∧RGs K G xs ds := by
  rcases h with h | ⟨a,e,h⟩
  · exact h.tup g
  · cases h.ob
theorem RB.dic {kvs : List (Key × D)} (g : GOk K G H) (h : RB K G H v (.dic kvs)) : ∃ a ps,v = .ref a∧Rd H a (.dK ps)∧RKs K G ps kvs := by
  rcases h with h | ⟨a,e,h⟩
  · exact h.dic g
  · cases h.ob with
    | dic r s => exact ⟨a,_,e,.inl r,s⟩
theorem RB.int {i : Int} (g : GOk K G H) (h : RB K G H v (.int i)) : v = .int i := by
  rcases h with h | ⟨a,e,h⟩
  · exact h.int g
  · cases h.ob
theorem RB.str {x : Str} (g : GOk K G H) (h : RB K G H v (.str x)) : v = .str x := by
  rcases h with h | ⟨a,e,h⟩
  · exact h.str g
  · cases h.ob
theorem RB.bl {b : Bool} (g : GOk K G H) (h : RB K G H v (.bl b)) : v = .bl b := by
  rcases h with h | ⟨a,e,h⟩
  · exact h.bl g
  · cases h.ob
theorem RB.non (g : GOk K G H) (h : RB K G H v .non) : v = .non := by
  rcases h with h | ⟨a,e,h⟩
  · exact h.non g
  · cases h.ob
theorem Paired.get {α β : Type} {F : α→β→Prop} : ∀ {l : List α} {r : List β} {i : Nat} {b : β},Paired F l r→r[i]? = some b→∃ a,l[i]? = some a∧F a b
  | _,_,_,_,.nil,e => by simp at e
  | _,_,0,_,.cons h _,e => by simp at e; subst e; exact ⟨_,rfl,h⟩
  | _,_,i + 1,b,.cons _ t,e => by
    obtain ⟨a,h1,h2⟩ := Paired.get (i := i) t (by simpa using e)
    exact ⟨a,by simpa using h1,h2⟩
theorem Paired.app {α β : Type} {F : α→β→Prop} {l l' : List α} {r r' : List β} (h : Paired F l r) (q : Paired F l' r') : Paired F (l++l') (r++r') := by
  induction h with
  | nil => exact q
  | cons h _ ih => exact .cons h ih
theorem Paired.tk {α β : Type} {F : α→β→Prop} {l : List α} {r : List β} (n : Nat) (h : Paired F l r) : Paired F (l.take n) (r.take n) := by
  induction h generalizing n with
  | nil => cases n <;> exact .nil
  | cons h _ ih => cases n with
    | zero => exact .nil
    | succ n => exact .cons h (ih n)
theorem Paired.st {α β : Type} {F : α→β→Prop} {a : α} {b : β} (h : F a b) {l : List α} {r : List β} (n : Nat) (p : Paired F l r) : Paired F (l.set n a) (r.set n b) := by
  induction p generalizing n with
  | nil => exact .nil
  | cons q t ih => cases n with
    | zero => exact .cons h t
    | succ n => exact .cons q (ih n)
end
inductive Md where
  | sh | ow | bw
  deriving DecidableEq
noncomputable abbrev Rho := List (Option D)
structure GE where
  gh : GH
  h0 : Hp
  hd : Nat→Option (Option V × Option D)
noncomputable def Bw (K : PySem.W.Frag) (h0 : Hp) (G : GH) (H : Hp) (v : V) (d : D) : Prop := RG K G v d∨∃ a,v = V.ref a∧Own K G H a d∧h0 a≠none
theorem Bw.grow {K : PySem.W.Frag} {h0 : Hp} {G G' : GH} {H H' : Hp} {v : V} {d : D} (h : Bw K h0 G H v d) (w : Grow K G H G' H') : Bw K h0 G' H' v d := by
  rcases h with h | ⟨a,e,h1,h2⟩
  · exact .inl (h.mono w.ge)
  · exact .inr ⟨a,e,h1.mono w,h2⟩
theorem Bw.rb {K : PySem.W.Frag} {h0 : Hp} {G : GH} {H : Hp} {v : V} {d : D} (h : Bw K h0 G H v d) : RB K G H v d := by
  rcases h with h | ⟨a,e,h1,h2⟩
  · exact .inl h
  · exact .inr ⟨a,e,h1⟩
noncomputable def Lk (r : Rho) (st : L2.St) (i : Nat) (o : Option V × Option D) : Prop := st[i]? = some o.1∧∀ d,r[i]? = some (some d)→o.2 = some d
structure SI (X : Cx) (g : GE) (m : List Md) (r : Rho) (G : GH) (st : L2.St) (H : Hp) : Prop where
  gok : GOk X.K G H
  old : ∀ a o,g.h0 a = some o→H a = some o
  ge : ∀ a d,g.gh a = some d→G a = some d
  gf : ∀ a,g.h0 a≠none→G a = g.gh a
  lm : m.length = st.length
  lr : r.length = st.length
  sh : ∀ (i : Nat) d,r[i]? = some (some d)→m[i]? = some .sh→∃ v,st[i]? = some (some v)∧RG X.K G v d
  ow : ∀ (i : Nat) d,r[i]? = some (some d)→m[i]? = some .ow→∃ a,st[i]? = some (some (V.ref a))∧Own X.K G H a d∧g.h0 a = none
  bw : ∀ (i : Nat) d,r[i]? = some (some d)→m[i]? = some .bw→∃ v,st[i]? = some (some v)∧Bw X.K g.h0 G H v d
  dis : ∀ (i j : Nat) a d e,i≠j→r[i]? = some (some d)→r[j]? = some (some e)→m[i]? = some .ow→m[j]? = some .ow→st[i]? = some (some (V.ref a))→st[j]? = some (some (V.ref a))→False
  lk : ∀ (i : Nat) o,g.hd i = some o→m[i]? = some .bw→Lk r st i o
section
variable {X : Cx} {g : GE} {m : List Md} {r : Rho} {G G' : GH} {st : L2.St} {H H' : Hp}
theorem SI.grow (s : SI X g m r G st H) (w : Grow X.K G H G' H') : SI X g m r G' st H' where
  gok := w.ok
  old := fun a o e => w.he _ _ (s.old a o e)
  ge := fun a d e => w.ge _ _ (s.ge a d e)
  gf := fun a h => by
    have h1 : H a≠none := by
      cases e : g.h0 a with
      | none => exact absurd e h
      | some o => rw [s.old _ _ e]; simp
    rw [w.gf a h1,s.gf a h]
  lm := s.lm
  lr := s.lr
  sh := fun i d h1 h2 => by obtain ⟨v,h3,h4⟩ := s.sh i d h1 h2; exact ⟨v,h3,h4.mono w.ge⟩
  ow := fun i d h1 h2 => by obtain ⟨a,h3,h4,h5⟩ := s.ow i d h1 h2; exact ⟨a,h3,h4.mono w,h5⟩
  bw := fun i d h1 h2 => by obtain ⟨v,h3,h4⟩ := s.bw i d h1 h2; exact ⟨v,h3,h4.grow w⟩
  dis := s.dis
  lk := s.lk
theorem SI.grown (s : SI X g m r G st H) : Grow X.K g.gh g.h0 G H := ⟨s.gok,s.old,s.ge,s.gf⟩
theorem SI.frz (s : SI X g m r G st H) (i : Nat) (hi : m[i]? = some .ow) : (∃ G',(∀ a d,G a = some d→G' a = some d)∧SI X g (m.set i .sh) r G' st H)∨∃ a,∀ ob,∃ G',(∀ a d,G a = some d→G' a = some d)∧SI X g (m.set i .sh) r G' st (fz H a ob) := by
  have hlt : i < m.length := (List.getElem?_eq_some_iff.mp hi).1
  by_cases hb : ∃ d,r[i]? = some (some d)
  · obtain ⟨d,hd⟩ := hb
    obtain ⟨a,h1,h2,h3⟩ := s.ow i d hd hi
    refine .inr ⟨a,fun ob => ⟨gset G a d,zaA h2.un,(s.gok.fast h2.un ob).gset h2.un (h2.ob.fast ob),fun b o e => by rw [zfa (by rintro rfl; rw [h3] at e; cases e)]; exact s.old b o e,fun b e h => zaA h2.un b e (s.ge b e h),fun b h => ?_,by simpa using s.lm,s.lr,?_,?_,?_,?_,fun j o hj hm => ?_⟩⟩
    · rw [zax (by rintro rfl; exact h h3)]; exact s.gf b h
    · intro j e hj hm
      by_cases hij : i = j
      · subst hij
        rw [hd] at hj; cases hj
        exact ⟨_,h1,.ref zar⟩
      · rw [List.getElem?_set_ne hij] at hm
        obtain ⟨v,q1,q2⟩ := s.sh j e hj hm
        exact ⟨v,q1,q2.mono (zaA h2.un)⟩
    · intro j e hj hm
      by_cases hij : i = j
      · subst hij
        rw [List.getElem?_set_self hlt] at hm; cases hm
      · rw [List.getElem?_set_ne hij] at hm
        obtain ⟨b,q1,q2,q3⟩ := s.ow j e hj hm
        have hba : b≠a := by
          rintro rfl
          exact s.dis i j b d e hij hd hj hi hm h1 q1
        exact ⟨b,q1,⟨by rw [zax hba]; exact q2.un,q2.ob.mono (zaA h2.un) fun _ z => by rw [zfa hba]; exact z⟩,q3⟩
    · intro j e hj hm
      by_cases hij : i = j
      · subst hij
        rw [List.getElem?_set_self hlt] at hm; cases hm
      · rw [List.getElem?_set_ne hij] at hm
        obtain ⟨v,q1,q2⟩ := s.bw j e hj hm
        refine ⟨v,q1,?_⟩
        rcases q2 with q2 | ⟨b,rfl,q2,q3⟩
        · exact .inl (q2.mono (zaA h2.un))
        · have hba : b≠a := by rintro rfl; exact q3 h3
          exact .inr ⟨b,rfl,⟨by rw [zax hba]; exact q2.un,q2.ob.mono (zaA h2.un) fun _ z => by rw [zfa hba]; exact z⟩,q3⟩
    · intro j k b e e' hjk hj hk hm hm' q1 q2
      have hij : i≠j := by
        rintro rfl
        rw [List.getElem?_set_self hlt] at hm; cases hm
      have hik : i≠k := by
        rintro rfl
        rw [List.getElem?_set_self hlt] at hm'; cases hm'
      rw [List.getElem?_set_ne hij] at hm
      rw [List.getElem?_set_ne hik] at hm'
      exact s.dis j k b e e' hjk hj hk hm hm' q1 q2
    · refine s.lk j o hj ?_
      by_cases hij : i = j
      · subst hij; rw [List.getElem?_set_self hlt] at hm; cases hm
      · rw [List.getElem?_set_ne hij] at hm; exact hm
  · refine .inl ⟨G,fun _ _ z => z,s.gok,s.old,s.ge,s.gf,by simpa using s.lm,s.lr,?_,?_,?_,?_,fun j o hj hm => ?_⟩
    · intro j e hj hm
      have hij : i≠j := by rintro rfl; exact hb ⟨e,hj⟩
      rw [List.getElem?_set_ne hij] at hm
      exact s.sh j e hj hm
    · intro j e hj hm
      have hij : i≠j := by rintro rfl; exact hb ⟨e,hj⟩
      rw [List.getElem?_set_ne hij] at hm
      exact s.ow j e hj hm
    · intro j e hj hm
      have hij : i≠j := by rintro rfl; exact hb ⟨e,hj⟩
      rw [List.getElem?_set_ne hij] at hm
      exact s.bw j e hj hm
    · intro j k b e e' hjk hj hk hm hm' q1 q2
      have hij : i≠j := by rintro rfl; exact hb ⟨e,hj⟩
      have hik : i≠k := by rintro rfl; exact hb ⟨e',hk⟩
      rw [List.getElem?_set_ne hij] at hm
      rw [List.getElem?_set_ne hik] at hm'
      exact s.dis j k b e e' hjk hj hk hm hm' q1 q2
    · refine s.lk j o hj ?_
      by_cases hij : i = j
      · subst hij; rw [List.getElem?_set_self hlt] at hm; cases hm
      · rw [List.getElem?_set_ne hij] at hm; exact hm
end
end DL
end
section
namespace DL
open PySem PySem.Spec PyProof.Rows L2
theorem PE.imp {X : Cx} {e : Expr} {t t' : TE} (h : PE X e t) (i : ∀ σ H Q,t' σ H Q→t σ H Q) : PE X e t' := fun pins s σ H Q I q => h pins s σ H Q I (i σ H Q q)
theorem PT.imp {X : Cx} {e : Expr} {t t' : TT} (h : PT X e t) (i : ∀ σ H Q,t' σ H Q→t σ H Q) : PT X e t' := fun pins s σ H Q I q => h pins s σ H Q I (i σ H Q q)
theorem PW.imp {X : Cx} {e : Expr} {t t' : TT} (h : PW X e t) (i : ∀ σ H Q,t' σ H Q→t σ H Q) : PW X e t' := fun whole pins s σ H Q I q => h whole pins s σ H Q I (i σ H Q q)
theorem PA.imp {X : Cx} {e : List Expr} {t t' : TA} (h : PA X e t) (i : ∀ σ H Q,t' σ H Q→t σ H Q) : PA X e t' := fun pos pins s σ H Q I q => h pos pins s σ H Q I (i σ H Q q)
theorem PS.imp {X : Cx} {e : Stmt} {t t' : TS} (h : PS X e t) (i : ∀ D σ H,t' D σ H→t D σ H) : PS X e t' := fun pins s σ H D I q => h pins s σ H D I (i D σ H q)
theorem PSs.imp {X : Cx} {e : List Stmt} {t t' : TS} (h : PSs X e t) (i : ∀ D σ H,t' D σ H→t D σ H) : PSs X e t' := fun pins s σ H D I q => h pins s σ H D I (i D σ H q)
noncomputable def ExV (X : Cx) (σ : L2.St) (G : GH) (H' : Hp) (e : Value) (x : D) (s' : Shared) : Prop :=
  ∃ pins s H1 a C od nm ds,e = .ref a∧x = xD nm ds∧XN X.K nm C∧XF G od ds∧Inv X pins σ H1 s∧Fly X.prog X.w X.stack H1 s H' a (.ref C) od s'
noncomputable def XW (X : Cx) (σ : L2.St) (G : GH) (H : Hp) (x : D) : Prop := ∀ pins e s' G' H',Grow X.K G H G' H'→Inv X pins σ H' s'→ExV X σ G' H' e x s'→X.xe e s'
theorem XW.grow {X : Cx} {σ : L2.St} {G G1 : GH} {H H1 : Hp} {x : D} (h : XW X σ G H x) (w : Grow X.K G H G1 H1) : XW X σ G1 H1 x := fun pins e s' G' H' w' I q => h pins e s' G' H' (w.trans w') I q
noncomputable abbrev FE := Rho→Res D
noncomputable def tE (X : Cx) (g : GE) (m : List Md) (f : FE) : TE := fun σ H Q => ∃ r G,SI X g m r G σ H∧fin (f r) (fun d => ∀ v G' H',Grow X.K G H G' H'→RG X.K G' v d→Q v H') (XW X σ G H)
noncomputable def tB (X : Cx) (g : GE) (m : List Md) (f : FE) : TE := fun σ H Q => ∃ r G,SI X g m r G σ H∧fin (f r) (fun d => ∀ v G' H',Grow X.K G H G' H'→RB X.K G' H' v d→Q v H') (XW X σ G H)
noncomputable def tO (X : Cx) (g : GE) (m : List Md) (f : FE) : TE := fun σ H Q => ∃ r G,SI X g m r G σ H∧fin (f r) (fun d => ∀ a G' H',Grow X.K G H G' H'→H a = none→Own X.K G' H' a d→Q (.ref a) H') (XW X σ G H)
noncomputable def tQ (X : Cx) (g : GE) (m : List Md) (f : Rho→Res Bool) : TT := fun σ H Q => ∃ r G,SI X g m r G σ H∧fin (f r) (fun b => ∀ G' H',Grow X.K G H G' H'→Q b H') (XW X σ G H)
noncomputable def tL (X : Cx) (g : GE) (m : List Md) (f : Rho→Res (List D)) : TA := fun σ H Q => ∃ r G,SI X g m r G σ H∧fin (f r) (fun ds => ∀ vs G' H',Grow X.K G H G' H'→RGs X.K G' vs ds→Q vs H') (XW X σ G H)
noncomputable def tLB (X : Cx) (g : GE) (m : List Md) (f : Rho→Res (List D)) : TA := fun σ H Q => ∃ r G,SI X g m r G σ H∧fin (f r) (fun ds => ∀ vs G' H',Grow X.K G H G' H'→Paired (RB X.K G' H') vs ds→Q vs H') (XW X σ G H)
noncomputable def SE (X : Cx) (g : GE) (m : List Md) (e : Expr) (f : FE) : Prop := PE X e (tE X g m f)
noncomputable def SB (X : Cx) (g : GE) (m : List Md) (e : Expr) (f : FE) : Prop := PE X e (tB X g m f)
noncomputable def SO (X : Cx) (g : GE) (m : List Md) (e : Expr) (f : FE) : Prop := PE X e (tO X g m f)
noncomputable def SQ (X : Cx) (g : GE) (m : List Md) (e : Expr) (f : Rho→Res Bool) : Prop := PT X e (tQ X g m f)
noncomputable def SW (X : Cx) (g : GE) (m : List Md) (e : Expr) (f : Rho→Res Bool) : Prop := PW X e (tQ X g m f)
noncomputable def SA (X : Cx) (g : GE) (m : List Md) (es : List Expr) (f : Rho→Res (List D)) : Prop := PA X es (tL X g m f)
noncomputable def SAB (X : Cx) (g : GE) (m : List Md) (es : List Expr) (f : Rho→Res (List D)) : Prop := PA X es (tLB X g m f)
section
variable {X : Cx} {g : GE} {m : List Md} {e a b c : Expr} {f fa fb fc : FE} {pos : Pos}
theorem SE.toB (h : SE X g m e f) : SB X g m e f := PE.imp h fun σ H Q ⟨r,G,si,q⟩ => ⟨r,G,si,zaf q fun d k v G' H' w z => k v G' H' w z.rb⟩
theorem Inv.fast {pins : List (Addr × Obj)} {σ : L2.St} {H : Hp} {s : Shared} (I : Inv X pins σ H s) (a : Addr) : ∃ ob,Inv X pins σ (fz H a ob) s := by
  cases e : H a with
  | none => exact ⟨{ cls := .none,data := .fields #[] },by unfold fz; rw [e]; exact I⟩
  | some u =>
    cases u with
    | dK ps =>
      obtain ⟨z1,z2,vs,z3,o,es,ep,z4,z5⟩ := (show zbo X.prog X.w H s.heap a (.dK ps) from I.hok a _ e)
      have ef : fz H a o = upd H a (.frz o (.dK ps)) := by unfold fz; rw [e]
      refine ⟨o,?_⟩
      rw [ef]
      exact I.write (t' := s.toks) (h' := s.heap) (x := a) (e := a) (by rw [e]; exact trivial) (.inl rfl) (fun b u _ q => q) ⟨o,z4⟩ (show zbo X.prog X.w _ s.heap a (.frz o (.dK ps)) from ⟨z4,z1,z2,vs,z3,o,es,ep,z4,z5⟩)
    | _ => exact ⟨{ cls := .none,data := .fields #[] },by unfold fz; rw [e]; exact I⟩
theorem SO.toE (h : SO X g m e f) : SE X g m e f := by
  intro pins s σ H Q I ⟨r,G,si,q⟩
  refine thn (h pins s σ H (fun v H' => ∃ a,v = .ref a∧∀ ob,Q v (fz H' a ob)) I ⟨r,G,si,zaf q fun d k a G' H' w hn o => ⟨a,rfl,fun ob => k _ _ _ (w.frz hn o ob) (.ref zar)⟩⟩) fun u s' ⟨v,H',I',rv,a,_,z⟩ => ?_
  obtain ⟨ob,I2⟩ := Inv.fast I' a
  exact ⟨v,_,I2,rv,z ob⟩
theorem SO.toB (h : SO X g m e f) : SB X g m e f := h.toE.toB
theorem SE.eq {f' : FE} (h : SE X g m e f) (q : ∀ r,f' r = f r) : SE X g m e f' := by
  have : f' = f := funext q
  rw [this]; exact h
theorem zc2 {v : V} {d : D} (h : PE X e (tC v)) (s : Scl v d) : SE X g m e fun _ => .ok d :=
  PE.imp h fun σ H Q ⟨r,G,si,q⟩ => q v G H (Grow.refl si.gok) (.scl s)
theorem zag {i : Int} {j} : SE X g m (.Constant (.int i) j pos) fun _ => .ok (.int i) := zc2 ziv (.int i)
theorem s_bl {i : Bool} {j} : SE X g m (.Constant (.bool i) j pos) fun _ => .ok (.bl i) := zc2 zjG (.bl i)
theorem zjw {j} : SE X g m (.Constant .none j pos) fun _ => .ok .non := zc2 zit .non
theorem zjv {i : Str} {j} : SE X g m (.Constant (.str i) j pos) fun _ => .ok (.str i) := zc2 ziq (.str i)
noncomputable def getV (r : Rho) (i : Nat) : Res D := match r[i]? with
  | some (some d) => .ok d
  | _ => .stuck
theorem zd7 {r : Rho} {i : Nat} {q : D→Prop} {x : D→Prop} (h : fin (getV r i) q x) : ∃ d,r[i]? = some (some d)∧q d := by
  unfold getV at h
  split at h
  · rename_i d e; exact ⟨d,e,h⟩
  · exact h.elim
theorem zjt (i : Nat) {x : Str} (hm : m[i]? = some .sh) (hN : X.N[i]? = some x) (hv : Vis X.env.scope x) (hd : (x == ("__debug__" : Str)) = false := by decide) (hcd : (x == ("__classdict__" : Str)) = false := by decide) :
    SE X g m (.Name x pos) fun r => getV r i := by
  refine PE.imp (zgE hN hv hd hcd) fun σ H Q ⟨r,G,si,q⟩ => ?_
  obtain ⟨d,e,k⟩ := zd7 q
  obtain ⟨v,e1,e2⟩ := si.sh i d e hm
  exact ⟨v,e1,k v G H (Grow.refl si.gok) e2⟩
theorem zh0 (i : Nat) {x : Str} (hm : i < m.length) (hN : X.N[i]? = some x) (hv : Vis X.env.scope x) (hd : (x == ("__debug__" : Str)) = false := by decide) (hcd : (x == ("__classdict__" : Str)) = false := by decide) :
    SB X g m (.Name x pos) fun r => getV r i := by
  refine PE.imp (zgE hN hv hd hcd) fun σ H Q ⟨r,G,si,q⟩ => ?_
  obtain ⟨d,e,k⟩ := zd7 q
  have hm' : m[i]? = some m[i] := List.getElem?_eq_getElem hm
  cases h : m[i] with
  | sh =>
    obtain ⟨v,e1,e2⟩ := si.sh i d e (hm'.trans (by rw [h]))
    exact ⟨v,e1,k v G H (Grow.refl si.gok) e2.rb⟩
  | ow =>
    obtain ⟨v,e1,e2,_⟩ := si.ow i d e (hm'.trans (by rw [h]))
    exact ⟨_,e1,k _ G H (Grow.refl si.gok) (.inr ⟨v,rfl,e2⟩)⟩
  | bw =>
    obtain ⟨v,e1,e2⟩ := si.bw i d e (hm'.trans (by rw [h]))
    exact ⟨_,e1,k _ G H (Grow.refl si.gok) e2.rb⟩
theorem seq2 {β : Type} {k : D→D→Res β} {q : β→Prop} {R : V→V→Hp→Prop} {r : Rho} {G : GH} {σ : L2.St} {H : Hp} (si : SI X g m r G σ H)
    (h : fin ((fa r).bind fun d1 => (fb r).bind fun d2 => k d1 d2) q (XW X σ G H))
    (hk : ∀ d1 d2 v1 v2 G2 H2,Grow X.K G H G2 H2→RB X.K G2 H2 v1 d1→RB X.K G2 H2 v2 d2→fin (k d1 d2) q (XW X σ G H)→R v1 v2 H2) :
    tB X g m fa σ H fun v1 H1 => tB X g m fb σ H1 fun v2 H2 => R v1 v2 H2 := by
  refine ⟨r,G,si,zaf (zai h) fun d1 h1 v1 G1 H1 w1 r1 => ⟨r,G1,si.grow w1,?_⟩⟩
  cases e : fb r with
  | ok d2 =>
    rw [e] at h1
    exact fun v2 G2 H2 w2 r2 => hk d1 d2 v1 v2 G2 H2 (w1.trans w2) (r1.mono w2) r2 h1
  | exc x =>
    rw [e] at h1
    exact (show XW X σ G H x from h1).grow w1
  | stuck =>
    rw [e] at h1
    exact h1
noncomputable def opt {α : Type} : Option α→Res α
  | some a => .ok a
  | none => .stuck
@[simp] theorem opt_some {α : Type} (a : α) : opt (some a) = .ok a := rfl
@[simp] theorem opt_none {α : Type} : opt (none : Option α) = .stuck := rfl
theorem zaN {α : Type} {o : Option α} {q : α→Prop} {x : D→Prop} (h : fin (opt o) q x) : ∃ a,o = some a∧q a := by
  cases o with
  | none => exact h.elim
  | some a => exact ⟨a,rfl,h⟩
noncomputable def OpD (K : PySem.W.Frag) (r : R2) (k : D→D→Option D) : Prop := ∀ (G : GH) (H : Hp) (v1 v2 : V) (d1 d2 d : D) (Q : VK),GOk K G H→RB K G H v1 d1→RB K G H v2 d2→k d1 d2 = some d →
  (∀ v G' H',Grow K G H G' H'→RG K G' v d→Q v H')→r v1 v2 H Q
noncomputable def f2 (fa fb : FE) (k : D→D→Option D) : FE := fun r => (fa r).bind fun d1 => (fb r).bind fun d2 => opt (k d1 d2)
theorem zgW {R : R2} {k : D→D→Option D} (ho : OpD X.K R k) (h : PE X e (tOp R (tB X g m fa) (tB X g m fb))) : SE X g m e (f2 fa fb k) := by
  refine PE.imp h fun σ H Q ⟨r,G,si,q⟩ => ?_
  refine seq2 si q fun d1 d2 v1 v2 G2 H2 w r1 r2 q2 => ?_
  obtain ⟨d,e,q2⟩ := zaN q2
  exact ho G2 H2 v1 v2 d1 d2 d Q w.ok r1 r2 e fun v G' H' w' z => q2 v G' H' (w.trans w') z
theorem zc3 {op : Operator} {R : R2} {k : D→D→Option D} (hr : OpR X (binaryOp op) R) (ho : OpD X.K R k) (ha : SB X g m a fa) (hb : SB X g m b fb) : SE X g m (.BinOp a op b pos) (f2 fa fb k) := zgW ho (zjE hr ha hb)
theorem zgZ {op : CmpOp} {R : R2} {k : D→D→Option D} (hr : OpR X (compareOp op) R) (ho : OpD X.K R k) (ha : SB X g m a fa) (hb : SB X g m b fb) (hm : behindInMarks op b = false) : SE X g m (.Compare a [op] [b] pos) (f2 fa fb k) := zgW ho (zhc hr ha hb hm)
noncomputable def asB : D→Option Bool
  | .bl b => some b
  | _ => none
noncomputable def za4 (f : FE) : Rho→Res Bool := fun r => (f r).bind fun d => opt (asB d)
theorem zfP {op : CmpOp} {R : R2} {k : D→D→Option D} (hr : OpR X (compareOp op) R) (ho : OpD X.K R k) (ha : SB X g m a fa) (hb : SB X g m b fb) (hm : behindInMarks op b = false) : SQ X g m (.Compare a [op] [b] pos) (za4 (f2 fa fb k)) := by
  refine PT.imp (zg6 hr ha hb hm) fun σ H Q ⟨r,G,si,q⟩ => ?_
  have e : za4 (f2 fa fb k) r = (fa r).bind fun d1 => (fb r).bind fun d2 => (opt (k d1 d2)).bind fun d => opt (asB d) := by
    unfold za4 f2
    cases fa r with
    | ok d1 => cases fb r <;> rfl
    | exc _ => rfl
    | stuck => rfl
  rw [e] at q
  refine seq2 (R := fun x y H2 => R x y H2 fun x H' => ∃ k,x = V.bl k∧Q k H') si q fun d1 d2 v1 v2 G2 H2 w r1 r2 q3 => ?_
  obtain ⟨d,e,q3⟩ := zaN (zai q3)
  obtain ⟨b,eb,q3⟩ := zaN q3
  cases d with
  | bl b' =>
    cases eb
    exact ho G2 H2 v1 v2 d1 d2 _ _ w.ok r1 r2 e fun v G' H' w' z => ⟨_,z.bl w'.ok,q3 G' H' (w.trans w')⟩
  | _ => cases eb
end
end DL
end
section
namespace DL
open PySem PySem.Spec PyProof.Rows L2
instance decMul (i j : Int) : Decidable (CMul i j) := by unfold CMul; infer_instance
instance decDiv (i j : Int) : Decidable (CDiv i j) := by unfold CDiv; infer_instance
instance decPow (i j : Int) : Decidable (CPow i j) := by unfold CPow; infer_instance
noncomputable def zep (k : Int→Int→D) : D→D→Option D
  | .int a,.int b => some (k a b)
  | _,_ => none
noncomputable def zcE (C : Int→Int→Prop) [∀ a b,Decidable (C a b)] (k : Int→Int→D) : D→D→Option D
  | .int a,.int b => if C a b then some (k a b) else none
  | _,_ => none
@[simp] theorem ints2_int (k : Int→Int→D) (a b : Int) : zep k (.int a) (.int b) = some (k a b) := rfl
@[simp] theorem intsC_int (C : Int→Int→Prop) [∀ a b,Decidable (C a b)] (k : Int→Int→D) (a b : Int) : zcE C k (.int a) (.int b) = if C a b then some (k a b) else none := rfl
section
variable {K : PySem.W.Frag}
theorem zcy {gv : Int→Int→V} {gd : Int→Int→D} (hs : ∀ i j,Scl (gv i j) (gd i j)) : OpD K (rI0 gv) (zep gd) := by
  intro G H v1 v2 d1 d2 d Q g r1 r2 e q
  unfold zep at e
  split at e
  · cases e
    exact ⟨_,_,r1.int g,r2.int g,q _ G H (Grow.refl g) (.scl (hs _ _))⟩
  · cases e
theorem zbE {C : Int→Int→Prop} [∀ a b,Decidable (C a b)] {gv : Int→Int→V} {gd : Int→Int→D} (hs : ∀ i j,Scl (gv i j) (gd i j)) : OpD K (rI C gv) (zcE C gd) := by
  intro G H v1 v2 d1 d2 d Q g r1 r2 e q
  unfold zcE at e
  split at e
  · split at e
    · rename_i hc
      cases e
      exact ⟨_,_,r1.int g,r2.int g,hc,q _ G H (Grow.refl g) (.scl (hs _ _))⟩
    · cases e
  · cases e
end
noncomputable abbrev subI : D→D→Option D := zep fun a b => .int (a - b)
noncomputable abbrev mulI : D→D→Option D := zcE CMul fun a b => .int (a * b)
noncomputable abbrev zeq : D→D→Option D := zcE CDiv fun a b => .int (a / b)
noncomputable abbrev modI : D→D→Option D := zcE (fun _ b => 0 < b) fun a b => .int (a % b)
noncomputable abbrev powI : D→D→Option D := zcE CPow fun a b => .int (a ^ b.toNat)
noncomputable abbrev ltI : D→D→Option D := zep fun a b => .bl (decide (a < b))
noncomputable abbrev gtI : D→D→Option D := zep fun a b => .bl (decide (b < a))
section
variable {X : Cx} {g : GE} {m : List Md} {e a b c : Expr} {f fa fb fc : FE} {pos : Pos}
theorem zfL (ha : SB X g m a fa) (hb : SB X g m b fb) : SE X g m (.BinOp a .Sub b pos) (f2 fa fb subI) := zc3 zix (zcy fun _ _ => .int _) ha hb
theorem zdj (ha : SB X g m a fa) (hb : SB X g m b fb) : SE X g m (.BinOp a .Mult b pos) (f2 fa fb mulI) := zc3 ziz (zbE fun _ _ => .int _) ha hb
theorem zgz (ha : SB X g m a fa) (hb : SB X g m b fb) : SE X g m (.BinOp a .FloorDiv b pos) (f2 fa fb zeq) := zc3 zhg (zbE fun _ _ => .int _) ha hb
theorem zcn (ha : SB X g m a fa) (hb : SB X g m b fb) : SE X g m (.BinOp a .Mod b pos) (f2 fa fb modI) := zc3 ziA (zbE fun _ _ => .int _) ha hb
theorem zfM (ha : SB X g m a fa) (hb : SB X g m b fb) : SE X g m (.BinOp a .Pow b pos) (f2 fa fb powI) := zc3 ziy (zbE fun _ _ => .int _) ha hb
theorem s_lt (ha : SB X g m a fa) (hb : SB X g m b fb) : SE X g m (.Compare a [.Lt] [b] pos) (f2 fa fb ltI) := zgZ ziB (zcy fun _ _ => .bl _) ha hb (zcz _)
theorem s_gt (ha : SB X g m a fa) (hb : SB X g m b fb) : SE X g m (.Compare a [.Gt] [b] pos) (f2 fa fb gtI) := zgZ ziC (zcy fun _ _ => .bl _) ha hb (zcz _)
theorem q_lt (ha : SB X g m a fa) (hb : SB X g m b fb) : SQ X g m (.Compare a [.Lt] [b] pos) (za4 (f2 fa fb ltI)) := zfP ziB (zcy fun _ _ => .bl _) ha hb (zcz _)
theorem q_gt (ha : SB X g m a fa) (hb : SB X g m b fb) : SQ X g m (.Compare a [.Gt] [b] pos) (za4 (f2 fa fb gtI)) := zfP ziC (zcy fun _ _ => .bl _) ha hb (zcz _)
noncomputable def f1 (fa : FE) (k : D→Option D) : FE := fun r => (fa r).bind fun d => opt (k d)
noncomputable def negI : D→Option D
  | .int a => some (.int (-a))
  | _ => none
@[simp] theorem negI_int (a : Int) : negI (.int a) = some (.int (-a)) := rfl
theorem zh2 (ha : SB X g m a fa) : SE X g m (.UnaryOp .USub a pos) (f1 fa negI) := by
  refine PE.imp (zjD zhS ha) fun σ H Q ⟨r,G,si,q⟩ => ⟨r,G,si,zaf (zai q) fun d q1 v G1 H1 w1 r1 => ?_⟩
  obtain ⟨d',e,q2⟩ := zaN q1
  cases d with
  | int i =>
    cases e
    exact ⟨i,r1.int w1.ok,q2 _ G1 H1 w1 (.scl (.int _))⟩
  | _ => cases e
noncomputable def truD : D→Option Bool
  | .non => some false
  | .bl b => some b
  | .int i => some (i != 0)
  | .str y => if y.length≤sizeLine then some ((y.length : Int) != 0) else none
  | .lst ds => some (! ds.isEmpty)
  | .tup ds => some (! ds.isEmpty)
  | .dic kvs => some (! kvs.isEmpty)
  | .obj _ _ => none
theorem zcC {α β : Type} {F : α→β→Prop} {l : List α} {r : List β} (h : Paired F l r) : l.isEmpty = r.isEmpty := by cases h <;> rfl
theorem zgR {K : PySem.W.Frag} {G : GH} {H : Hp} {v : V} {d : D} {b : Bool} (gk : GOk K G H) (h : RB K G H v d) (e : truD d = some b) : TruV K v H b := by
  cases d with
  | non => cases e; rw [h.non gk]; rfl
  | bl b' => cases e; rw [h.bl gk]; rfl
  | int i => cases e; rw [h.int gk]; rfl
  | str y =>
    rw [h.str gk]
    have e' : (if y.length≤sizeLine then some ((y.length : Int) != 0) else none) = some b := e
    by_cases hy : y.length≤sizeLine
    · rw [if_pos hy] at e'; cases e'; exact ⟨hy,rfl⟩
    · rw [if_neg hy] at e'; cases e'
  | lst ds =>
    cases e
    obtain ⟨a,xs,rfl,s,r⟩ := h.lst gk
    exact .inl ⟨xs,s,by rw [zcC r]⟩
  | tup ds =>
    cases e
    obtain ⟨a,xs,rfl,s,r⟩ := h.tup gk
    exact .inr (.inl ⟨xs,s,by rw [zcC r]⟩)
  | dic kvs =>
    cases e
    obtain ⟨a,xs,rfl,s,r⟩ := h.dic gk
    exact .inr (.inr ⟨xs,s,by rw [zcC r]⟩)
  | obj _ _ => cases e
noncomputable def fTru (f : FE) : Rho→Res Bool := fun r => (f r).bind fun d => opt (truD d)
theorem zco (ha : SB X g m a fa) (he : ∀ whole,isTrue a X.env whole = (do let v ← whole; standAt a.pos; holding [v] (truthy v)) := by intro _; rfl) : SQ X g m a (fTru fa) := by
  refine PT.imp (zfQ ha he) fun σ H Q ⟨r,G,si,q⟩ => ⟨r,G,si,zaf (zai q) fun d q1 v G1 H1 w1 r1 => ?_⟩
  obtain ⟨b,e,q2⟩ := zaN q1
  exact ⟨b,zgR w1.ok r1 e,q2 G1 H1 w1⟩
noncomputable abbrev FQ := Rho→Res Bool
noncomputable def fAnd (p q : FQ) : FQ := fun r => (p r).bind fun c => if c = true then q r else .ok false
noncomputable def fOr (p q : FQ) : FQ := fun r => (p r).bind fun c => if c = true then .ok true else q r
noncomputable def fNot (p : FQ) : FQ := fun r => (p r).bind fun c => .ok (! c)
variable {p q : FQ} {rest : List Expr}
theorem zjV {α : Type} {r : Res α} {q : α→Prop} {x x' : D→Prop} (h : fin r q x) (hx : ∀ e,x e→x' e) : fin r q x' := by
  cases r with
  | ok a => exact h
  | exc e => exact hx e h
  | stuck => exact h
theorem zbl {α : Type} {r : Res α} {σ : L2.St} {G G1 : GH} {H H1 : Hp} {P P' : α→Prop} (h : fin r P (XW X σ G H)) (w : Grow X.K G H G1 H1) (hp : ∀ a,P a→P' a) : fin r P' (XW X σ G1 H1) := zjV (zaf h hp) fun _ x => x.grow w
theorem zif (ha : SQ X g m a p) : SW X g m (.BoolOp .And [a] pos) p := zg5 ha
theorem zeL (ha : SQ X g m a p) : SW X g m (.BoolOp .Or [a] pos) p := zig ha
theorem zjz (ha : SQ X g m a p) (hb : SW X g m (.BoolOp .And (b::rest) pos) q) : SW X g m (.BoolOp .And (a::b::rest) pos) (fAnd p q) := by
  refine PW.imp (zih ha hb) fun σ H Q ⟨r,G,si,k⟩ => ⟨r,G,si,zaf (zai k) fun c k1 G1 H1 w1 => ?_⟩
  cases c with
  | true => rw [if_pos rfl] at k1 ⊢; exact ⟨r,G1,si.grow w1,zbl k1 w1 fun b z G' H' w' => z G' H' (w1.trans w')⟩
  | false => rw [if_neg Bool.false_ne_true] at k1 ⊢; exact k1 G1 H1 w1
theorem q_or (ha : SQ X g m a p) (hb : SW X g m (.BoolOp .Or (b::rest) pos) q) : SW X g m (.BoolOp .Or (a::b::rest) pos) (fOr p q) := by
  refine PW.imp (zjA ha hb) fun σ H Q ⟨r,G,si,k⟩ => ⟨r,G,si,zaf (zai k) fun c k1 G1 H1 w1 => ?_⟩
  cases c with
  | true => rw [if_pos rfl] at k1 ⊢; exact k1 G1 H1 w1
  | false => rw [if_neg Bool.false_ne_true] at k1 ⊢; exact ⟨r,G1,si.grow w1,zbl k1 w1 fun b z G' H' w' => z G' H' (w1.trans w')⟩
theorem SW.toQ (h : SW X g m e p) : SQ X g m e p := PW.pt h
theorem zcx (ha : SQ X g m a p) : SQ X g m (.UnaryOp .Not a pos) (fNot p) :=
  PT.imp (zii ha) fun σ H Q ⟨r,G,si,k⟩ => ⟨r,G,si,zaf (zai k) fun c k1 G1 H1 w1 => k1 G1 H1 w1⟩
noncomputable def vAnd (fa fb : FE) : FE := fun r => (fa r).bind fun d => (opt (asB d)).bind fun c => if c = true then fb r else .ok (.bl false)
noncomputable def vOr (fa fb : FE) : FE := fun r => (fa r).bind fun d => (opt (asB d)).bind fun c => if c = true then .ok (.bl true) else fb r
noncomputable def vNot (fa : FE) : FE := fun r => (fa r).bind fun d => (opt (asB d)).bind fun c => .ok (.bl (! c))
theorem zeI {op} (h : SE X g m a fa) : SE X g m (.BoolOp op [a] pos) fa := zir h
theorem zek (ha : SE X g m a fa) (hb : SE X g m (.BoolOp .And (b::rest) pos) fb) : SE X g m (.BoolOp .And (a::b::rest) pos) (vAnd fa fb) := by
  refine PE.imp (ziw ha hb) fun σ H Q ⟨r,G,si,k⟩ => ⟨r,G,si,zaf (zai k) fun d k1 v G1 H1 w1 r1 => ?_⟩
  obtain ⟨c,e,k2⟩ := zaN (zai k1)
  cases d with
  | bl c' =>
    cases e
    refine ⟨_,r1.bl w1.ok,?_⟩
    cases c with
    | true => rw [if_pos rfl] at k2 ⊢; exact ⟨r,G1,si.grow w1,zbl k2 w1 fun b z v G' H' w' => z v G' H' (w1.trans w')⟩
    | false => rw [if_neg Bool.false_ne_true] at k2 ⊢; exact k2 _ G1 H1 w1 (.scl (.bl _))
  | _ => cases e
theorem zh1 (ha : SE X g m a fa) : SE X g m (.UnaryOp .Not a pos) (vNot fa) := by
  refine PE.imp (zis ha) fun σ H Q ⟨r,G,si,k⟩ => ⟨r,G,si,zaf (zai k) fun d k1 v G1 H1 w1 r1 => ?_⟩
  obtain ⟨c,e,k2⟩ := zaN (zai k1)
  cases d with
  | bl c' => cases e; exact ⟨_,r1.bl w1.ok,k2 _ G1 H1 w1 (.scl (.bl _))⟩
  | _ => cases e
noncomputable def fIf (p : FQ) (fa fb : FE) : FE := fun r => (p r).bind fun c => if c = true then fa r else fb r
variable {es : List Expr} {fl fr : Rho → Res (List D)}
noncomputable def lNil : Rho→Res (List D) := fun _ => .ok []
noncomputable def zad (fa : FE) (fl : Rho→Res (List D)) : Rho→Res (List D) := fun r => (fa r).bind fun d => (fl r).bind fun ds => .ok (d::ds)
theorem zcK : SA X g m [] lNil := PA.imp zdm fun σ H Q ⟨r,G,si,k⟩ => k [] G H (Grow.refl si.gok) .nil
theorem zaB (ha : SE X g m e fa) (hr : SA X g m es fl) (hs : starEach (e::es) X.env = (false,eval e X.env)::starEach es X.env := by rfl) : SA X g m (e::es) (zad fa fl) := by
  refine PA.imp (zbP ha hr hs) fun σ H Q ⟨r,G,si,k⟩ => ⟨r,G,si,zaf (zai k) fun d k1 v G1 H1 w1 r1 => ⟨r,G1,si.grow w1,?_⟩⟩
  exact zbl (zai k1) w1 fun ds z vs G2 H2 w2 r2 => z (v::vs) G2 H2 (w1.trans w2) (.cons (r1.mono w2.ge) r2)
theorem zet : SAB X g m [] lNil := PA.imp zdm fun σ H Q ⟨r,G,si,k⟩ => k [] G H (Grow.refl si.gok) .nil
theorem zcU (ha : SB X g m e fa) (hr : SAB X g m es fl) (hs : starEach (e::es) X.env = (false,eval e X.env)::starEach es X.env := by rfl) : SAB X g m (e::es) (zad fa fl) := by
  refine PA.imp (zbP ha hr hs) fun σ H Q ⟨r,G,si,k⟩ => ⟨r,G,si,zaf (zai k) fun d k1 v G1 H1 w1 r1 => ⟨r,G1,si.grow w1,?_⟩⟩
  exact zbl (zai k1) w1 fun ds z vs G2 H2 w2 r2 => z (v::vs) G2 H2 (w1.trans w2) (.cons (r1.mono w2) r2)
noncomputable def sz (ds : List D) : Option (List D) := if ds.length≤sizeLine then some ds else none
theorem zgS {ds ds' : List D} (h : sz ds = some ds') : ds' = ds∧ds.length≤sizeLine := by
  unfold sz at h; split at h
  · rename_i hl; cases h; exact ⟨rfl,hl⟩
  · cases h
theorem zjs {ds : List D} (h : ds.length≤sizeLine) : sz ds = some ds := if_pos h
noncomputable def mkT (fl : Rho→Res (List D)) : FE := fun r => (fl r).bind fun ds => (opt (sz ds)).bind fun ds => .ok (.tup ds)
noncomputable def mkL (fl : Rho→Res (List D)) : FE := fun r => (fl r).bind fun ds => (opt (sz ds)).bind fun ds => .ok (.lst ds)
theorem zeH {x1} (h : SA X g m es fl) : SE X g m (.Tuple es x1 pos) (mkT fl) := by
  refine PE.imp (zio h) fun σ H Q ⟨r,G,si,k⟩ => ⟨r,G,si,zaf (zai k) fun ds k1 vs G1 H1 w1 r1 => ?_⟩
  obtain ⟨ds',e,k2⟩ := zaN (zai k1)
  obtain ⟨rfl,hl⟩ := zgS e
  have hlen := Paired.length r1
  refine ⟨by omega,fun p hp => ?_⟩
  exact k2 _ _ _ (w1.trans (Grow.newF (d := .tup ds') w1.ok hp (.tup (.inl zaP) r1))) (.ref zar)
theorem zeS (h : SA X g m es fl) : SO X g m (.List es pos) (mkL fl) := by
  refine PE.imp (ziu h) fun σ H Q ⟨r,G,si,k⟩ => ⟨r,G,si,zaf (zai k) fun ds k1 vs G1 H1 w1 r1 => ?_⟩
  obtain ⟨ds',e,k2⟩ := zaN (zai k1)
  obtain ⟨rfl,hl⟩ := zgS e
  have hlen := Paired.length r1
  refine ⟨by omega,fun p hp => ?_⟩
  have hn : H p = none := by
    cases q : H p with
    | none => rfl
    | some o => rw [w1.he _ _ q] at hp; cases hp
  exact k2 p G1 _ (w1.trans (Grow.new w1.ok hp _)) hn ⟨w1.ok.isN hp,.lst zaP r1⟩
end
end DL
end
section
namespace DL
open PySem PySem.Spec PyProof.Rows L2
noncomputable def zgs (K : PySem.W.Frag) (r : List V→Hp→VK→Prop) (k : List D→Option D) : Prop := ∀ (G : GH) (H : Hp) (vs : List V) (ds : List D) (d : D) (Q : VK),GOk K G H→Paired (RB K G H) vs ds→k ds = some d →
  (∀ v G' H',Grow K G H G' H'→RG K G' v d→Q v H')→r vs H Q
noncomputable def fC (fl : Rho→Res (List D)) (k : List D→Option D) : FE := fun r => (fl r).bind fun ds => opt (k ds)
theorem Grow.back {K : PySem.W.Frag} {G G1 : GH} {H H1 : Hp} (w : Grow K G H G1 H1) {a : Addr} (hn : H1 a = none) : H a = none := by
  cases q : H a with
  | none => rfl
  | some o => rw [w.he _ _ q] at hn; cases hn
section
variable {X : Cx} {g : GE} {m : List Md} {e a b c : Expr} {f fa fb fc : FE} {pos p p2 : Pos} {es : List Expr} {fl : Rho → Res (List D)} {x : Str} {id T : String} {R : List V → Hp → VK → Prop} {k : List D → Option D}
theorem s_cb (hk : zgs X.K R k) (h : PE X e (tCB R (tLB X g m fl))) : SE X g m e (fC fl k) := by
  refine PE.imp h fun σ H Q ⟨r,G,si,q⟩ => ⟨r,G,si,zaf (zai q) fun ds q1 vs G1 H1 w1 r1 => ?_⟩
  obtain ⟨d,e,q2⟩ := zaN q1
  exact hk G1 H1 vs ds d Q w1.ok r1 e fun v G' H' w' z => q2 v G' H' (w1.trans w') z
noncomputable def lenD : List D→Option D
  | [.str y] => if y.length≤sizeLine then some (.int y.length) else none
  | [.lst ds] => some (.int ds.length)
  | [.tup ds] => some (.int ds.length)
  | [.dic kvs] => some (.int kvs.length)
  | _ => none
theorem ziK {K : PySem.W.Frag} : zgs K (fun xs H Q => (∃ x n,xs = [x]∧LenV K x H n∧Q (.int n) H)∨∃ a kvs,xs = [V.ref a]∧Rd H a (.dK kvs)∧Q (.int kvs.length) H) lenD := by
  intro G H vs ds d Q gk rs e q
  unfold lenD at e
  split at e
  · split at e
    · cases e
      cases rs with
      | cons r t => cases t; exact .inl ⟨_,_,rfl,by rw [r.str gk]; exact ⟨by assumption,rfl⟩,q _ G H (Grow.refl gk) (.scl (.int _))⟩
    · cases e
  · cases e
    cases rs with
    | cons r t =>
      cases t
      obtain ⟨a,xs,rfl,s,r⟩ := r.lst gk
      have := Paired.length r
      exact .inl ⟨_,_,rfl,.inl ⟨xs,s,rfl⟩,q _ G H (Grow.refl gk) (.scl (by rw [this]; exact .int _))⟩
  · cases e
    cases rs with
    | cons r t =>
      cases t
      obtain ⟨a,xs,rfl,s,r⟩ := r.tup gk
      have := Paired.length r
      exact .inl ⟨_,_,rfl,.inr ⟨xs,s,rfl⟩,q _ G H (Grow.refl gk) (.scl (by rw [this]; exact .int _))⟩
  · cases e
    cases rs with
    | cons r t =>
      cases t
      obtain ⟨a,xs,rfl,s,r⟩ := r.dic gk
      have := Paired.length r
      exact .inr ⟨_,_,rfl,s,q _ G H (Grow.refl gk) (.scl (by rw [this]; exact .int _))⟩
  · cases e
theorem zgY (hg : Gl X "len") (hm : X.mg "len" = none) (ha : SAB X g m (e::es) fl) (he : starEach (e::es) X.env = (false,eval e X.env)::starEach es X.env := by rfl) (hpl : (backTo pos (starEach es X.env)).any (·.1) = false := by rfl) :
    SE X g m (.Call (.Name "len" p) (e::es) [] pos) (fC fl lenD) := s_cb ziK (zcd (zcp.or zgk zfq) hg hm PySem.boot_len ha (by decide) (by decide) he hpl)
noncomputable def ziJ : List D→Option D
  | [.lst ds] => some (.lst ds)
  | [.tup ds] => some (.lst ds)
  | _ => none
noncomputable def tupD : List D→Option D
  | [.lst ds] => some (.tup ds)
  | [.tup ds] => some (.tup ds)
  | _ => none
noncomputable def ixD : D→D→Option D
  | .lst ds,.int i => atI ds i
  | .tup ds,.int i => atI ds i
  | .str z,.int i => if z.length≤sizeLine then (atI z.cps.toList i).map fun c => .str ⟨#[c]⟩ else none
  | _,_ => none
theorem zjc {K : PySem.W.Frag} {G : GH} {xs : List V} {ds : List D} {i : Int} {d : D} (r : RGs K G xs ds) (h : atI ds i = some d) : ∃ v,atI xs i = some v∧RG K G v d := by
  unfold atI at h ⊢
  rw [Paired.length r]
  cases e : ixN ds.length i with
  | none => rw [e] at h; cases h
  | some j =>
    rw [e] at h
    exact Paired.get r h
theorem zhr {K : PySem.W.Frag} : OpD K (rIx K) ixD := by
  intro G H v1 v2 d1 d2 d Q gk r1 r2 e q
  unfold ixD at e
  split at e
  · obtain ⟨a,xs,rfl,s,r⟩ := r1.lst gk
    obtain ⟨v,ev,rv⟩ := zjc r e
    exact .inl ⟨a,xs,_,v,rfl,r2.int gk,s,ev,q v G H (Grow.refl gk) rv⟩
  · obtain ⟨a,xs,rfl,s,r⟩ := r1.tup gk
    obtain ⟨v,ev,rv⟩ := zjc r e
    exact .inr (.inl ⟨a,xs,_,v,rfl,r2.int gk,s,ev,q v G H (Grow.refl gk) rv⟩)
  · split at e
    · rename_i z i hz
      cases ec : atI z.cps.toList i with
      | none => rw [ec] at e; cases e
      | some c =>
        rw [ec] at e; cases e
        exact .inr (.inr ⟨z,i,c,r1.str gk,r2.int gk,hz,ec,q _ G H (Grow.refl gk) (.scl (.str _))⟩)
    · cases e
  · cases e
end
end DL
end
section
namespace DL
open PySem PySem.Spec PyProof.Rows L2
inductive Out where
  | nx (r : Rho) | rt (d : D) | bk (r : Rho) | ct (r : Rho) | exc (x : D) (r : Rho) | stuck
noncomputable abbrev FS := Rho→Out
noncomputable def Gle (G G' : GH) : Prop := ∀ a d,G a = some d→G' a = some d
theorem Gle.refl (G : GH) : Gle G G := fun _ _ e => e
theorem Gle.trans {G G1 G2 : GH} (a : Gle G G1) (b : Gle G1 G2) : Gle G G2 := fun x d e => b x d (a x d e)
noncomputable def forget (m : List Md) (r : Rho) : Rho := List.zipWith (fun md o => if md = Md.sh then o else none) m r
noncomputable def zaV (m : List Md) : List Md := m.map fun _ => Md.sh
theorem zbB {m : List Md} {r : Rho} {i : Nat} {d : D} (h : (forget m r)[i]? = some (some d)) : r[i]? = some (some d)∧m[i]? = some .sh := by
  unfold forget at h
  rw [List.getElem?_zipWith] at h
  cases e1 : m[i]? with
  | none => rw [e1] at h; cases h
  | some md =>
    cases e2 : r[i]? with
    | none => rw [e1,e2] at h; cases h
    | some o =>
      rw [e1,e2] at h
      have h' : (if md = Md.sh then o else none) = some d := Option.some.inj h
      split at h'
      · rename_i hm; subst hm; rw [h']; exact ⟨rfl,rfl⟩
      · cases h'
section
variable {X : Cx} {g : GE} {m : List Md} {r : Rho} {G : GH} {st : L2.St} {H : Hp}
theorem SI.forget (s : SI X g m r G st H) : SI X g (zaV m) (forget m r) G st H where
  gok := s.gok
  old := s.old
  ge := s.ge
  gf := s.gf
  lm := by rw [zaV,List.length_map]; exact s.lm
  lr := by rw [DL.forget,List.length_zipWith,s.lm,s.lr,Nat.min_self]
  sh := fun i d h _ => s.sh i d (zbB h).1 (zbB h).2
  ow := fun i d h hm => by rw [zaV,List.getElem?_map,(zbB h).2] at hm; cases hm
  bw := fun i d h hm => by rw [zaV,List.getElem?_map,(zbB h).2] at hm; cases hm
  dis := fun i j a d e _ h _ hm => by rw [zaV,List.getElem?_map,(zbB h).2] at hm; cases hm
  lk := fun i o _ hm => by rw [zaV,List.getElem?_map] at hm; cases q : m[i]? <;> rw [q] at hm <;> cases hm
theorem SI.set (s : SI X g m r G st H) (i : Nat) {v : V} {d : D} (hv : RG X.K G v d) : SI X g (m.set i .sh) (r.set i (some d)) G (st.set i (some v)) H where
  gok := s.gok
  old := s.old
  ge := s.ge
  gf := s.gf
  lm := by simp [s.lm]
  lr := by simp [s.lr]
  sh := fun j e h hm => by
    by_cases hij : i = j
    · subst hij
      have hl : i < r.length := by
        have := (List.getElem?_eq_some_iff.mp h).1
        simpa using this
      rw [List.getElem?_set_self hl] at h
      cases h
      exact ⟨v,by rw [List.getElem?_set_self (by rw [← s.lr]; exact hl)],hv⟩
    · rw [List.getElem?_set_ne hij] at h hm
      rw [List.getElem?_set_ne hij]
      exact s.sh j e h hm
  ow := fun j e h hm => by
    by_cases hij : i = j
    · subst hij
      have hl : i < m.length := by
        have := (List.getElem?_eq_some_iff.mp hm).1
        simpa using this
      rw [List.getElem?_set_self hl] at hm; cases hm
    · rw [List.getElem?_set_ne hij] at h hm
      rw [List.getElem?_set_ne hij]
      exact s.ow j e h hm
  bw := fun j e h hm => by
    by_cases hij : i = j
    · subst hij
      have hl : i < m.length := by
        have := (List.getElem?_eq_some_iff.mp hm).1
        simpa using this
      rw [List.getElem?_set_self hl] at hm; cases hm
    · rw [List.getElem?_set_ne hij] at h hm
      rw [List.getElem?_set_ne hij]
      exact s.bw j e h hm
  dis := fun j k a d1 d2 hjk h1 h2 hm hm' q1 q2 => by
    have hij : i≠j := by
      rintro rfl
      have hl : i < m.length := by
        have := (List.getElem?_eq_some_iff.mp hm).1
        simpa using this
      rw [List.getElem?_set_self hl] at hm; cases hm
    have hik : i≠k := by
      rintro rfl
      have hl : i < m.length := by
        have := (List.getElem?_eq_some_iff.mp h2).1
        rw [List.length_set,s.lr,← s.lm] at this; exact this
      rw [List.getElem?_set_self hl] at hm'; cases hm'
    rw [List.getElem?_set_ne hij] at h1 hm q1
    rw [List.getElem?_set_ne hik] at h2 hm' q2
    exact s.dis j k a d1 d2 hjk h1 h2 hm hm' q1 q2
  lk := fun j o hj hm => by
    have hij : i≠j := by
      rintro rfl
      have hl : i < m.length := by
        have := (List.getElem?_eq_some_iff.mp hm).1
        simpa using this
      rw [List.getElem?_set_self hl] at hm; cases hm
    rw [List.getElem?_set_ne hij] at hm
    have := s.lk j o hj hm
    exact ⟨by rw [List.getElem?_set_ne hij]; exact this.1,fun d h => this.2 d (by rw [List.getElem?_set_ne hij] at h; exact h)⟩
theorem SI.other (s : SI X g m r G st H) {p : Addr} (hp : G p = none) (h0 : g.h0 p = none) (hm : ∀ (i : Nat),m[i]?≠some Md.ow) (o : HO) : SI X g m r G st (upd H p o) where
  gok := fun b e h => (s.gok b e h).mono (fun _ _ z => z) fun o' q => by rw [zam (by rintro rfl; rw [hp] at h; cases h)]; exact q
  old := fun b o' h => by rw [zam (by rintro rfl; rw [h0] at h; cases h)]; exact s.old b o' h
  ge := s.ge
  gf := s.gf
  lm := s.lm
  lr := s.lr
  sh := s.sh
  ow := fun i d _ h => absurd h (hm i)
  bw := fun i d h1 h2 => by
    obtain ⟨v,h3,h4⟩ := s.bw i d h1 h2
    refine ⟨v,h3,?_⟩
    rcases h4 with h4 | ⟨a,rfl,h4,h5⟩
    · exact .inl h4
    · have ha : a≠p := by rintro rfl; exact h5 h0
      exact .inr ⟨a,rfl,⟨h4.un,h4.ob.mono (fun _ _ z => z) fun o' z => by rw [zam ha]; exact z⟩,h5⟩
  dis := fun i j a d e _ _ _ h => absurd h (hm i)
  lk := s.lk
theorem SI.less (s : SI X g m r G st H) {r' : Rho} (hl : r'.length = r.length) (h : ∀ (i : Nat) d,r'[i]? = some (some d)→r[i]? = some (some d)) : SI X g m r' G st H :=
  ⟨s.gok,s.old,s.ge,s.gf,s.lm,hl.trans s.lr,fun i d a b => s.sh i d (h i d a) b,fun i d a b => s.ow i d (h i d a) b,fun i d a b => s.bw i d (h i d a) b,fun i j a d e n p q x y => s.dis i j a d e n (h i d p) (h j e q) x y,fun i o hi hm => by
    have := s.lk i o hi hm
    exact ⟨this.1,fun d hd => this.2 d (h i d hd)⟩⟩
end
noncomputable def RV (ro : Bool) (K : PySem.W.Frag) (H0 : Hp) (G : GH) (H : Hp) (v : V) (d : D) : Prop := match ro with
  | false => RG K G v d
  | true => (∃ a,v = .ref a∧H0 a = none∧Own K G H a d)∨(d = .non∧v = .non)
noncomputable def oTo (X : Cx) (g : GE) (ro : Bool) (m' mb : List Md) (G : GH) (D : Ends) : Out→Prop
  | .nx r' => ∀ σ' G' H',Gle G G'→SI X g m' r' G' σ' H'→D.nx σ' H'
  | .rt d => ∀ v G' H',Grow X.K g.gh g.h0 G' H'→RV ro X.K g.h0 G' H' v d→D.rt v H'
  | .bk r' => ∀ σ' G' H',Gle G G'→SI X g mb r' G' σ' H'→D.bk σ' H'
  | .ct r' => ∀ σ' G' H',Gle G G'→SI X g mb r' G' σ' H'→D.ct σ' H'
  | .exc x r' => ∀ pins e s' σ' G' H',Gle G G'→SI X g (zaV m') r' G' σ' H'→Inv X pins σ' H' s'→ExV X σ' G' H' e x s'→X.xe e s'
  | .stuck => False
noncomputable def tS (X : Cx) (g : GE) (ro : Bool) (m m' mb : List Md) (f : FS) : TS := fun D σ H => ∃ r G,SI X g m r G σ H∧oTo X g ro m' mb G D (f r)
noncomputable def SS (X : Cx) (g : GE) (ro : Bool) (mb m : List Md) (st : Stmt) (f : FS) (m' : List Md) : Prop := m'.length = m.length∧PS X st (tS X g ro m m' mb f)
noncomputable def SSs (X : Cx) (g : GE) (ro : Bool) (mb m : List Md) (st : List Stmt) (f : FS) (m' : List Md) : Prop := m'.length = m.length∧PSs X st (tS X g ro m m' mb f)
theorem zcJ {m m' : List Md} (h : m'.length = m.length) : zaV m' = zaV m := by
  unfold zaV
  rw [List.map_const',List.map_const',h]
theorem oTo.x {X : Cx} {g : GE} {ro : Bool} {m m' mb : List Md} {r : Rho} {G : GH} {D : Ends} {σ : L2.St} {H : Hp} {x : DL.D} (h : oTo X g ro m' mb G D (.exc x (forget m r))) (si : SI X g m r G σ H) (hl : m'.length = m.length) : XW X σ G H x :=
  fun pins e s' G' H' w I ex => h pins e s' σ G' H' w.ge (by rw [zcJ hl]; exact (si.grow w).forget) I ex
section
variable {X : Cx} {g : GE} {ro : Bool} {m m' m1 mb : List Md} {e a b c tg : Expr} {f fa fb fc : FE} {p : FQ} {pos pos' : Pos} {st : Stmt} {sts sts' : List Stmt} {s1 s2 : FS}
theorem oTo.gle {G G1 : GH} {D : Ends} {o : Out} (h : oTo X g ro m' mb G D o) (w : Gle G G1) : oTo X g ro m' mb G1 D o := by
  cases o with
  | nx r' => exact fun σ' G' H' q si => h σ' G' H' (w.trans q) si
  | rt d => exact h
  | bk r' => exact fun σ' G' H' q si => h σ' G' H' (w.trans q) si
  | ct r' => exact fun σ' G' H' q si => h σ' G' H' (w.trans q) si
  | exc x r' => exact fun pins e s' σ' G' H' q => h pins e s' σ' G' H' (w.trans q)
  | stuck => exact h
noncomputable def seqF (s1 s2 : FS) : FS := fun r => match s1 r with
  | .nx r' => s2 r'
  | o => o
noncomputable def zak : FS := fun r => .nx r
theorem zah : SSs X g ro mb m [] zak m := ⟨rfl,PSs.imp zg7 fun D σ H ⟨r,G,si,q⟩ => q σ G H (Gle.refl G) si⟩
theorem zaa (h1 : SS X g ro mb m st s1 m1) (h2 : SSs X g ro mb m1 sts s2 m') : SSs X g ro mb m (st::sts) (seqF s1 s2) m' := by
  refine ⟨h2.1.trans h1.1,PSs.imp (zfR h1.2 h2.2) fun D σ H ⟨r,G,si,q⟩ => ⟨r,G,si,?_⟩⟩
  unfold seqF at q
  cases e : s1 r with
  | nx r' =>
    rw [e] at q
    exact fun σ' G' H' w si' => ⟨r',G',si',oTo.gle q w⟩
  | rt d => rw [e] at q; exact q
  | bk r' => rw [e] at q; exact q
  | ct r' => rw [e] at q; exact q
  | exc x r' => rw [e] at q; exact fun pins e s' σ' G' H' w si' => q pins e s' σ' G' H' w (by rw [zcJ h2.1]; exact si')
  | stuck => rw [e] at q; exact q
theorem zgX : SS X g ro mb m st (fun _ => .stuck) m := ⟨rfl,PS.imp zfT fun D σ H ⟨r,G,si,q⟩ => q⟩
noncomputable def onE {α : Type} (m : List Md) (r : Rho) (x : Res α) (k : α→Out) : Out := match x with
  | .ok a => k a
  | .exc e => .exc e (forget m r)
  | .stuck => .stuck
@[simp] theorem onE_ok {α : Type} (m : List Md) (r : Rho) (a : α) (k : α→Out) : onE m r (.ok a) k = k a := rfl
theorem zbF {α : Type} {x : Res α} {k : α→Out} {r : Rho} {G : GH} {D : Ends} {σ : L2.St} {H : Hp} (si : SI X g m r G σ H) (hl : m'.length = m.length) (h : oTo X g ro m' mb G D (onE m r x k)) : fin x (fun a => oTo X g ro m' mb G D (k a)) (XW X σ G H) := by
  cases x with
  | ok a => exact h
  | exc e => exact oTo.x h si hl
  | stuck => exact h
noncomputable def setF (m : List Md) (i : Nat) (f : FE) : FS := fun r => onE m r (f r) fun d => .nx (r.set i (some d))
theorem zbw (i : Nat) {x : Str} (hN : X.N.Nodup) (hi : X.N[i]? = some x) (hx : Loc X.env.scope x) (he : SE X g m e f) (hs : swapsWith e (some (.Name x pos')) pos.line X.env = pure false := by rfl)
    (hf : X.fn x = true∨X.env.scope.names.lookup x = some .local := by first | exact .inl rfl | exact .inr rfl | assumption) : SS X g ro mb m (.Assign [.Name x pos'] e pos) (setF m i f) (m.set i .sh) := by
  have hl : (m.set i .sh).length = m.length := by simp
  refine ⟨hl,PS.imp (zij hN hi hx he hs hf) fun D σ H ⟨r,G,si,q⟩ => ⟨r,G,si,?_⟩⟩
  exact zaf (zbF si hl q) fun d q v G' H' w rv => q _ G' H' w.ge ((si.grow w).set i rv)
noncomputable def zfi (m : List Md) (f : FE) : FS := fun r => onE m r (f r) fun _ => .nx r
theorem zh6 (he : SE X g m e f) (hs : swapsWith e none pos.line X.env = pure false := by rfl) : SS X g ro mb m (.Expr e pos) (zfi m f) m :=
  ⟨rfl,PS.imp (zg8 he hs) fun D σ H ⟨r,G,si,q⟩ => ⟨r,G,si,zaf (zbF si rfl q) fun d q v G' H' w _ => q σ G' H' w.ge (si.grow w)⟩⟩
noncomputable def retF (m : List Md) (f : FE) : FS := fun r => onE m r (f r) fun d => .rt d
theorem za6 (he : SE X g m e f) : SS X g false mb m (.Return (some e) pos) (retF m f) m :=
  ⟨rfl,PS.imp (zik he) fun D σ H ⟨r,G,si,q⟩ => ⟨r,G,si,zaf (zbF si rfl q) fun d q v G' H' w rv => q v G' H' (si.grow w).grown rv⟩⟩
noncomputable def ifF (m : List Md) (p : FQ) (s1 s2 : FS) : FS := fun r => onE m r (p r) fun c => if c = true then s1 r else s2 r
theorem s_if (hc : SQ X g m c p) (h1 : SSs X g ro mb m sts s1 m') (h2 : SSs X g ro mb m sts' s2 m') : SS X g ro mb m (.If c sts sts' pos) (ifF m p s1 s2) m' := by
  refine ⟨h1.1,PS.imp (zjB hc h1.2 h2.2) fun D σ H ⟨r,G,si,q⟩ => ⟨r,G,si,zaf (zbF si h1.1 q) fun c q G' H' w => ?_⟩⟩
  cases c with
  | true => rw [if_pos rfl] at q ⊢; exact ⟨r,G',si.grow w,oTo.gle q w.ge⟩
  | false => rw [if_neg Bool.false_ne_true] at q ⊢; exact ⟨r,G',si.grow w,oTo.gle q w.ge⟩
end
end DL
end
section
namespace DL
open PySem PySem.Spec PyProof.Rows L2
noncomputable abbrev FT := D→Rho→Option Rho
noncomputable abbrev FTs := List D→Rho→Option Rho
noncomputable def tG (X : Cx) (g : GE) (m m' : List Md) (ft : FT) : TG := fun v σ H Q => ∃ r G d,SI X g m r G σ H∧RG X.K G v d∧∃ r',ft d r = some r'∧∀ σ',SI X g m' r' G σ' H→Q σ' H
noncomputable def tGs (X : Cx) (g : GE) (m m' : List Md) (ft : FTs) : TGs := fun vs σ H Q => ∃ r G ds,SI X g m r G σ H∧RGs X.K G vs ds∧∃ r',ft ds r = some r'∧∀ σ',SI X g m' r' G σ' H→Q σ' H
theorem PG.imp {X : Cx} {e : Expr} {t t' : TG} (h : PG X e t) (i : ∀ v σ H Q,t' v σ H Q→t v σ H Q) : PG X e t' := fun pins s σ H v u Q I r q => h pins s σ H v u Q I r (i v σ H Q q)
theorem PGs.imp {X : Cx} {e : List Expr} {t t' : TGs} (h : PGs X e t) (i : ∀ v σ H Q,t' v σ H Q→t v σ H Q) : PGs X e t' := fun pins s σ H v u Q I r q => h pins s σ H v u Q I r (i v σ H Q q)
noncomputable def SG (X : Cx) (g : GE) (m : List Md) (tg : Expr) (ft : FT) (m' : List Md) : Prop := m'.length = m.length∧PG X tg (tG X g m m' ft)
structure SGs (X : Cx) (g : GE) (m : List Md) (ts : List Expr) (n : Nat) (ft : FTs) (m' : List Md) : Prop where
  ml : m'.length = m.length
  ln : ∀ ds r r',ft ds r = some r'→ds.length = n
  pg : PGs X ts (tGs X g m m' ft)
noncomputable def ftN (i : Nat) : FT := fun d r => some (r.set i (some d))
noncomputable def ftT (ft : FTs) : FT := fun d r => match d with
  | .tup ds => ft ds r
  | .lst ds => ft ds r
  | _ => none
noncomputable def zdt : FTs := fun ds r => match ds with
  | [] => some r
  | _ => none
noncomputable def zbr (ft : FT) (fts : FTs) : FTs := fun ds r => match ds with
  | [] => none
  | d::ds => (ft d r).bind fun r' => fts ds r'
section
variable {X : Cx} {g : GE} {m m' m1 : List Md} {tg : Expr} {ts : List Expr} {ft : FT} {fts : FTs} {pos : Pos} {n : Nat}
theorem zbM (i : Nat) {x : Str} (hN : X.N.Nodup) (hi : X.N[i]? = some x) (hx : Loc X.env.scope x) (hf : X.fn x = true∨X.env.scope.names.lookup x = some .local := by first | exact .inl rfl | exact .inr rfl | assumption) :
    SG X g m (.Name x pos) (ftN i) (m.set i .sh) :=
  ⟨by simp,PG.imp (zha hN hi hx hf) fun v σ H Q ⟨r,G,d,si,rv,r',e,k⟩ => by cases e; exact k _ (si.set i rv)⟩
theorem ze9 : SGs X g m [] 0 zdt m := by
  refine ⟨rfl,fun ds r r' e => ?_,PGs.imp zg9 fun v σ H Q ⟨r,G,ds,si,rv,r',e,k⟩ => ?_⟩
  · cases ds with
    | nil => rfl
    | cons _ _ => cases e
  · cases rv with
    | nil => cases e; exact ⟨rfl,k σ si⟩
    | cons _ _ => cases e
theorem zb3 (h1 : SG X g m tg ft m1) (h2 : SGs X g m1 ts n fts m') (hs : (assignEach (tg::ts) X.env).map (·.2) = assign tg X.env::(assignEach ts X.env).map (·.2) := by rfl) : SGs X g m (tg::ts) (n + 1) (zbr ft fts) m' := by
  refine ⟨h2.ml.trans h1.1,fun ds r r' e => ?_,PGs.imp (zfZ h1.2 h2.pg hs) fun v σ H Q ⟨r,G,ds,si,rv,r',e,k⟩ => ?_⟩
  · cases ds with
    | nil => cases e
    | cons d ds =>
      have e' : ((ft d r).bind fun r' => fts ds r') = some r' := e
      cases q : ft d r with
      | none => rw [q] at e'; cases e'
      | some r1 =>
        rw [q] at e'
        have := h2.ln ds r1 r' e'
        simp [this]
  · cases rv with
    | nil => cases e
    | @cons v0 d vs ds rv rs =>
      have e' : ((ft d r).bind fun r' => fts ds r') = some r' := e
      cases q : ft d r with
      | none => rw [q] at e'; cases e'
      | some r1 =>
        rw [q] at e'
        exact ⟨_,_,rfl,r,G,d,si,rv,r1,q,fun σ' si' => ⟨r1,G,ds,si',rs,r',e',k⟩⟩
theorem zim {k : Nat} {t : TGs} (hc : X.calm = true) (h : PGs X ts t) (hn : (assignEach ts X.env).length = n) (hst : (assignEach ts X.env).findIdx? (·.1) = none) :
    PG X (.Tuple ts k pos) (fun v σ H Q => ∃ a xs,v = .ref a∧SqL X.K H a xs∧xs.length = n∧t xs σ H Q) := by
  intro pins s σ H v u Q I r hw
  obtain ⟨a,xs,e1,hq,hl,hw⟩ := hw
  subst e1
  cases r
  obtain ⟨its,rv,⟨o,nn,l1,l2,l3,l4⟩,hz⟩ := I.list hq
  rw [PyProof.Rows.assign_Tuple]
  refine wpAny_bind (wpAny_standAt ?_)
  unfold unpack
  rw [hst,show (assignEach ts X.env).length = its.toArray.size by simp [hn,← hl,rv.length]]
  refine wpAny_bind (wpAny_holding (PySem.W.kun_itemsOf (I.ok.hd hc) ⟨o,l1,l2,nn,l4⟩ fun h' hx => ?_))
  have I1 : Inv X pins σ H { s with heap := h' } := I.kept (t' := s.toks) fun b o e => hx b o (Nat.ne_of_lt (Heap.lt_size e)) e
  exact h pins _ σ H xs _ Q I1 (by simpa using rv) hw
theorem PG.or {e : Expr} {t t' : TG} (h : PG X e t) (h' : PG X e t') : PG X e (fun v σ H Q => t v σ H Q∨t' v σ H Q) := fun pins s σ H v u Q I r q => q.elim (h pins s σ H v u Q I r) (h' pins s σ H v u Q I r)
theorem ze8 {k : Nat} (hc : X.calm = true) (h : SGs X g m ts n fts m') (hn : (assignEach ts X.env).length = n := by rfl) (hst : (assignEach ts X.env).findIdx? (·.1) = none := by rfl) : SG X g m (.Tuple ts k pos) (ftT fts) m' := by
  refine ⟨h.ml,PG.imp (PG.or (zin hc h.pg hn hst) (zim hc h.pg hn hst)) fun v σ H Q ⟨r,G,d,si,rv,r',e,k⟩ => ?_⟩
  cases d with
  | tup ds =>
    obtain ⟨a,xs,rfl,s,rs⟩ := rv.tup si.gok
    exact .inl ⟨a,xs,rfl,s,(Paired.length rs).trans (h.ln ds r r' e),r,G,ds,si,rs,r',e,k⟩
  | lst ds =>
    obtain ⟨a,xs,rfl,s,rs⟩ := rv.lst si.gok
    exact .inr ⟨a,xs,rfl,s,(Paired.length rs).trans (h.ln ds r r' e),r,G,ds,si,rs,r',e,k⟩
  | _ => cases e
end
structure Yields (K : PySem.W.Frag) (J : It) (ds : List D) (G0 : GH) : Prop where
  go : ∀ G H (i : Nat),Gle G0 G→GOk K G H→i < ds.length→J.go i H
  yld : ∀ G H (i : Nat) x H' d,Gle G0 G→GOk K G H→J.yld i H x H'→ds[i]? = some d→∃ G',Grow K G H G' H'∧RG K G' x d
  stop : ∀ G H,Gle G0 G→GOk K G H→J.stop ds.length H
noncomputable abbrev FI := Rho→Res (List D)
noncomputable def tI (X : Cx) (g : GE) (m : List Md) (f : FI) : TI := fun σ H R => ∃ r G,SI X g m r G σ H∧fin (f r) (fun ds => ∀ J G' H',Grow X.K G H G' H'→Yields X.K J ds G'→R J H') (XW X σ G H)
noncomputable def SIt (X : Cx) (g : GE) (m : List Md) (tg iter : Expr) (f : FI) : Prop := PI X tg iter (tI X g m f)
theorem PI.imp {X : Cx} {tg e : Expr} {t t' : TI} (h : PI X tg e t) (i : ∀ σ H Q,t' σ H Q→t σ H Q) : PI X tg e t' := fun pins s σ H R I q => h pins s σ H R I (i σ H R q)
theorem zew {K : PySem.W.Frag} {a : Addr} {ds : List D} {G0 : GH} (h0 : RG K G0 (.ref a) (.lst ds)) : Yields K (Itl K a) ds G0 := by
  have at_ : ∀ G H,Gle G0 G→GOk K G H→∃ xs,SqL K H a xs∧RGs K G xs ds := fun G H w gk => by
    obtain ⟨b,xs,e,s,r⟩ := (h0.mono w).lst gk
    cases e
    exact ⟨xs,s,r⟩
  refine ⟨fun G H i w gk hi => ?_,fun G H i x H' d w gk y e => ?_,fun G H w gk => ?_⟩
  · obtain ⟨xs,s,r⟩ := at_ G H w gk
    have hl := Paired.length r
    exact ⟨xs,xs[i],s,List.getElem?_eq_getElem (by omega)⟩
  · obtain ⟨xs,s,r⟩ := at_ G H w gk
    obtain ⟨rfl,y⟩ := y
    obtain ⟨v,e1,rv⟩ := Paired.get r e
    have := y xs s
    rw [e1] at this; cases this
    exact ⟨G,Grow.refl gk,rv⟩
  · obtain ⟨xs,s,r⟩ := at_ G H w gk
    exact ⟨xs,s,Nat.le_of_eq (Paired.length r)⟩
theorem zgv {K : PySem.W.Frag} {a : Addr} {ds : List D} {G0 : GH} (h0 : RG K G0 (.ref a) (.tup ds)) : Yields K (Itt K a) ds G0 := by
  have at_ : ∀ G H,Gle G0 G→GOk K G H→∃ xs,SqT K H a xs∧RGs K G xs ds := fun G H w gk => by
    obtain ⟨b,xs,e,s,r⟩ := (h0.mono w).tup gk
    cases e
    exact ⟨xs,s,r⟩
  refine ⟨fun G H i w gk hi => ?_,fun G H i x H' d w gk y e => ?_,fun G H w gk => ?_⟩
  · obtain ⟨xs,s,r⟩ := at_ G H w gk
    have hl := Paired.length r
    exact ⟨xs,xs[i],s,List.getElem?_eq_getElem (by omega)⟩
  · obtain ⟨xs,s,r⟩ := at_ G H w gk
    obtain ⟨rfl,y⟩ := y
    obtain ⟨v,e1,rv⟩ := Paired.get r e
    have := y xs s
    rw [e1] at this; cases this
    exact ⟨G,Grow.refl gk,rv⟩
  · obtain ⟨xs,s,r⟩ := at_ G H w gk
    exact ⟨xs,s,Nat.le_of_eq (Paired.length r)⟩
noncomputable def zcI : D→Option (List D)
  | .lst ds => some ds
  | .tup ds => some ds
  | _ => none
section
variable {X : Cx} {g : GE} {m m' m1 mb : List Md} {tg e a b c iter : Expr} {f fa fb : FE} {p : FQ} {pos pos' : Pos} {ro : Bool} {fl : Rho → Res (List D)} {sts : List Stmt} {s1 : FS}
noncomputable def fSeq (k : D→Option (List D)) (f : FE) : FI := fun r => (f r).bind fun d => opt (k d)
theorem zgD {l : Expr} {tl : TE} (hl : PE X l tl) : PI X tg l (fun σ H R => tl σ H fun x H1 => (∃ a,x = .ref a∧(∃ xs,SqL X.K H1 a xs)∧R (Itl X.K a) H1)∨∃ a,x = .ref a∧(∃ xs,SqT X.K H1 a xs)∧R (Itt X.K a) H1) := by
  intro pins s σ H R I h
  refine thn (hl pins s σ H _ I h) fun v s1 ⟨x,H1,I1,r1,q1⟩ => ?_
  rcases q1 with ⟨a,e,⟨xs,hq⟩,q⟩ | ⟨a,e,⟨xs,hq⟩,q⟩
  · subst e
    cases r1
    obtain ⟨its,rv,p,hz⟩ := I1.list hq
    refine wpAny_pyIter_list p.isList ?_
    refine ⟨s1.heap.objs.size,[s1.heap.objs.size],_,_,H1,rfl,I1.kept (t' := s1.toks) fun b o e => Heap.get?_push_of_some _ e,zeA a _,⟨_,Heap.get?_push_size _ rfl,rfl,rfl⟩,fun b hb => ?_,q⟩
    have e : b = s1.heap.objs.size := by simpa using hb
    subst e
    exact I1.fpOk (Nat.le_refl _) (I1.hok.fresh (Nat.le_refl _))
  · subst e
    cases r1
    obtain ⟨its,rv,p,hz⟩ := I1.tuple hq
    refine wpAny_pyIter_tuple (show s1.heap.IsTuple a its.toArray from p) ?_
    refine ⟨s1.heap.objs.size,[s1.heap.objs.size],_,_,H1,rfl,I1.kept (t' := s1.toks) fun b o e => Heap.get?_push_of_some _ e,zeh a _,⟨_,Heap.get?_push_size _ rfl,rfl,rfl⟩,fun b hb => ?_,q⟩
    have e : b = s1.heap.objs.size := by simpa using hb
    subst e
    exact I1.fpOk (Nat.le_refl _) (I1.hok.fresh (Nat.le_refl _))
theorem zjR (h : SE X g m e f) : SIt X g m tg e (fSeq zcI f) := by
  refine PI.imp (zgD h) fun σ H R ⟨r,G,si,q⟩ => ⟨r,G,si,zaf (zai q) fun d q v G' H' w rv => ?_⟩
  obtain ⟨ds,e,q⟩ := zaN q
  cases d with
  | lst ds' =>
    cases e
    obtain ⟨a,xs,rfl,s,rs⟩ := rv.lst w.ok
    exact .inl ⟨a,rfl,⟨xs,s⟩,q _ G' H' w (zew rv)⟩
  | tup ds' =>
    cases e
    obtain ⟨a,xs,rfl,s,rs⟩ := rv.tup w.ok
    exact .inr ⟨a,rfl,⟨xs,s⟩,q _ G' H' w (zgv rv)⟩
  | _ => cases e
structure YieldsC (K : PySem.W.Frag) (J : It) (ds : List D) (G0 : GH) (H0 : Hp) : Prop where
  go : ∀ G H (i : Nat),Grow K G0 H0 G H→i < ds.length→J.go i H
  yld : ∀ G H (i : Nat) x H' d,Grow K G0 H0 G H→J.yld i H x H'→ds[i]? = some d→∃ G',Grow K G H G' H'∧RG K G' x d
  stop : ∀ G H,Grow K G0 H0 G H→J.stop ds.length H
theorem Yields.toC {K : PySem.W.Frag} {J : It} {ds : List D} {G0 : GH} {H0 : Hp} (y : Yields K J ds G0) : YieldsC K J ds G0 H0 :=
  ⟨fun G H i w hi => y.go G H i w.ge w.ok hi,fun G H i x H' d w q e => y.yld G H i x H' d w.ge w.ok q e,fun G H w => y.stop G H w.ge w.ok⟩
noncomputable def tIC (X : Cx) (g : GE) (m : List Md) (f : FI) : TI := fun σ H R => ∃ r G,SI X g m r G σ H∧fin (f r) (fun ds => ∀ J G' H',Grow X.K G H G' H'→YieldsC X.K J ds G' H'→R J H') (XW X σ G H)
noncomputable def SItC (X : Cx) (g : GE) (m : List Md) (tg iter : Expr) (f : FI) : Prop := PI X tg iter (tIC X g m f)
theorem zhP {K : PySem.W.Frag} {a : Addr} {ds : List D} {G0 : GH} {H0 : Hp} (o : Own K G0 H0 a (.lst ds)) : YieldsC K (Itl K a) ds G0 H0 := by
  have at_ : ∀ G H,Grow K G0 H0 G H→∃ xs,SqL K H a xs∧RGs K G xs ds := fun G H w => by
    cases (o.mono w).ob with
    | lst r s => exact ⟨_,SqL.of r,s⟩
  refine ⟨fun G H i w hi => ?_,fun G H i x H' d w y e => ?_,fun G H w => ?_⟩
  · obtain ⟨xs,s,r⟩ := at_ G H w
    have hl := Paired.length r
    exact ⟨xs,xs[i],s,List.getElem?_eq_getElem (by omega)⟩
  · obtain ⟨xs,s,r⟩ := at_ G H w
    obtain ⟨rfl,y⟩ := y
    obtain ⟨v,e1,rv⟩ := Paired.get r e
    have := y xs s
    rw [e1] at this; cases this
    exact ⟨G,Grow.refl w.ok,rv⟩
  · obtain ⟨xs,s,r⟩ := at_ G H w
    exact ⟨xs,s,Nat.le_of_eq (Paired.length r)⟩
theorem ze5 (h : SB X g m e f) : SItC X g m tg e (fSeq zcI f) := by
  refine PI.imp (zgD h) fun σ H R ⟨r,G,si,q⟩ => ⟨r,G,si,zaf (zai q) fun d q v G' H' w rv => ?_⟩
  obtain ⟨ds,e,q⟩ := zaN q
  cases d with
  | lst ds' =>
    cases e
    rcases rv with rv | ⟨a,rfl,o⟩
    · obtain ⟨a,xs,rfl,s,rs⟩ := rv.lst w.ok
      exact .inl ⟨a,rfl,⟨xs,s⟩,q _ G' H' w (zew rv).toC⟩
    · cases o.ob with
      | lst r s => exact .inl ⟨a,rfl,⟨_,SqL.of r⟩,q _ G' H' w (zhP o)⟩
  | tup ds' =>
    cases e
    rcases rv with rv | ⟨a,rfl,o⟩
    · obtain ⟨a,xs,rfl,s,rs⟩ := rv.tup w.ok
      exact .inr ⟨a,rfl,⟨xs,s⟩,q _ G' H' w (zgv rv).toC⟩
    · cases o.ob
  | _ => cases e
noncomputable def forF (ft : FT) (body : FS) : List D→FS
  | [],r => .nx r
  | d::ds,r => match ft d r with
    | none => .stuck
    | some r1 => match body r1 with
      | .nx r' => forF ft body ds r'
      | .ct r' => forF ft body ds r'
      | .bk r' => .nx r'
      | o => o
noncomputable def zdK (m : List Md) (fi : FI) (ft : FT) (body : FS) : FS := fun r => onE m r (fi r) fun ds => forF ft body ds r
theorem zjx (hp : PassesOwn (model X.prog X.w) X.A X.env X.xe) (hc : X.calm = true) {ft : FT} {fi : FI} (hi : SIt X g m tg iter fi) (hg : SG X g m tg ft m) (hb : SSs X g ro m m sts s1 m)
    (hs : ∀ x,foldedSetIterable iter X.env x = pure x := by intro _; rfl) : SS X g ro mb m (.For tg iter sts [] pos) (zdK m fi ft s1) m := by
  refine ⟨rfl,PS.imp (zgB hp hc hi hg.2 hb.2 hs) fun D σ H ⟨r,G,si,q⟩ => ⟨r,G,si,zaf (zbF si rfl q) fun ds q J G0 H0 w0 Y => ?_⟩⟩
  refine ⟨fun i n σ H => ∃ r G,SI X g m r G σ H∧Gle G0 G∧i≤ds.length∧n = ds.length - i∧oTo X g ro m mb G D (forF ft s1 (ds.drop i) r),⟨ds.length,r,G0,si.grow w0,Gle.refl G0,Nat.zero_le _,rfl,oTo.gle q w0.ge⟩,?_⟩
  rintro i n σ1 H1 ⟨r1,G1,si1,le1,hi,rfl,q1⟩
  by_cases hlt : i < ds.length
  · have hd : ds.drop i = ds[i]::ds.drop (i + 1) := List.drop_eq_getElem_cons hlt
    rw [hd] at q1
    unfold forF at q1
    refine .inr ⟨Y.go G1 H1 i le1 si1.gok hlt,fun σ' H' => ∃ r G,SI X g m r G σ' H'∧Gle G0 G∧oTo X g ro m mb G D (forF ft s1 (ds.drop (i + 1)) r),fun σ' H' ⟨r',G',si',le',q'⟩ => ⟨ds.length - (i + 1),by omega,r',G',si',le',hlt,rfl,q'⟩,fun x H' y => ?_⟩
    obtain ⟨G',w',rv⟩ := Y.yld G1 H1 i x H' ds[i] le1 si1.gok y (List.getElem?_eq_getElem hlt)
    have le' : Gle G0 G' := le1.trans w'.ge
    cases eft : ft ds[i] r1 with
    | none => simp only [eft] at q1; exact q1.elim
    | some r2 =>
      simp only [eft] at q1
      refine ⟨r1,G',ds[i],si1.grow w',rv,r2,eft,fun σ2 si2 => ⟨r2,G',si2,?_⟩⟩
      cases eb : s1 r2 with
      | nx r' => simp only [eb] at q1; exact fun σ3 G3 H3 le3 si3 => ⟨r',G3,si3,le'.trans le3,oTo.gle q1 (Gle.trans w'.ge le3)⟩
      | ct r' => simp only [eb] at q1; exact fun σ3 G3 H3 le3 si3 => ⟨r',G3,si3,le'.trans le3,oTo.gle q1 (Gle.trans w'.ge le3)⟩
      | bk r' => simp only [eb] at q1; exact fun σ3 G3 H3 le3 si3 => q1 σ3 G3 H3 (Gle.trans w'.ge le3) si3
      | rt d => simp only [eb] at q1; exact q1
      | exc x r' => simp only [eb] at q1; exact fun pins e s' σ3 G3 H3 le3 => q1 pins e s' σ3 G3 H3 (Gle.trans w'.ge le3)
      | stuck => simp only [eb] at q1; exact q1
  · have e : i = ds.length := by omega
    subst e
    rw [List.drop_length] at q1
    exact .inl ⟨Y.stop G1 H1 le1 si1.gok,q1 σ1 G1 H1 (Gle.refl _) si1⟩
noncomputable def zaR (m : List Md) : List Md := m.map fun x => if x = Md.sh then Md.sh else Md.bw
noncomputable def zdL (m : List Md) (r : Rho) (st : L2.St) (G : GH) (H : Hp) : GE := ⟨G,H,fun i => if m[i]? = some Md.ow∨m[i]? = some Md.bw then some ((st[i]?).join,(r[i]?).join) else none⟩
theorem zbQ {m : List Md} {i : Nat} {x : Md} (h : m[i]? = some x) : (zaR m)[i]? = some (if x = Md.sh then Md.sh else Md.bw) := by
  unfold zaR; rw [List.getElem?_map,h]; rfl
theorem zf3 {m : List Md} {i : Nat} (h : (zaR m)[i]? = some Md.sh) : m[i]? = some Md.sh := by
  cases q : m[i]? with
  | none => unfold zaR at h; rw [List.getElem?_map,q] at h; cases h
  | some x =>
    rw [zbQ q] at h
    cases x <;> first | rfl | (simp at h)
theorem zd3 {m : List Md} {i : Nat} (h : (zaR m)[i]? = some Md.ow) : False := by
  cases q : m[i]? with
  | none => unfold zaR at h; rw [List.getElem?_map,q] at h; cases h
  | some x =>
    rw [zbQ q] at h
    cases x <;> simp at h
theorem lockM_bw {m : List Md} {i : Nat} (h : (zaR m)[i]? = some Md.bw) : m[i]? = some Md.ow∨m[i]? = some Md.bw := by
  cases q : m[i]? with
  | none => unfold zaR at h; rw [List.getElem?_map,q] at h; cases h
  | some x =>
    rw [zbQ q] at h
    cases x with
    | sh => simp at h
    | ow => exact .inl rfl
    | bw => exact .inr rfl
theorem SI.lock {r : Rho} {G : GH} {st : L2.St} {H : Hp} (s : SI X g m r G st H) : SI X (zdL m r st G H) (zaR m) r G st H where
  gok := s.gok
  old := fun _ _ e => e
  ge := fun _ _ e => e
  gf := fun _ _ => rfl
  lm := by unfold zaR; rw [List.length_map]; exact s.lm
  lr := s.lr
  sh := fun i d h hm => s.sh i d h (zf3 hm)
  ow := fun i d h hm => (zd3 hm).elim
  bw := fun i d h hm => by
    rcases lockM_bw hm with z | z
    · obtain ⟨a,h1,h2,_⟩ := s.ow i d h z
      exact ⟨_,h1,.inr ⟨a,rfl,h2,h2.ob.isS⟩⟩
    · obtain ⟨v,h1,h2⟩ := s.bw i d h z
      refine ⟨v,h1,?_⟩
      rcases h2 with h2 | ⟨a,e,h2,_⟩
      · exact .inl h2
      · exact .inr ⟨a,e,h2,h2.ob.isS⟩
  dis := fun i j a d e _ _ _ hm => (zd3 hm).elim
  lk := fun i o h hm => by
    have h' : (if m[i]? = some Md.ow∨m[i]? = some Md.bw then some ((st[i]?).join,(r[i]?).join) else none) = some o := h
    rw [if_pos (lockM_bw hm)] at h'
    cases h'
    have hi : i < st.length := by
      have := (List.getElem?_eq_some_iff.mp hm).1
      unfold zaR at this
      rw [List.length_map,s.lm] at this; exact this
    refine ⟨?_,fun d hd => by rw [hd]; rfl⟩
    rw [List.getElem?_eq_getElem hi]; rfl
theorem SI.unlock {r r' : Rho} {G G' : GH} {st st' : L2.St} {H H' : Hp} (s : SI X g m r G st H) (s' : SI X (zdL m r st G H) (zaR m) r' G' st' H') : SI X g m r' G' st' H' := by
  have w : Grow X.K G H G' H' := s'.grown
  have hlk : ∀ (i : Nat),(m[i]? = some Md.ow∨m[i]? = some Md.bw)→st'[i]? = some (st[i]?).join∧∀ d,r'[i]? = some (some d)→r[i]? = some (some d) := fun i hi => by
    have hm : (zaR m)[i]? = some Md.bw := by
      rcases hi with z | z <;> rw [zbQ z] <;> simp
    obtain ⟨h1,h2⟩ := s'.lk i ((st[i]?).join,(r[i]?).join) (if_pos hi) hm
    refine ⟨h1,fun d hd => ?_⟩
    have := h2 d hd
    cases q : r[i]? with
    | none => rw [q] at this; cases this
    | some o => rw [q] at this; rw [show o = some d from this]
  have hst : ∀ (i : Nat) v,(m[i]? = some Md.ow∨m[i]? = some Md.bw)→st[i]? = some (some v)→st'[i]? = some (some v) := fun i v hi h => by
    rw [(hlk i hi).1,h]; rfl
  refine ⟨s'.gok,fun a o e => s'.old a o (s.old a o e),fun a d e => s'.ge a d (s.ge a d e),fun a h => ?_,?_,s'.lr,fun i d h hm => ?_,fun i d h hm => ?_,fun i d h hm => ?_,fun i j a d e hij h1 h2 m1 m2 q1 q2 => ?_,fun i o hi hm => ?_⟩
  · have h1 : H a≠none := by
      cases e : g.h0 a with
      | none => exact absurd e h
      | some o => rw [s.old _ _ e]; simp
    rw [w.gf a h1,s.gf a h]
  · have := s'.lm
    unfold zaR at this
    rw [List.length_map] at this; exact this
  · exact s'.sh i d h (by rw [zbQ hm]; simp)
  · obtain ⟨a,h1,h2,h3⟩ := s.ow i d ((hlk i (.inl hm)).2 d h) hm
    exact ⟨a,hst i _ (.inl hm) h1,h2.mono w,h3⟩
  · obtain ⟨v,h1,h2⟩ := s.bw i d ((hlk i (.inr hm)).2 d h) hm
    exact ⟨v,hst i _ (.inr hm) h1,h2.grow w⟩
  · have e1 := (hlk i (.inl m1)).2 d h1
    have e2 := (hlk j (.inl m2)).2 e h2
    obtain ⟨b,z1,_,_⟩ := s.ow i d e1 m1
    obtain ⟨c,z2,_,_⟩ := s.ow j e e2 m2
    have y1 := hst i _ (.inl m1) z1
    have y2 := hst j _ (.inl m2) z2
    rw [q1] at y1
    rw [q2] at y2
    cases y1
    cases y2
    exact s.dis i j a d e hij e1 e2 m1 m2 z1 z2
  · obtain ⟨h1,h2⟩ := s.lk i o hi hm
    refine ⟨?_,fun d hd => h2 d ((hlk i (.inr hm)).2 d hd)⟩
    rw [(hlk i (.inr hm)).1,h1]; rfl
theorem SI.unlockX {r r' : Rho} {G G' : GH} {st st' : L2.St} {H H' : Hp} (s : SI X g m r G st H) (s' : SI X (zdL m r st G H) (zaV (zaR m)) r' G' st' H') : SI X g (zaV m) r' G' st' H' := by
  have w : Grow X.K G H G' H' := s'.grown
  have el : zaV (zaR m) = zaV m := zcJ (by unfold zaR; rw [List.length_map])
  rw [el] at s'
  have no : ∀ {i : Nat} {x : Md},(zaV m)[i]? = some x→x = Md.sh := fun {i x} h => by
    unfold zaV at h
    rw [List.getElem?_map] at h
    cases q : m[i]? with
    | none => rw [q] at h; cases h
    | some y => rw [q] at h; cases h; rfl
  refine ⟨s'.gok,fun a o e => s'.old a o (s.old a o e),fun a d e => s'.ge a d (s.ge a d e),fun a h => ?_,s'.lm,s'.lr,s'.sh,fun i d h hm => (nomatch (no hm)),fun i d h hm => (nomatch (no hm)),fun i j a d e hij h1 h2 m1 m2 => (nomatch (no m1)),fun i o hi hm => (nomatch (no hm))⟩
  have h1 : H a≠none := by
    cases e : g.h0 a with
    | none => exact absurd e h
    | some o => rw [s.old _ _ e]; simp
  rw [w.gf a h1,s.gf a h]
theorem zh5 (hp : PassesOwn (model X.prog X.w) X.A X.env X.xe) (hc : X.calm = true) {ft : FT} {fi : FI} (hi : SItC X g m tg iter fi) (hg : ∀ g',SG X g' (zaR m) tg ft (zaR m)) (hb : ∀ g',SSs X g' ro (zaR m) (zaR m) sts s1 (zaR m))
    (hs : ∀ x,foldedSetIterable iter X.env x = pure x := by intro _; rfl) : SS X g ro mb m (.For tg iter sts [] pos) (zdK m fi ft s1) m := by
  have hgA : PG X tg (fun v σ H Q => ∃ g',tG X g' (zaR m) (zaR m) ft v σ H Q) := fun pins s σ H v u Q I r ⟨g',q⟩ => (hg g').2 pins s σ H v u Q I r q
  have hbA : PSs X sts (fun D σ H => ∃ g',tS X g' ro (zaR m) (zaR m) (zaR m) s1 D σ H) := fun pins s σ H D I ⟨g',q⟩ => (hb g').2 pins s σ H D I q
  refine ⟨rfl,PS.imp (zgB hp hc hi hgA hbA hs) fun D σ H ⟨r,G,si,q⟩ => ⟨r,G,si,zaf (zbF si rfl q) fun ds q J G0 H0 w0 Y => ?_⟩⟩
  have si0 := si.grow w0
  refine ⟨fun i n σ1 H1 => ∃ r1 G1,SI X (zdL m r σ G0 H0) (zaR m) r1 G1 σ1 H1∧i≤ds.length∧n = ds.length - i∧oTo X g ro m mb G1 D (forF ft s1 (ds.drop i) r1),⟨ds.length,r,G0,si0.lock,Nat.zero_le _,rfl,oTo.gle q w0.ge⟩,?_⟩
  rintro i n σ1 H1 ⟨r1,G1,si1,hi,rfl,q1⟩
  have wg : Grow X.K G0 H0 G1 H1 := si1.grown
  by_cases hlt : i < ds.length
  · have hd : ds.drop i = ds[i]::ds.drop (i + 1) := List.drop_eq_getElem_cons hlt
    rw [hd] at q1
    unfold forF at q1
    refine .inr ⟨Y.go G1 H1 i wg hlt,fun σ' H' => ∃ r' G',SI X (zdL m r σ G0 H0) (zaR m) r' G' σ' H'∧oTo X g ro m mb G' D (forF ft s1 (ds.drop (i + 1)) r'),fun σ' H' ⟨r',G',si',q'⟩ => ⟨ds.length - (i + 1),by omega,r',G',si',hlt,rfl,q'⟩,fun x H' y => ?_⟩
    obtain ⟨G',w',rv⟩ := Y.yld G1 H1 i x H' ds[i] wg y (List.getElem?_eq_getElem hlt)
    cases eft : ft ds[i] r1 with
    | none => simp only [eft] at q1; exact q1.elim
    | some r2 =>
      simp only [eft] at q1
      refine ⟨zdL m r σ G0 H0,r1,G',ds[i],si1.grow w',rv,r2,eft,fun σ2 si2 => ⟨zdL m r σ G0 H0,r2,G',si2,?_⟩⟩
      cases eb : s1 r2 with
      | nx r' => simp only [eb] at q1; exact fun σ3 G3 H3 le3 si3 => ⟨r',G3,si3,oTo.gle q1 (Gle.trans w'.ge le3)⟩
      | ct r' => simp only [eb] at q1; exact fun σ3 G3 H3 le3 si3 => ⟨r',G3,si3,oTo.gle q1 (Gle.trans w'.ge le3)⟩
      | bk r' => simp only [eb] at q1; exact fun σ3 G3 H3 le3 si3 => q1 σ3 G3 H3 (Gle.trans w'.ge le3) (si0.unlock si3)
      | rt d =>
        simp only [eb] at q1
        intro v G2 H2 wr rv2
        refine q1 v G2 H2 (si0.grown.trans wr) ?_
        cases ro with
        | false => exact rv2
        | true =>
          rcases rv2 with ⟨a,e1,e2,e3⟩ | z
          · exact .inl ⟨a,e1,si0.grown.back e2,e3⟩
          · exact .inr z
      | exc x r' => simp only [eb] at q1; exact fun pins e s' σ3 G3 H3 le3 si3 => q1 pins e s' σ3 G3 H3 (Gle.trans w'.ge le3) (si0.unlockX si3)
      | stuck => simp only [eb] at q1; exact q1
  · have e : i = ds.length := by omega
    subst e
    rw [List.drop_length] at q1
    exact .inl ⟨Y.stop G1 H1 wg,q1 σ1 G1 H1 (Gle.refl _) (si0.unlock si1)⟩
noncomputable def zaW (m : List Md) (p : FQ) (body : FS) : Nat→FS
  | 0,_ => .stuck
  | n + 1,r => onE m r (p r) fun c => if c = true then (match body r with
      | .nx r' => zaW m p body n r'
      | .ct r' => zaW m p body n r'
      | .bk r' => .nx r'
      | o => o) else .nx r
theorem zeG (n : Nat) (hp : PassesOwn (model X.prog X.w) X.A X.env X.xe) (hc : SQ X g m c p) (hb : SSs X g ro m m sts s1 m) : SS X g ro mb m (.While c sts [] pos) (zaW m p s1 n) m := by
  refine ⟨rfl,PS.imp (zfS hp hc hb.2) fun D σ H ⟨r,G,si,q⟩ => ?_⟩
  refine ⟨fun n σ H => ∃ r G,SI X g m r G σ H∧oTo X g ro m mb G D (zaW m p s1 n r),⟨n,r,G,si,q⟩,?_⟩
  rintro n σ1 H1 ⟨r1,G1,si1,q1⟩
  cases n with
  | zero => exact q1.elim
  | succ n =>
    unfold zaW at q1
    refine ⟨r1,G1,si1,zaf (zbF si1 rfl q1) fun c q2 G2 H2 w2 => ?_⟩
    cases c with
    | false => rw [if_neg Bool.false_ne_true] at q2 ⊢; exact q2 σ1 G2 H2 w2.ge (si1.grow w2)
    | true =>
      rw [if_pos rfl] at q2 ⊢
      refine ⟨fun σ' H' => ∃ r G,SI X g m r G σ' H'∧oTo X g ro m mb G D (zaW m p s1 n r),fun σ' H' h => ⟨n,Nat.lt_succ_self _,h⟩,r1,G2,si1.grow w2,?_⟩
      cases eb : s1 r1 with
      | nx r' => simp only [eb] at q2; exact fun σ3 G3 H3 le3 si3 => ⟨r',G3,si3,oTo.gle q2 (Gle.trans w2.ge le3)⟩
      | ct r' => simp only [eb] at q2; exact fun σ3 G3 H3 le3 si3 => ⟨r',G3,si3,oTo.gle q2 (Gle.trans w2.ge le3)⟩
      | bk r' => simp only [eb] at q2; exact fun σ3 G3 H3 le3 si3 => q2 σ3 G3 H3 (Gle.trans w2.ge le3) si3
      | rt d => simp only [eb] at q2; exact q2
      | exc x r' => simp only [eb] at q2; exact fun pins e s' σ3 G3 H3 le3 => q2 pins e s' σ3 G3 H3 (Gle.trans w2.ge le3)
      | stuck => simp only [eb] at q2; exact q2
noncomputable def asgF (m : List Md) (f : FE) (ft : FT) : FS := fun r => onE m r (f r) fun d => match ft d r with
  | some r' => .nx r'
  | none => .stuck
theorem zg1 {ft : FT} (he : SE X g m e f) (hg : SG X g m tg ft m') (hs : swapsWithSole [tg] e pos.line X.env = pure false := by rfl) (hw : swappedStores [tg] e X.env = pure none := by rfl)
    (h1 : (assignEach [tg] X.env).map (·.2) = [assign tg X.env] := by rfl) : SS X g ro mb m (.Assign [tg] e pos) (asgF m f ft) m' := by
  refine ⟨hg.1,PS.imp (zil he hg.2 hs hw h1) fun D σ H ⟨r,G,si,q⟩ => ⟨r,G,si,zaf (zbF si hg.1 q) fun d q v G' H' w rv => ?_⟩⟩
  cases e1 : ft d r with
  | none => simp only [e1] at q; exact q.elim
  | some r' =>
    simp only [e1] at q
    exact ⟨r,G',d,si.grow w,rv,r',e1,fun σ' si' => q σ' G' H' w.ge si'⟩
end
noncomputable def noX : Res D→Res D
  | .ok d => .ok d
  | _ => .stuck
@[simp] theorem noX_ok (d : D) : noX (.ok d) = .ok d := rfl
inductive ArgsOk (K : PySem.W.Frag) (G : GH) (H : Hp) : List Md→List V→List D→Prop where
  | nil : ArgsOk K G H [] [] []
  | sh {v : V} {d : D} {ms : List Md} {vs : List V} {ds : List D} : RG K G v d→ArgsOk K G H ms vs ds→ArgsOk K G H (.sh::ms) (v::vs) (d::ds)
  | bw {v : V} {d : D} {ms : List Md} {vs : List V} {ds : List D} : RB K G H v d→ArgsOk K G H ms vs ds→ArgsOk K G H (.bw::ms) (v::vs) (d::ds)
section
variable {K : PySem.W.Frag} {G G' : GH} {H H' : Hp}
theorem ArgsOk.mono : ∀ {ms : List Md} {vs : List V} {ds : List D},ArgsOk K G H ms vs ds→Grow K G H G' H'→ArgsOk K G' H' ms vs ds
  | _,_,_,.nil,_ => .nil
  | _,_,_,.sh h t,w => .sh (h.mono w.ge) (t.mono w)
  | _,_,_,.bw h t,w => .bw (h.mono w) (t.mono w)
theorem ArgsOk.len {ms : List Md} {vs : List V} {ds : List D} (h : ArgsOk K G H ms vs ds) : vs.length = ms.length∧ds.length = ms.length := by
  induction h with
  | nil => exact ⟨rfl,rfl⟩
  | sh h t ih => exact ⟨congrArg (· + 1) ih.1,congrArg (· + 1) ih.2⟩
  | bw h t ih => exact ⟨congrArg (· + 1) ih.1,congrArg (· + 1) ih.2⟩
theorem ArgsOk.app {dvs : List V} {dds : List D} (hs : Paired Scl dvs dds) : ∀ {ms : List Md} {vs : List V} {ds : List D},ArgsOk K G H ms vs ds→ArgsOk K G H (ms++List.replicate dds.length .sh) (vs++dvs) (ds++dds)
  | _,_,_,.nil => by
    induction hs with
    | nil => exact .nil
    | cons h t ih => exact .sh (.scl h) ih
  | _,_,_,.sh h t => .sh h (t.app hs)
  | _,_,_,.bw h t => .bw h (t.app hs)
theorem ArgsOk.get : ∀ {ms : List Md} {vs : List V} {ds : List D} {i : Nat} {d : D},ArgsOk K G H ms vs ds→ds[i]? = some d→∃ v,vs[i]? = some v∧((ms[i]? = some .sh∧RG K G v d)∨(ms[i]? = some .bw∧RB K G H v d))
  | _,_,_,_,_,.nil,e => by simp at e
  | _,_,_,0,_,.sh h t,e => by simp at e; subst e; exact ⟨_,rfl,.inl ⟨rfl,h⟩⟩
  | _,_,_,0,_,.bw h t,e => by simp at e; subst e; exact ⟨_,rfl,.inr ⟨rfl,h⟩⟩
  | _,_,_,i + 1,d,.sh h t,e => by
    obtain ⟨v,h1,h2⟩ := t.get (i := i) (d := d) (by simpa using e)
    exact ⟨v,by simpa using h1,by simpa using h2⟩
  | _,_,_,i + 1,d,.bw h t,e => by
    obtain ⟨v,h1,h2⟩ := t.get (i := i) (d := d) (by simpa using e)
    exact ⟨v,by simpa using h1,by simpa using h2⟩
end
noncomputable def spM (K : PySem.W.Frag) (ro : Bool) (ms : List Md) (F : List D→Res D) : Sp := fun vs H Q _ => ∃ G ds,GOk K G H∧ArgsOk K G H ms vs ds∧fin (F ds) (fun d => ∀ v G' H',Grow K G H G' H'→RV ro K H G' H' v d→Q v H') fun _ => False
noncomputable def outR (ro : Bool) : Out→Res D
  | .nx _ => if ro = true then .stuck else .ok .non
  | .rt d => .ok d
  | .exc x _ => .exc x
  | _ => .stuck
noncomputable def zaq (n : Nat) (ds : List D) : Rho := ds.map some++List.replicate (n - ds.length) none
noncomputable def zb8 (n : Nat) (ms : List Md) : List Md := ms++List.replicate (n - ms.length) .sh
section
variable {P : Program} {w : World} {K : PySem.W.Frag} {mg : Str → Option Value} {base : Heap}
theorem zdV {X : Cx} {N : List Str} {ms : List Md} {vs : List V} {ds : List D} {G : GH} {H : Hp} (gk : GOk X.K G H) (rs : ArgsOk X.K G H ms vs ds) (hn : ms.length≤N.length) : SI X ⟨G,H,fun _ => none⟩ (zb8 N.length ms) (zaq N.length ds) G (L2.start N vs) H := by
  obtain ⟨l1,l2⟩ := rs.len
  have e1 : (L2.start N vs).length = N.length := by unfold L2.start; rw [List.length_append,List.length_map,List.length_replicate]; omega
  have e2 : (zaq N.length ds).length = N.length := by unfold zaq; rw [List.length_append,List.length_map,List.length_replicate]; omega
  have e3 : (zb8 N.length ms).length = N.length := by unfold zb8; rw [List.length_append,List.length_replicate]; omega
  have at_ : ∀ (i : Nat) d,(zaq N.length ds)[i]? = some (some d)→i < ms.length∧(zb8 N.length ms)[i]? = ms[i]?∧∃ v,(L2.start N vs)[i]? = some (some v)∧((ms[i]? = some .sh∧RG X.K G v d)∨(ms[i]? = some .bw∧RB X.K G H v d)) := fun i d h => by
    unfold zaq at h
    by_cases hi : i < ds.length
    · rw [List.getElem?_append_left (by simpa using hi),List.getElem?_map] at h
      have hd : ds[i]? = some d := by
        cases z : ds[i]? with
        | none => rw [z] at h; cases h
        | some d' => rw [z] at h; cases h; rfl
      obtain ⟨v,hv,rv⟩ := rs.get hd
      refine ⟨by omega,?_,v,?_,rv⟩
      · unfold zb8
        rw [List.getElem?_append_left (by omega)]
      · unfold L2.start
        rw [List.getElem?_append_left (by rw [List.length_map]; omega),List.getElem?_map,hv]
        rfl
    · rw [List.getElem?_append_right (by simpa using hi),List.getElem?_replicate] at h
      split at h <;> cases h
  refine ⟨gk,fun _ _ e => e,fun _ _ e => e,fun _ _ => rfl,by rw [e3,e1],by rw [e1,e2],fun i d h hm => ?_,fun i d h hm => ?_,fun i d h hm => ?_,fun i j a d e _ h _ hm => ?_,fun i o h => nomatch h⟩
  · obtain ⟨_,hq,v,h1,h2⟩ := at_ i d h
    rw [hq] at hm
    rcases h2 with ⟨_,h2⟩ | ⟨h3,h2⟩
    · exact ⟨v,h1,h2⟩
    · rw [hm] at h3; cases h3
  · obtain ⟨_,hq,v,h1,h2⟩ := at_ i d h
    rw [hq] at hm
    rcases h2 with ⟨h3,h2⟩ | ⟨h3,h2⟩ <;> rw [hm] at h3 <;> cases h3
  · obtain ⟨_,hq,v,h1,h2⟩ := at_ i d h
    rw [hq] at hm
    rcases h2 with ⟨h3,h2⟩ | ⟨h3,h2⟩
    · rw [hm] at h3; cases h3
    · refine ⟨v,h1,?_⟩
      rcases h2 with h2 | ⟨a,rfl,h2⟩
      · exact .inl h2
      · exact .inr ⟨a,rfl,h2,h2.ob.isS⟩
  · obtain ⟨_,hq,v,h1,h2⟩ := at_ i d h
    rw [hq] at hm
    rcases h2 with ⟨h3,h2⟩ | ⟨h3,h2⟩ <;> rw [hm] at h3 <;> cases h3
theorem zgp {X : Cx} {ro : Bool} {fs : FS} {m' : List Md} {G : GH} {H : Hp} {r : Rho} {Q : VK} (q : fin (outR ro (fs r)) (fun d => ∀ v G' H',Grow X.K G H G' H'→RV ro X.K H G' H' v d→Q v H') fun _ => False) :
    oTo X ⟨G,H,fun _ => none⟩ ro m' [] G { nx := fun _ H' => Q .non H',rt := Q } (fs r) := by
  cases e : fs r with
  | nx r' =>
    rw [e] at q
    cases ro with
    | false => exact fun σ' G' H' _ si => q .non G' H' si.grown (.scl .non)
    | true => exact q.elim
  | rt d => rw [e] at q; exact fun v G' H' wg rv => q v G' H' wg rv
  | bk r' => rw [e] at q; exact q.elim
  | ct r' => rw [e] at q; exact q.elim
  | exc x r' => rw [e] at q; exact q.elim
  | stuck => rw [e] at q; exact q
theorem zgM {x qual : Str} {st : Stmt} {f : Addr} {fd : FuncData} {N ps : List Str} {k : Nat} {ro : Bool} {ms : List Md} {fs : FS} {m' : List Md} (F : Fun K x qual st f fd) (S : FnScope N ps (zac st)) (hms : ms.length = ps.length)
    (hbody : ∀ (cdv : Value) (A : Around) (outer : List Env) (s : Shared) (H : Hp) (g : GE) (E : XK),Room k (A.deeper (envOfC qual (zac st) s.heap.objs.size f cdv)) →
      SSs (cxOf CX0 P w K mg base N qual (zac st) f cdv A outer s H E).nox g ro [] (zb8 N.length ms) (zaS st) fs m') :
    FnOk P w K mg base CX0 (k + 1) f fd ps (spM K ro ms fun ds => outR ro (fs (zaq N.length ds))) := by
  refine F.ok S (fun vs H Q E ⟨G,ds,gk,rs,q⟩ => rs.len.1.trans hms) fun cdv A outer s H vs Q E hr h => ?_
  obtain ⟨G,ds,gk,rs,q⟩ := h
  have hpl : ps.length≤N.length := by have := congrArg List.length S.pre; rw [List.length_take] at this; omega
  exact ⟨_,(hbody cdv A outer s H ⟨G,H,fun _ => none⟩ E hr).2,zaq N.length ds,G,zdV gk rs (by omega),zgp q⟩
end
section
variable {X : Cx} {g : GE} {m : List Md} {e : Expr} {f : FE} {es : List Expr} {fl : Rho → Res (List D)} {k : Nat} {fa : Addr} {fd : FuncData} {ps : List Str} {F : List D → Res D} {dvs : List V} {ds : List Value} {dds : List D} {x : Str} {p pos : Pos} {ms : List Md}
noncomputable def tLM (X : Cx) (g : GE) (m : List Md) (ms : List Md) (f : Rho→Res (List D)) : TA := fun σ H Q => ∃ r G,SI X g m r G σ H∧fin (f r) (fun ds => ∀ vs G' H',Grow X.K G H G' H'→ArgsOk X.K G' H' ms vs ds→Q vs H') (XW X σ G H)
noncomputable def SAM (X : Cx) (g : GE) (m : List Md) (es : List Expr) (ms : List Md) (f : Rho→Res (List D)) : Prop := PA X es (tLM X g m ms f)
theorem zaJ : SAM X g m [] [] lNil := PA.imp zdm fun σ H Q ⟨r,G,si,k⟩ => k [] G H (Grow.refl si.gok) .nil
theorem m_sh (ha : SE X g m e f) (hr : SAM X g m es ms fl) (hs : starEach (e::es) X.env = (false,eval e X.env)::starEach es X.env := by rfl) : SAM X g m (e::es) (.sh::ms) (zad f fl) := by
  refine PA.imp (zbP ha hr hs) fun σ H Q ⟨r,G,si,k⟩ => ⟨r,G,si,zaf (zai k) fun d k1 v G1 H1 w1 r1 => ⟨r,G1,si.grow w1,?_⟩⟩
  exact zbl (zai k1) w1 fun ds z vs G2 H2 w2 r2 => z (v::vs) G2 H2 (w1.trans w2) (.sh (r1.mono w2.ge) r2)
theorem m_bw (ha : SB X g m e f) (hr : SAM X g m es ms fl) (hs : starEach (e::es) X.env = (false,eval e X.env)::starEach es X.env := by rfl) : SAM X g m (e::es) (.bw::ms) (zad f fl) := by
  refine PA.imp (zbP ha hr hs) fun σ H Q ⟨r,G,si,k⟩ => ⟨r,G,si,zaf (zai k) fun d k1 v G1 H1 w1 r1 => ⟨r,G1,si.grow w1,?_⟩⟩
  exact zbl (zai k1) w1 fun ds z vs G2 H2 w2 r2 => z (v::vs) G2 H2 (w1.trans w2) (.bw (r1.mono w2) r2)
noncomputable def zat (fl : Rho→Res (List D)) (dds : List D) (F : List D→Res D) : FE := fun r => (fl r).bind fun ds => noX (F (ds++dds))
theorem zfr {ro : Bool} {vs : List V} {zs : List D} {G : GH} {H : Hp} {Q : VK} (gk : GOk X.K G H) (rs : ArgsOk X.K G H ms vs zs) (hsc : Paired Scl dvs dds) (q : fin (noX (F (zs++dds))) (fun d => ∀ v G' H',Grow X.K G H G' H'→RV ro X.K H G' H' v d→Q v H') fun _ => False) :
    spM X.K ro (ms++List.replicate dds.length .sh) F (vs++dvs) H Q E0 := by
  refine ⟨G,zs++dds,gk,rs.app hsc,?_⟩
  cases e : F (zs++dds) with
  | ok d => rw [e] at q; exact q
  | exc x => rw [e] at q; exact q.elim
  | stuck => rw [e] at q; exact q.elim
theorem zfe {α : Type} {r : Res α} {q : α→Prop} {x : D→Prop} (h : fin r q x) (hr : ∀ e,r≠.exc e) : fin r q fun _ => False := by
  cases r with
  | ok a => exact h
  | exc e => exact absurd rfl (hr e)
  | stuck => exact h
theorem ziG (r : Res D) (e : D) : noX r≠.exc e := by cases r <;> simp [noX]
theorem zh7 (G1 : FnOk X.prog X.w X.K X.mg X.base CX0 k fa fd ps (spM X.K false (ms++List.replicate dds.length .sh) F)) (hr : Room k X.A) (hg : Gl X x) (hm : X.mg x = some (.ref fa)) (hk : PySem.W.keepIn X.K (.ref fa) = true) (hb : zcq X.K fd ps ds) (hd : Vals dvs ds) (hsc : Paired Scl dvs dds)
    (ha : SAM X g m (e::es) ms fl) (hdb : (x == ("__debug__" : Str)) = false := by decide) (he : starEach (e::es) X.env = (false,eval e X.env)::starEach es X.env := by rfl) (hpl : (backTo pos (starEach es X.env)).any (·.1) = false := by rfl) :
    SE X g m (.Call (.Name x p) (e::es) [] pos) (zat fl dds F) := by
  refine PE.imp (zhd G1 hr hg hm hk hb hd zjH ha hdb he hpl) fun σ H Q ⟨r,G,si,q⟩ => ⟨r,G,si,?_⟩
  cases ez : fl r with
  | ok zs =>
    unfold zat at q
    rw [ez] at q
    intro vs G' H' w' rs
    exact zfr w'.ok rs hsc (zaf (zfe q (ziG _)) fun d k v G2 H2 w2 rv => k v G2 H2 (w'.trans w2) rv)
  | exc x => unfold zat at q; rw [ez] at q; exact q
  | stuck => unfold zat at q; rw [ez] at q; exact q
end
end DL
end
section
namespace DL
open PySem PySem.Spec PyProof.Rows L2
theorem zgh {env : Env} : ∀ (l : List (Str × NameKind)) (cs : List (Str × Addr)),(∀ x∈l,x.2 = .free→∃ c,env.cells.lookup x.1 = some c)→(∀ x c,cs.lookup x = some c→env.cells.lookup x = some c) →
    ∃ cl,(forIn l cs (fun (x : Str × NameKind) (cs : List (Str × Addr)) => if (x.2 == NameKind.free) = true then (do let a ← cellOf env x.1; pure (ForInStep.yield ((x.1,a)::cs))) else pure (ForInStep.yield cs)) : Sem (List (Str × Addr))) = pure cl ∧
      (∀ x c,cl.lookup x = some c→env.cells.lookup x = some c)∧(∀ x,(x,NameKind.free)∈l→∃ c,cl.lookup x = some c)∧(∀ x c,cs.lookup x = some c→∃ c',cl.lookup x = some c') := by
  intro l
  induction l with
  | nil => intro cs _ h; exact ⟨cs,rfl,h,fun x hx => (by cases hx),fun x c h => ⟨c,h⟩⟩
  | cons y l ih =>
    intro cs hf hc
    obtain ⟨n,k⟩ := y
    by_cases hk : k = .free
    · subst hk
      obtain ⟨c,ec⟩ := hf (n,.free) List.mem_cons_self rfl
      have e1 : cellOf env n = pure c := by unfold cellOf; rw [ec]
      have hc' : ∀ x c',((n,c)::cs).lookup x = some c'→env.cells.lookup x = some c' := fun x c' h => by
        rw [List.lookup_cons] at h
        cases q : x == n with
        | true => rw [q] at h; cases h; rw [eq_of_beq q]; exact ec
        | false => rw [q] at h; exact hc x c' h
      obtain ⟨cl,e2,h1,h2,h3⟩ := ih ((n,c)::cs) (fun x hx => hf x (List.mem_cons_of_mem _ hx)) hc'
      refine ⟨cl,?_,h1,fun x hx => ?_,fun x c' h => ?_⟩
      · rw [← e2]
        rw [List.forIn_cons]
        show (cellOf env n >>= fun a => pure (ForInStep.yield ((n,a)::cs))) >>= _ = _
        rw [e1]
        rfl
      · rcases List.mem_cons.mp hx with z | z
        · cases z; exact h3 n c (by rw [List.lookup_cons]; simp)
        · exact h2 x z
      · cases q : x == n with
        | true => exact h3 x c (by rw [List.lookup_cons,q])
        | false => exact h3 x c' (by rw [List.lookup_cons,q]; exact h)
    · obtain ⟨cl,e2,h1,h2,h3⟩ := ih cs (fun x hx => hf x (List.mem_cons_of_mem _ hx)) hc
      have hb : (k == NameKind.free) = false := by simpa using hk
      refine ⟨cl,?_,h1,fun x hx => ?_,h3⟩
      · rw [← e2,List.forIn_cons]
        simp only [hb,Bool.false_eq_true,if_false]
        rfl
      · rcases List.mem_cons.mp hx with z | z
        · cases z; exact absurd rfl hk
        · exact h2 x z
theorem zes {scope : Scope} {env : Env} (hf : ∀ x∈scope.names,x.2 = .free→∃ c,env.cells.lookup x.1 = some c) :
    ∃ cl,closureFor scope env = pure cl∧(∀ x c,cl.lookup x = some c→env.cells.lookup x = some c)∧(∀ x,(x,NameKind.free)∈scope.names→∃ c,cl.lookup x = some c) := by
  obtain ⟨cl,e,h1,h2,_⟩ := zgh scope.names [] hf (fun x c h => by cases h)
  refine ⟨cl,?_,h1,h2⟩
  have e0 : closureFor scope env = ((forIn scope.names ([] : List (Str × Addr)) (fun (x : Str × NameKind) (cs : List (Str × Addr)) => if (x.2 == NameKind.free) = true then (do let a ← cellOf env x.1; pure (ForInStep.yield ((x.1,a)::cs))) else pure (ForInStep.yield cs)) : Sem (List (Str × Addr))) >>= fun cs => pure cs) := rfl
  rw [e0,e]
  rfl
theorem zb2 {f : Str→NameKind→NameKind} : ∀ (l : List (Str × NameKind)) (x : Str),(l.map fun y => (y.1,f y.1 y.2)).lookup x = (l.lookup x).map (f x)
  | [],x => rfl
  | (n,k)::l,x => by
    rw [List.map_cons,List.lookup_cons,List.lookup_cons]
    cases q : x == n with
    | true => simp [eq_of_beq q]
    | false => exact zb2 l x
noncomputable def relK (env : Env) (n : Str) (k : NameKind) : NameKind := if (k == .free && env.scope.kind == .function && env.kindOf n == some .cell) = true then .cell else k
theorem zb1 (scope : Scope) (env : Env) (x : Str) : (relabel scope env).names.lookup x = (scope.names.lookup x).map (relK env x) := by
  rw [← zb2]
  unfold relabel
  congr 1
  apply List.map_congr_left
  intro y _
  obtain ⟨n,k⟩ := y
  show (if (k == NameKind.free && env.scope.kind == .function && env.kindOf n == some .cell) = true then (n,NameKind.cell) else (n,k)) = (n,relK env n k)
  unfold relK
  split <;> rfl
structure CompSc (X : Cx) (scope : Scope) (N' : List Str) (nl : Nat) (cap : List Nat) : Prop where
  kind : scope.kind = .function
  nocell : ∀ y∈scope.names,y.2≠.cell
  names : ∀ y∈scope.names,y.2 = .local→scope.names.lookup y.1 = some .local
  freeK : ∀ y∈scope.names,y.2 = .free→X.env.kindOf y.1 = some .cell∨X.env.kindOf y.1 = some .free
  len : N'.length = nl + cap.length
  capN : ∀ j,j < cap.length→∃ x,N'[nl + j]? = some x∧X.N[cap.getD j 0]? = some x∧scope.names.lookup x = some .free
noncomputable def cxC (X : Cx) (s₀ : Shared) (H₀ : Hp) (N' : List Str) (scope : Scope) (cl : List (Str × Addr)) (C : Addr) (fp : List Addr) : Cx where
  prog := X.prog
  w := X.w
  K := X.K
  mg := X.mg
  base := X.base
  A := X.A
  N := N'
  s₀ := s₀
  H₀ := H₀
  env := compEnvC scope cl C X.env
  outer := X.stack
  stack := X.stack
  ex := fp
  fn := fun _ => false
  calm := X.calm
  pn := []
  xe := fun _ _ => False
section
variable {X : Cx} {pins : List (Addr × Obj)} {σ : L2.St} {H : Hp} {s : Shared} {scope : Scope} {N' : List Str} {nl : Nat} {cap : List Nat} {cl : List (Str × Addr)} {C : Addr} {fp : List Addr}
theorem zja (I : Inv X pins σ H s) (sc : CompSc X scope N' nl cap) (h1 : ∀ x c,cl.lookup x = some c→X.env.cells.lookup x = some c) (h2 : ∀ x,(x,NameKind.free)∈scope.names→∃ c,cl.lookup x = some c)
    (hf : ∀ b∈fp,FpOk X pins H b∧b < s.heap.objs.size) (hC : s.heap.objs.size≤C) : (cxC X s H N' scope cl C fp).Ok where
  mod := I.ok.mod
  kind := sc.kind
  glob := I.ok.glob
  blt := I.ok.blt
  above := hC
  inj := fun x y c a b => I.ok.inj x y c (h1 x c a) (h1 y c b)
  has := fun x hk => by
    have hk' : (scope.names.lookup x).map (relK X.env x) = some .cell∨(scope.names.lookup x).map (relK X.env x) = some .free := by
      rw [← zb1]; exact hk
    cases e : scope.names.lookup x with
    | none => rw [e] at hk'; rcases hk' with z | z <;> cases z
    | some k =>
      have hm := PySem.mem_of_lookup e
      have kf : k = .free := by
        rw [e] at hk'
        have hk2 : relK X.env x k = .cell∨relK X.env x k = .free := by
          rcases hk' with z | z
          · exact .inl (Option.some.inj z)
          · exact .inr (Option.some.inj z)
        unfold relK at hk2
        split at hk2
        · rename_i hc
          simp only [Bool.and_eq_true,beq_iff_eq] at hc
          exact hc.1.1
        · rcases hk2 with z | z
          · exact absurd z (sc.nocell _ hm)
          · exact z
      subst kf
      exact h2 x hm
  cab := fun x c h => by cases h
  hd := I.ok.hd
  frames := I.ok.frames
  stk := .inl rfl
  exf := fun b hb => ⟨Nat.ne_of_lt (Nat.lt_of_lt_of_le (hf b hb).2 hC),fun x c e => (hf b hb).1.2.2.2.2.1 x c (h1 x c e)⟩
  bs := I.bs
  bsz := Nat.le_trans I.ok.bsz I.sz
  noex := fun b o e hb => by
    obtain ⟨_,_,_,hx,_⟩ := (hf b hb).1
    rcases hx with z | z
    · exact I.ok.noex b o e z
    · exact absurd (Nat.lt_of_lt_of_le (Heap.lt_size e) (Nat.le_trans I.ok.bsz z)) (Nat.lt_irrefl _)
  exfs := fun b hb hfs => by
    obtain ⟨_,q1,q2,_⟩ := (hf b hb).1
    rcases List.mem_cons.mp (I.stkSub b hfs) with z | z
    · exact q1 z
    · exact q2 z
  funs := I.stack
  frf := I.stkFree
end
noncomputable def zcf (ft : FT) (q : FQ) (fe : FE) (r0 : Rho) : List D→Res (List D)
  | [] => .ok []
  | d::ds => (opt (ft d r0)).bind fun r1 => (q r1).bind fun c => if c = true then (fe r1).bind fun v => (zcf ft q fe r0 ds).bind fun vs => .ok (v::vs) else zcf ft q fe r0 ds
noncomputable def capR (nl : Nat) (cap : List Nat) (r : Rho) : Rho := List.replicate nl none++cap.map fun i => r.getD i none
noncomputable def capM (nl : Nat) (cap : List Nat) (m : List Md) : List Md := List.replicate nl Md.sh++cap.map fun i => if m.getD i Md.sh = Md.sh then Md.sh else Md.bw
noncomputable def capS (nl : Nat) (cap : List Nat) (st : L2.St) : L2.St := List.replicate nl none++cap.map fun i => st.getD i none
theorem zcH {α : Type} {nl : Nat} {cap : List Nat} {u : α} {h : Nat→α} {i : Nat} (hi : nl≤i) : (List.replicate nl u++cap.map h)[i]? = (cap[i - nl]?).map h := by
  rw [List.getElem?_append_right (by simpa using hi),List.length_replicate,List.getElem?_map]
section
variable {X : Cx} {pins : List (Addr × Obj)} {σ : L2.St} {H H' : Hp} {s : Shared} {scope : Scope} {N' : List Str} {nl : Nat} {cap : List Nat} {cl : List (Str × Addr)} {C : Addr} {fp : List Addr} {g : GE} {G G' : GH} {m : List Md} {r : Rho}
theorem zjY (si : SI X g m r G σ H) (w : Grow X.K G H G' H') : SI (cxC X s H N' scope cl C fp) ⟨G,H,fun _ => none⟩ (capM nl cap m) (capR nl cap r) G' (capS nl cap σ) H' := by
  have lens : (capM nl cap m).length = nl + cap.length := by simp [capM]
  have lens2 : (capR nl cap r).length = nl + cap.length := by simp [capR]
  have lens3 : (capS nl cap σ).length = nl + cap.length := by simp [capS]
  have rget : ∀ (i : Nat) d,(capR nl cap r)[i]? = some (some d)→nl≤i∧∃ j,cap[i - nl]? = some j∧r[j]? = some (some d) := fun i d h => by
    by_cases hi : i < nl
    · unfold capR at h
      rw [List.getElem?_append_left (by simpa using hi),List.getElem?_replicate] at h
      split at h <;> cases h
    · refine ⟨by omega,?_⟩
      unfold capR at h
      rw [zcH (by omega)] at h
      cases e : cap[i - nl]? with
      | none => rw [e] at h; cases h
      | some j =>
        rw [e] at h
        refine ⟨j,rfl,?_⟩
        have h' : r.getD j none = some d := Option.some.inj h
        rw [List.getD_eq_getElem?_getD] at h'
        cases e2 : r[j]? with
        | none => rw [e2] at h'; cases h'
        | some o => rw [e2] at h'; rw [show o = some d from h']
  have mget : ∀ (i j : Nat) md,nl≤i→cap[i - nl]? = some j→(capM nl cap m)[i]? = some md→md = if m.getD j Md.sh = Md.sh then Md.sh else Md.bw := fun i j md hi hj h => by
    unfold capM at h
    rw [zcH hi,hj] at h
    exact (Option.some.inj h).symm
  have sget : ∀ (i j : Nat) v,nl≤i→cap[i - nl]? = some j→σ[j]? = some (some v)→(capS nl cap σ)[i]? = some (some v) := fun i j v hi hj h => by
    unfold capS
    rw [zcH hi,hj]
    show some (σ.getD j none) = _
    rw [List.getD_eq_getElem?_getD,h]
    rfl
  have mj : ∀ (j : Nat) d,r[j]? = some (some d)→m[j]? = some (m.getD j Md.sh) := fun j d h => by
    have hl : j < m.length := by
      have := (List.getElem?_eq_some_iff.mp h).1
      rw [si.lr,← si.lm] at this; exact this
    rw [List.getD_eq_getElem?_getD,List.getElem?_eq_getElem hl]
    rfl
  refine ⟨w.ok,w.he,w.ge,w.gf,by rw [lens,lens3],by rw [lens2,lens3],fun i d h hm => ?_,fun i d h hm => ?_,fun i d h hm => ?_,fun i j a d e _ h _ hm => ?_,fun i o h => nomatch h⟩
  · obtain ⟨hi,j,hj,hr⟩ := rget i d h
    have e := mget i j _ hi hj hm
    have hsh : m.getD j Md.sh = Md.sh := by
      by_cases z : m.getD j Md.sh = Md.sh
      · exact z
      · rw [if_neg z] at e; cases e
    obtain ⟨v,h1,h2⟩ := si.sh j d hr (by rw [mj j d hr,hsh])
    exact ⟨v,sget i j v hi hj h1,h2.mono w.ge⟩
  · obtain ⟨hi,j,hj,hr⟩ := rget i d h
    have e := mget i j _ hi hj hm
    split at e <;> cases e
  · obtain ⟨hi,j,hj,hr⟩ := rget i d h
    have e := mget i j _ hi hj hm
    have hsh : m.getD j Md.sh≠Md.sh := by
      intro z
      rw [if_pos z] at e; cases e
    have hmj := mj j d hr
    cases q : m.getD j Md.sh with
    | sh => exact absurd q hsh
    | ow =>
      rw [q] at hmj
      obtain ⟨a,h1,h2,_⟩ := si.ow j d hr hmj
      exact ⟨_,sget i j _ hi hj h1,.inr ⟨a,rfl,h2.mono w,h2.ob.isS⟩⟩
    | bw =>
      rw [q] at hmj
      obtain ⟨v,h1,h2⟩ := si.bw j d hr hmj
      refine ⟨v,sget i j _ hi hj h1,?_⟩
      rcases h2 with h2 | ⟨a,rfl,h2,_⟩
      · exact .inl (h2.mono w.ge)
      · exact .inr ⟨a,rfl,h2.mono w,h2.ob.isS⟩
  · obtain ⟨hi,j',hj,hr⟩ := rget i d h
    have e := mget i j' _ hi hj hm
    split at e <;> cases e
theorem zjb (I : Inv X pins σ H s) (ok : (cxC X s H N' scope cl C fp).Ok) (sc : CompSc X scope N' nl cap) (h1 : ∀ x c,cl.lookup x = some c→X.env.cells.lookup x = some c) (h2 : ∀ x,(x,NameKind.free)∈scope.names→∃ c,cl.lookup x = some c)
    (hN : X.N.Nodup) {s4 : Shared} {H4 : Hp} {mc : Str→Option Value} (hos : s4.os = s.os) (hb : AllBare s4.gens) (kp : ∀ b o,s.heap.get? b = some o→s4.heap.get? b = some o) (hns : s4.heap.Ns C mc) (hC : s.heap.objs.size≤C) (hHC : H4 C = none)
    (hH : ∀ b,H b = none→b < s.heap.objs.size→H4 b = none) (un : Un (frs X.stack) fp H H4 s.heap s4.heap) (hok : HOk X.prog X.w H4 s4.heap) : Inv (cxC X s H N' scope cl C fp) [] (capS nl cap σ) H4 s4 := by
  refine ⟨ok,hos,hb,un,⟨mc,hns,fun i x v e1 e2 e3 => ?_⟩,fun x c e => ?_,hHC,fun x c e => ?_,fun p hp => absurd (show p∈([] : List (Addr × Obj)) from hp) (by simp),hok,?_⟩
  · have hi : nl≤i := by
      by_cases z : i < nl
      · unfold capS at e2
        rw [List.getElem?_append_left (by simpa using z),List.getElem?_replicate] at e2
        split at e2 <;> cases e2
      · omega
    unfold capS at e2
    rw [zcH hi] at e2
    cases ej : cap[i - nl]? with
    | none => rw [ej] at e2; cases e2
    | some j =>
      rw [ej] at e2
      have hj : i - nl < cap.length := (List.getElem?_eq_some_iff.mp ej).1
      obtain ⟨x',q1,q2,q3⟩ := sc.capN (i - nl) hj
      have ed : cap.getD (i - nl) 0 = j := by rw [List.getD_eq_getElem?_getD,ej]; rfl
      rw [ed] at q2
      have ei : nl + (i - nl) = i := by omega
      rw [ei] at q1
      have e1' : N'[i]? = some x := e1
      rw [q1] at e1'
      have ex : x' = x := Option.some.inj e1'
      subst ex
      have hv : σ[j]? = some (some v) := by
        have z : σ.getD j none = some v := Option.some.inj e2
        rw [List.getD_eq_getElem?_getD] at z
        cases q : σ[j]? with
        | none => rw [q] at z; cases z
        | some o => rw [q] at z; rw [show o = some v from z]
      have hfree := PySem.mem_of_lookup q3
      have kX := sc.freeK _ hfree rfl
      obtain ⟨mx,hnx,hl⟩ := I.loc
      obtain ⟨u,ru,lk⟩ := hl j x' v q2 hv (.inr kX)
      refine ⟨u,ru,.inr ?_⟩
      obtain ⟨c,ec⟩ := h2 x' hfree
      have hkk : Env.kindOf (cxC X s H N' scope cl C fp).env x' = some .cell∨Env.kindOf (cxC X s H N' scope cl C fp).env x' = some .free := by
        have z : (relabel scope X.env).names.lookup x' = some (relK X.env x' .free) := by rw [zb1,q3]; rfl
        show (relabel scope X.env).names.lookup x' = _∨(relabel scope X.env).names.lookup x' = _
        rw [z]
        unfold relK
        split
        · exact .inl rfl
        · exact .inr rfl
      refine ⟨hkk,c,ec,?_⟩
      rcases lk with ⟨k,_⟩ | ⟨_,c',ec',hcell⟩
      · rcases kX with z | z <;> rw [k] at z <;> cases z
      · rw [h1 x' c ec] at ec'
        cases ec'
        obtain ⟨o,ho,hd⟩ := hcell
        exact ⟨o,kp c o ho,hd⟩
  · obtain ⟨v,o,ho,hd⟩ := I.cell x c (h1 x c e)
    exact ⟨v,o,kp c o ho,hd⟩
  · obtain ⟨v,o,ho,hd⟩ := I.cell x c (h1 x c e)
    exact hH c (I.freeC x c (h1 x c e)) (Heap.lt_size ho)
  · show (capS nl cap σ).length = N'.length
    rw [sc.len]
    simp [capS]
end
end DL
end
section
namespace DL
open PySem PySem.Spec PyProof.Rows L2
section
variable {prog : Program} {w : World} {A : Around} {R : Result → Shared → Prop} {s : Shared}
theorem zhD {elt target iter : Expr} {ifs : List Expr} {scope : Scope} {pos : Pos} {it acc : Value} {env : Env} (I : Nat→Shared→Prop)
    (turn : ∀ n s,I n s→wpAny (model prog w) A (pyNext it) (fun r s1 => match r with
      | none => R (.ok .next) s1
      | some v => wpAny (model prog w) A (letOwnedTupleGo target it v) (fun _ s1' => wpAny (model prog w) A (assign target env v) (fun _ s2 =>
          wpAny (model prog w) A (forIn ifs true fun c r => if r = true then do let ok ← isTrue c env (eval c env); pure (ForInStep.yield ok) else pure (ForInStep.yield r)) (fun ok s3 =>
            if ok = true then wpAny (model prog w) A (eval elt env) (fun x s4 =>
              wpAny (model prog w) A (call (.builtin "list.append") [acc,x]) (fun _ s5 => ∃ m,m < n∧I m s5) (notedBy (model prog w) A env fun e s' => R (.error e) s') s4) (notedBy (model prog w) A env fun e s' => R (.error e) s') s3
            else ∃ m,m < n∧I m s3) (notedBy (model prog w) A env fun e s' => R (.error e) s') s2) (notedBy (model prog w) A env fun e s' => R (.error e) s') s1')
          (notedBy (model prog w) A env fun e s' => R (.error e) s') s1) (notedBy (model prog w) A env fun e s' => R (.error e) s') s)
    (n : Nat) (h : I n s) : codeAny (model prog w) A (.compLoop (.ListComp elt [⟨target,iter,ifs,0⟩] scope pos) 0 it acc env) R s := by
  refine codeAny_loop rfl I (fun n s hI => ?_) n h
  show wpAny _ A ((compTurn (.ListComp elt [⟨target,iter,ifs,0⟩] scope pos) 0 it acc env).onRaise (fun x => do noteFrame x env; theTreesLotGoes x)) _ _ s
  refine wpAny_noted ?_
  rw [compTurn_list]
  refine wpAny_bind (wpAny_standAt (wpAny_bind (wpAny_mono (turn n s hI) (fun r s1 h1 => ?_) fun _ _ h' => h')))
  cases r with
  | none => exact wpAny_pure h1
  | some v =>
    refine wpAny_bind (wpAny_mono h1 (fun _ s1' h1' => ?_) fun _ _ h' => h')
    refine wpAny_bind (wpAny_mono h1' (fun _ s2 h2 => wpAny_bind (wpAny_mono h2 (fun ok s3 h3 => ?_) fun _ _ h' => h')) fun _ _ h' => h')
    cases ok with
    | false => exact wpAny_pure ⟨rfl,h3⟩
    | true =>
      exact wpAny_bind (wpAny_bind (wpAny_mono h3 (fun x s4 h4 => wpAny_bind (wpAny_mono h4 (fun _ s5 h5 => wpAny_pure (wpAny_pure ⟨rfl,h5⟩)) fun _ _ h' => h')) fun _ _ h' => h'))
end
noncomputable def SQs (X : Cx) (g : GE) (m : List Md) (ifs : List Expr) (f : FQ) : Prop := ∀ (pins : List (Addr × Obj)) (s : Shared) (σ : L2.St) (H : Hp) (Q : Bool→Hp→Prop),Inv X pins σ H s→tQ X g m f σ H Q →
  wpAny (model X.prog X.w) X.A (forIn ifs true fun c r => if r = true then do let ok ← isTrue c X.env (eval c X.env); pure (ForInStep.yield ok) else pure (ForInStep.yield r)) (TP X pins σ Q) X.xe s
section
variable {X : Cx} {g : GE} {m : List Md} {c : Expr} {p : FQ}
theorem zgA : SQs X g m [] fun _ => .ok true := fun pins s σ H Q I ⟨r,G,si,q⟩ => wpAny_tests_nil ⟨H,I,q G H (Grow.refl si.gok)⟩
end
noncomputable def FtOk (ft : FT) (nl : Nat) : Prop := ∀ d r r1,ft d r = some r1→r1.length = r.length∧∀ i,nl≤i→r1[i]? = r[i]?
noncomputable def zgr (ft : FTs) (nl : Nat) : Prop := ∀ d r r1,ft d r = some r1→r1.length = r.length∧∀ i,nl≤i→r1[i]? = r[i]?
theorem zfb {i nl : Nat} (h : i < nl) : FtOk (ftN i) nl := fun d r r1 e => by
  cases e
  exact ⟨by simp,fun j hj => by rw [List.getElem?_set_ne (by omega)]⟩
theorem zgb {nl : Nat} : zgr zdt nl := fun ds r r1 e => by
  cases ds with
  | nil => cases e; exact ⟨rfl,fun _ _ => rfl⟩
  | cons _ _ => cases e
theorem zdu {ft : FT} {fts : FTs} {nl : Nat} (h1 : FtOk ft nl) (h2 : zgr fts nl) : zgr (zbr ft fts) nl := fun ds r r1 e => by
  cases ds with
  | nil => cases e
  | cons d ds =>
    have e' : ((ft d r).bind fun r' => fts ds r') = some r1 := e
    cases q : ft d r with
    | none => rw [q] at e'; cases e'
    | some r2 =>
      rw [q] at e'
      obtain ⟨a1,a2⟩ := h1 d r r2 q
      obtain ⟨b1,b2⟩ := h2 ds r2 r1 e'
      exact ⟨b1.trans a1,fun i hi => (b2 i hi).trans (a2 i hi)⟩
theorem zi3 {fts : FTs} {nl : Nat} (h : zgr fts nl) : FtOk (ftT fts) nl := fun d r r1 e => by
  cases d with
  | tup ds => exact h ds r r1 e
  | lst ds => exact h ds r r1 e
  | _ => cases e
section
variable {X : Cx} {pins : List (Addr × Obj)} {σ : L2.St} {H2 : Hp} {s2 : Shared} {scope : Scope} {N' : List Str} {nl : Nat} {cap : List Nat} {cl : List (Str × Addr)} {fp : List Addr} {g : GE} {G2 : GH} {m : List Md} {r : Rho} {elt tg iter : Expr} {ifs : List Expr} {pos : Pos}
  {J : It} {it : Addr} {tn : Nat→Heap→Prop} {ds vs : List D} {ft : FT} {q : FQ} {fe : FE} {E : Value→Shared→Prop}
theorem zhE (i : Nat) : (capM nl cap m)[i]?≠some Md.ow := fun h => by
  by_cases hi : i < nl
  · unfold capM at h
    rw [List.getElem?_append_left (by simpa using hi),List.getElem?_replicate] at h
    split at h <;> cases h
  · unfold capM at h
    rw [zcH (by omega)] at h
    cases e : cap[i - nl]? with
    | none => rw [e] at h; cases h
    | some j =>
      rw [e] at h
      have h' : (if m.getD j Md.sh = Md.sh then Md.sh else Md.bw) = Md.ow := Option.some.inj h
      split at h' <;> cases h'
theorem zfp {i : Nat} (hi : i < nl) (d : D) : (capR nl cap r)[i]?≠some (some d) := fun h => by
  unfold capR at h
  rw [List.getElem?_append_left (by simpa using hi),List.getElem?_replicate] at h
  split at h <;> cases h
theorem zfm (hN : X.N.Nodup) (hcalm : X.calm = true) (sc : CompSc X scope N' nl cap) (h1 : ∀ x c,cl.lookup x = some c→X.env.cells.lookup x = some c) (h2 : ∀ x,(x,NameKind.free)∈scope.names→∃ c,cl.lookup x = some c)
    (I2 : Inv X pins σ H2 s2) (si : SI X g m r G2 σ H2) (T : Turn X.prog X.w X.K tg J fp it tn) (st : tn 0 s2.heap) (hf : ∀ b∈fp,FpOk X pins H2 b) (Y : YieldsC X.K J ds G2 H2) (hsz : ds.length≤sizeLine)
    (hg : ∀ C,SG (cxC X s2 H2 N' scope cl C fp) ⟨G2,H2,fun _ => none⟩ (capM nl cap m) tg ft (capM nl cap m)) (hft : FtOk ft nl) (hq : ∀ C,SQs (cxC X s2 H2 N' scope cl C fp) ⟨G2,H2,fun _ => none⟩ (capM nl cap m) ifs q) (he : ∀ C,SE (cxC X s2 H2 N' scope cl C fp) ⟨G2,H2,fun _ => none⟩ (capM nl cap m) elt fe)
    (hres : zcf ft q fe (capR nl cap r) ds = .ok vs) {RR : Value→Addr→Result→Shared→Prop}
    (hRR : ∀ (p C : Addr) (s' : Shared) (H' : Hp) (G' : GH),Inv X pins σ H' s'→(∃ mm,s'.heap.Ns C mm)→H' C = none→C≠X.env.locals→X.s₀.heap.objs.size≤C→(∀ x c,X.env.cells.lookup x = some c→c≠C)→(∀ z∈X.pn++pins,z.1≠C) →
      Grow X.K G2 H2 G' H'→H2 p = none→Own X.K G' H' p (.lst vs)→RR (.ref p) C (.ok .next) s') :
    wpAny (model X.prog X.w) X.A (newList []) (fun acc s3 => wpAny (model X.prog X.w) X.A (newFunctionEnv scope X.env.globals cl [] X.env.qual none .none (some X.env)) (fun cenv s4 =>
      codeAny (model X.prog X.w) X.A (.compStart (.ListComp elt [⟨tg,iter,ifs,0⟩] scope pos) 0 (.ref it) acc { cenv with scope := relabel scope X.env }) (RR acc cenv.locals) s4) E s3) E s2 := by
  refine wpAny_newObj_type (wpAny_newFunctionEnv sc.nocell (by intro y hy; simp at hy) (fun h₁ hns₁ hsb₁ => ?_) sc.kind)
  dsimp only at hns₁ hsb₁ ⊢
  generalize hH2 : s2.heap.push { cls := .type "list",dict := none,data := .seq ([] : List Value).toArray } = HH at hns₁ hsb₁ ⊢
  have hC : HH.objs.size = s2.heap.objs.size + 1 := by rw [← hH2,Heap.size_push]
  have hDC : s2.heap.objs.size≠HH.objs.size := by rw [hC]; exact Nat.ne_of_lt (Nat.lt_succ_self _)
  have hCle : s2.heap.objs.size≤HH.objs.size := by rw [hC]; exact Nat.le_succ _
  have below : ∀ b,b < s2.heap.objs.size→b≠HH.objs.size∧b≠s2.heap.objs.size := fun b hb => ⟨by rw [hC]; exact Nat.ne_of_lt (Nat.lt_succ_of_lt hb),Nat.ne_of_lt hb⟩
  have old : ∀ b o,s2.heap.get? b = some o→h₁.get? b = some o := fun b o e => hsb₁.extBut b o (below b (Heap.lt_size e)).1 (Heap.get?_push_of_some _ (hH2 ▸ Heap.get?_push_of_some _ e))
  have hacc : h₁.get? s2.heap.objs.size = some { cls := .type "list",dict := none,data := .seq ([] : List Value).toArray } := hsb₁.extBut _ _ hDC (Heap.get?_push_of_some _ (hH2 ▸ Heap.get?_push_size _ rfl))
  have hp2 : H2 s2.heap.objs.size = none := I2.hok.fresh (Nat.le_refl _)
  have hflt : ∀ b∈fp,FpOk X pins H2 b∧b < s2.heap.objs.size := fun b hb => ⟨hf b hb,by
    obtain ⟨o,e,_⟩ := T.obj 0 s2.heap st b hb
    exact Heap.lt_size e⟩
  have ok := zja (fp := fp) I2 sc h1 h2 hflt hCle
  generalize hXX : cxC X s2 H2 N' scope cl HH.objs.size fp = XX at ok
  have hG2p : G2 s2.heap.objs.size = none := si.gok.isN hp2
  have w0 : Grow X.K G2 H2 G2 (upd H2 s2.heap.objs.size (.lst [])) := Grow.new si.gok hp2 _
  have hok4 : HOk X.prog X.w (upd H2 s2.heap.objs.size (.lst [])) h₁ := I2.hok.laid old (Nat.le_refl _) ⟨Nat.zero_le _,[],0,.nil,hacc⟩
  have IC : Inv XX [] (capS nl cap σ) (upd H2 s2.heap.objs.size (.lst [])) { s2 with heap := h₁,toks := s2.toks + ([] : List (Str × Value)).length } := by
    subst hXX
    refine zjb I2 ok sc h1 h2 hN rfl I2.bare old hns₁ hCle ?_ (fun b hb hlt => ?_) (Un.laid old (Nat.le_refl _) hp2) hok4
    · rw [zam (Ne.symm hDC)]; exact I2.hok.fresh hCle
    · rw [zam (below b hlt).2]; exact hb
  have SC : SI XX ⟨G2,H2,fun _ => none⟩ (capM nl cap m) (capR nl cap r) G2 (capS nl cap σ) (upd H2 s2.heap.objs.size (.lst [])) := by
    subst hXX
    exact zjY si w0
  have hst₁ : tn 0 h₁ := T.keep _ _ _ st fun b _ o e => old b o e
  have hfX : ∀ (H' : Hp),(∀ b∈fp,H' b = none)→∀ b∈fp,FpOk XX [] H' b := fun H' hn b hb => by
    clear IC SC
    subst hXX
    obtain ⟨z0,z1,z2,z3,z4,z5⟩ := hf b hb
    refine ⟨hn b hb,?_,?_,?_,?_,?_⟩
    · exact (below b (hflt b hb).2).1
    · intro hfs
      rcases List.mem_cons.mp (I2.stkSub b hfs) with z | z
      · exact z1 z
      · exact z2 z
    · exact .inl hb
    · exact fun x c e => z4 x c (h1 x c e)
    · intro p hp; exact absurd (show p∈([] : List (Addr × Obj)) from hp) (by simp)
  have eA : XX.A = X.A := Eq.rec (motive := fun z _ => z.A = X.A) rfl hXX
  have eP : XX.prog = X.prog := Eq.rec (motive := fun z _ => z.prog = X.prog) rfl hXX
  have eW : XX.w = X.w := Eq.rec (motive := fun z _ => z.w = X.w) rfl hXX
  have eK : XX.K = X.K := Eq.rec (motive := fun z _ => z.K = X.K) rfl hXX
  have eX : XX.xe = fun _ _ => False := Eq.rec (motive := fun z _ => z.xe = fun _ _ => False) rfl hXX
  have eE : XX.env = compEnvC scope cl HH.objs.size X.env := Eq.rec (motive := fun z _ => z.env = compEnvC scope cl HH.objs.size X.env) rfl hXX
  have eC : XX.calm = true := Eq.rec (motive := fun z _ => z.calm = true) hcalm hXX
  have eH : XX.H₀ = H2 := Eq.rec (motive := fun z _ => z.H₀ = H2) rfl hXX
  have hg' : PG XX tg (tG XX ⟨G2,H2,fun _ => none⟩ (capM nl cap m) (capM nl cap m) ft) := Eq.rec (motive := fun z _ => PG z tg (tG z ⟨G2,H2,fun _ => none⟩ (capM nl cap m) (capM nl cap m) ft)) (hg _).2 hXX
  have hq' : SQs XX ⟨G2,H2,fun _ => none⟩ (capM nl cap m) ifs q := Eq.rec (motive := fun z _ => SQs z ⟨G2,H2,fun _ => none⟩ (capM nl cap m) ifs q) (hq _) hXX
  have he' : SE XX ⟨G2,H2,fun _ => none⟩ (capM nl cap m) elt fe := Eq.rec (motive := fun z _ => SE z ⟨G2,H2,fun _ => none⟩ (capM nl cap m) elt fe) (he _) hXX
  have fin' : ∀ {H' : Hp} {s' : Shared} {σ' : L2.St} {G' : GH} {ws : List V},Inv XX [] σ' H' s'→Grow X.K G2 H2 G' H'→H' s2.heap.objs.size = some (.lst ws)→G' s2.heap.objs.size = none→RGs X.K G' ws vs→RR (.ref s2.heap.objs.size) HH.objs.size (.ok .next) s' := fun {H' s' σ' G' ws} J1 wg hpp hgp rs => by
    clear IC SC hfX hg' hq' he' eA eP eW eK eX eE eC eH
    subst hXX
    have un := J1.base
    refine hRR _ _ s' H' G' ?_ (let ⟨mm,hn,_⟩ := J1.loc; ⟨mm,hn⟩) J1.free (Nat.ne_of_gt (Nat.lt_of_lt_of_le I2.lt hCle)) (Nat.le_trans I2.sz hCle) (fun x c e z => ?_) (fun z hz e => ?_) wg hp2 ⟨hgp,.lst hpp rs⟩
    · refine I2.call' J1.os un J1.hok J1.bare fun b hb => ?_
      obtain ⟨z0,z1,z2,z3,z4,z5⟩ := hf b hb
      exact ⟨z3,z1,z4,z5⟩
    · obtain ⟨v,o,ho,_⟩ := I2.cell x c e
      exact absurd (Nat.lt_of_lt_of_le (Heap.lt_size ho) hCle) (by rw [z]; exact Nat.lt_irrefl _)
    · have := (I2.pin z hz).1
      exact absurd (Nat.lt_of_lt_of_le (Heap.lt_size this) hCle) (by rw [e]; exact Nat.lt_irrefl _)
  have loop : codeAny (model X.prog X.w) X.A (.compLoop (.ListComp elt [⟨tg,iter,ifs,0⟩] scope pos) 0 (.ref it) (.ref s2.heap.objs.size) (compEnvC scope cl HH.objs.size X.env)) (RR (.ref s2.heap.objs.size) HH.objs.size)
      { s2 with heap := h₁,toks := s2.toks + ([] : List (Str × Value)).length } := by
    refine zhD (fun n s' => ∃ (i : Nat) (σ' : L2.St) (H' : Hp) (G' : GH) (ws : List V) (done rest : List D),Inv XX [] σ' H' s'∧SI XX ⟨G2,H2,fun _ => none⟩ (capM nl cap m) (capR nl cap r) G' σ' H'∧tn i s'.heap∧(∀ b∈fp,H' b = none)∧Grow X.K G2 H2 G' H' ∧
        H' s2.heap.objs.size = some (.lst ws)∧G' s2.heap.objs.size = none∧RGs X.K G' ws done∧zcf ft q fe (capR nl cap r) (ds.drop i) = .ok rest∧vs = done++rest∧done.length≤i∧i≤ds.length∧n = ds.length - i) ?_ ds.length
      ⟨0,_,_,G2,[],[],vs,IC,SC,hst₁,fun b hb => ?_,w0,zaP,hG2p,.nil,hres,rfl,Nat.le_refl _,Nat.zero_le _,rfl⟩
    rotate_left
    · rw [zam (below b (hflt b hb).2).2]; exact (hf b hb).1
    rintro n s3 ⟨i,σ3,H3,G3,ws,done,rest,I3,S3,st3,fr3,w3,hp3,hg3,rs3,hr3,hv3,hd3,hi3,rfl⟩
    have weaken : ∀ {α : Type} {t : Sem α} {Q : α→Shared→Prop} {s' : Shared} {E' : Value→Shared→Prop},wpAny (model XX.prog XX.w) XX.A t Q XX.xe s'→wpAny (model X.prog X.w) X.A t Q E' s' := fun h => by
      rw [eP,eW,eA,eX] at h
      exact wpAny_mono h (fun _ _ z => z) fun _ _ z => z.elim
    by_cases hlt : i < ds.length
    · have hd : ds.drop i = ds[i]::ds.drop (i + 1) := List.drop_eq_getElem_cons hlt
      rw [hd] at hr3
      unfold zcf at hr3
      have it3 := T.item XX eP eW eK eC i [] s3 σ3 H3 (notedBy (model X.prog X.w) X.A (compEnvC scope cl HH.objs.size X.env) fun e s' => RR (.ref s2.heap.objs.size) HH.objs.size (.error e) s') I3 (hfX H3 fr3) st3 (Y.go G3 H3 i w3 hlt)
      rw [eA] at it3
      refine thn it3 fun rr s4 ⟨u,hr,h4⟩ => ?_
      subst hr
      refine thn h4 fun _ s5 ⟨x,H5,I5,r5,y5,st5,fr5⟩ => ?_
      obtain ⟨G5,w5,rv5⟩ := Y.yld G3 H3 i x H5 ds[i] w3 y5 (List.getElem?_eq_getElem hlt)
      have w25 := w3.trans w5
      cases eft : ft ds[i] (capR nl cap r) with
      | none => rw [eft] at hr3; cases hr3
      | some r1 =>
        rw [eft] at hr3
        simp only [opt_some,bind_ok] at hr3
        have I5' := I5.pinned (hfX H5 fr5) (T.obj _ _ st5)
        have S5 : SI XX ⟨G2,H2,fun _ => none⟩ (capM nl cap m) (capR nl cap r) G5 σ3 H5 := S3.grow (by rw [eK]; exact w5)
        have rv5' : RG XX.K G5 x ds[i] := by rw [eK]; exact rv5
        have as5 := hg' _ s5 σ3 H5 x u (fun σ6 H6 => H6 = H5∧SI XX ⟨G2,H2,fun _ => none⟩ (capM nl cap m) r1 G5 σ6 H5) I5' r5 ⟨capR nl cap r,G5,ds[i],S5,rv5',r1,eft,fun σ6 si6 => ⟨rfl,si6⟩⟩
        rw [eE] at as5
        refine thn (weaken as5) fun _ s6 ⟨σ6,H6,I6,e6,S6⟩ => ?_
        subst e6
        obtain ⟨fl1,fl2⟩ := hft _ _ _ eft
        cases eq1 : q r1 with
        | stuck => rw [eq1] at hr3; cases hr3
        | exc xx => rw [eq1] at hr3; cases hr3
        | ok b1 =>
          rw [eq1] at hr3
          simp only [bind_ok] at hr3
          have te6 := hq' _ s6 σ6 H6 (fun b H7 => b = b1∧∃ G7,Grow X.K G5 H6 G7 H7) I6 ⟨r1,G5,S6,by rw [eq1]; exact fun G7 H7 w7 => ⟨rfl,G7,by rw [eK] at w7; exact w7⟩⟩
          rw [eE] at te6
          refine thn (weaken te6) fun b s7 ⟨H7,I7,eb,G7,w7⟩ => ?_
          subst eb
          have S7 : SI XX ⟨G2,H2,fun _ => none⟩ (capM nl cap m) r1 G7 σ6 H7 := S6.grow (by rw [eK]; exact w7)
          have w27 := w25.trans w7
          have hp7 : H7 s2.heap.objs.size = some (.lst ws) := w7.he _ _ (w5.he _ _ hp3)
          have hg7 : G7 s2.heap.objs.size = none := by
            rw [w7.gf _ (by rw [w5.he _ _ hp3]; simp),w5.gf _ (by rw [hp3]; simp)]; exact hg3
          have back : ∀ {σ8 : L2.St} {H8 : Hp} {G8 : GH} {s8 : Shared},Inv XX ([]++zdl fp s5.heap) σ8 H8 s8→Inv XX [] σ8 H8 s8∧tn (i + 1) s8.heap∧∀ b∈fp,H8 b = none := fun {σ8 H8 G8 s8} I8 => by
            refine ⟨I8.unpinned,T.keep _ _ _ st5 fun b hb o e => (I8.pin (b,o) (List.mem_append_right _ (List.mem_append_right _ (zbU hb e)))).1,fun b hb => ?_⟩
            obtain ⟨o,e,_⟩ := T.obj _ _ st5 b hb
            exact (I8.pin (b,o) (List.mem_append_right _ (List.mem_append_right _ (zbU hb e)))).2.1
          have less : ∀ {σ8 : L2.St} {H8 : Hp} {G8 : GH},SI XX ⟨G2,H2,fun _ => none⟩ (capM nl cap m) r1 G8 σ8 H8→SI XX ⟨G2,H2,fun _ => none⟩ (capM nl cap m) (capR nl cap r) G8 σ8 H8 := fun h => h.less fl1.symm fun j d hj => by
            by_cases hjn : j < nl
            · exact absurd hj (zfp hjn d)
            · rw [fl2 j (by omega)]; exact hj
          cases b with
          | false =>
            rw [if_neg Bool.false_ne_true] at hr3 ⊢
            obtain ⟨I7',t7,f7⟩ := back (G8 := G7) I7
            exact ⟨ds.length - (i + 1),by omega,i + 1,σ6,H7,G7,ws,done,rest,I7',less S7,t7,f7,w27,hp7,hg7,rs3.mono (Gle.trans w5.ge w7.ge),hr3,hv3,by omega,hlt,rfl⟩
          | true =>
            rw [if_pos rfl] at hr3 ⊢
            cases ee1 : fe r1 with
            | stuck => rw [ee1] at hr3; cases hr3
            | exc xx => rw [ee1] at hr3; cases hr3
            | ok d1 =>
              rw [ee1] at hr3
              simp only [bind_ok] at hr3
              cases er : zcf ft q fe (capR nl cap r) (ds.drop (i + 1)) with
              | stuck => rw [er] at hr3; cases hr3
              | exc xx => rw [er] at hr3; cases hr3
              | ok rest' =>
                rw [er] at hr3
                simp only [bind_ok] at hr3
                cases hr3
                have el7 := he' _ s7 σ6 H7 (fun v H8 => ∃ G8,Grow X.K G7 H7 G8 H8∧RG X.K G8 v d1) I7 ⟨r1,G7,S7,by rw [ee1]; exact fun v G8 H8 w8 rv => ⟨G8,by rw [eK] at w8; exact w8,by rw [eK] at rv; exact rv⟩⟩
                rw [eE] at el7
                refine thn (weaken el7) fun u8 s8 ⟨v8,H8,I8,r8,G8,w8,rv8⟩ => ?_
                have hp8 : H8 s2.heap.objs.size = some (.lst ws) := w8.he _ _ hp7
                have hg8 : G8 s2.heap.objs.size = none := by rw [w8.gf _ (by rw [hp7]; simp)]; exact hg7
                have S8 : SI XX ⟨G2,H2,fun _ => none⟩ (capM nl cap m) r1 G8 σ6 H8 := S7.grow (by rw [eK]; exact w8)
                have hlen := Paired.length rs3
                have ap8 := zeV (X := XX) _ s8 σ6 H8 (.ref s2.heap.objs.size) [v8] (.ref s2.heap.objs.size) [u8] (fun v H9 => H9 = upd H8 s2.heap.objs.size (.lst (ws++[v8]))) I8 rfl (.cons r8 .nil) ⟨_,ws,v8,rfl,rfl,hp8,by omega,rfl⟩
                refine thn (weaken ap8) fun u9 s9 ⟨v9,H9,I9,r9,e9⟩ => ?_
                subst e9
                obtain ⟨I9',t9,f9⟩ := back (G8 := G8) I9
                have rsn : RGs X.K G8 (ws++[v8]) (done++[d1]) := Paired.snoc (rs3.mono (Gle.trans (Gle.trans w5.ge w7.ge) w8.ge)) rv8
                have w28 := w27.trans w8
                refine ⟨ds.length - (i + 1),by omega,i + 1,σ6,_,G8,ws++[v8],done++[d1],rest',I9',less (S8.other hg8 hp2 zhE _),t9,f9,?_,zaP,hg8,rsn,er,by rw [hv3,List.append_assoc]; rfl,by rw [List.length_append,List.length_singleton]; omega,hlt,rfl⟩
                refine ⟨fun b e hb => (w28.ok b e hb).mono (fun _ _ z => z) fun o z => ?_,fun b o hb => ?_,w28.ge,w28.gf⟩
                · rw [zam (by rintro rfl; rw [hg8] at hb; cases hb)]; exact z
                · rw [zam (by rintro rfl; rw [hp2] at hb; cases hb)]; exact w28.he b o hb
    · have e : i = ds.length := by omega
      subst e
      rw [List.drop_length] at hr3
      cases hr3
      rw [List.append_nil] at hv3
      subst hv3
      have dn := T.done XX eP eW eK eC ds.length [] s3 σ3 H3 (notedBy (model X.prog X.w) X.A (compEnvC scope cl HH.objs.size X.env) fun e s' => RR (.ref s2.heap.objs.size) HH.objs.size (.error e) s') I3 (hfX H3 fr3) st3 (Y.stop G3 H3 w3)
      rw [eA] at dn
      refine thn dn fun rr s4 ⟨hr,I4⟩ => ?_
      subst hr
      exact fin' I4 w3 hp3 hg3 rs3
  exact codeAny_compStart_list loop (T.self X.A 0 _ _ _ hst₁ loop)
end
end DL
end
section
namespace DL
open PySem PySem.Spec PyProof.Rows L2
noncomputable def noXL : Res (List D)→Res (List D)
  | .ok d => .ok d
  | _ => .stuck
@[simp] theorem noXL_ok (d : List D) : noXL (.ok d) = .ok d := rfl
noncomputable def zdN (nl : Nat) (cap : List Nat) (fi : FI) (ft : FT) (q : FQ) (fe : FE) : FE := fun r => (fi r).bind fun ds => (opt (sz ds)).bind fun ds => (noXL (zcf ft q fe (capR nl cap r) ds)).bind fun vs => .ok (.lst vs)
section
variable {X : Cx} {g : GE} {m mb : List Md} {scope : Scope} {N' : List Str} {nl : Nat} {cap : List Nat} {elt tg iter : Expr} {ifs : List Expr} {pos pos' spos : Pos} {fi : FI} {ft : FT} {q : FQ} {fe : FE} {ro : Bool}
theorem zfg {r : Rho} {P : D→Prop} {x : D→Prop} (h : fin (zdN nl cap fi ft q fe r) P x) : fin (fi r) (fun ds => ∃ vs,ds.length≤sizeLine∧zcf ft q fe (capR nl cap r) ds = .ok vs∧P (.lst vs)) x := by
  unfold zdN at h
  refine zaf (zai h) fun ds h1 => ?_
  obtain ⟨ds',e2,h2⟩ := zaN (zai h1)
  obtain ⟨rfl,hl⟩ := zgS e2
  cases e3 : zcf ft q fe (capR nl cap r) ds' with
  | ok vs => rw [e3] at h2; exact ⟨vs,hl,rfl,h2⟩
  | exc x => rw [e3] at h2; exact h2.elim
  | stuck => rw [e3] at h2; exact h2.elim
theorem CompSc.clo {pins : List (Addr × Obj)} {σ : L2.St} {H : Hp} {s : Shared} (sc : CompSc X scope N' nl cap) (ok : X.Ok) : ∃ cl,closureFor scope X.env = pure cl∧(∀ x c,cl.lookup x = some c→X.env.cells.lookup x = some c)∧(∀ x,(x,NameKind.free)∈scope.names→∃ c,cl.lookup x = some c) :=
  zes fun y hy hf => ok.has y.1 (sc.freeK y hy hf)
theorem zgH (hN : X.N.Nodup) (hcalm : X.calm = true) (sc : CompSc X scope N' nl cap) (hi : SItC X g m tg iter fi) (hg : ∀ s0 H0 cl C fp g',SG (cxC X s0 H0 N' scope cl C fp) g' (capM nl cap m) tg ft (capM nl cap m)) (hft : FtOk ft nl)
    (hq : ∀ s0 H0 cl C fp g',SQs (cxC X s0 H0 N' scope cl C fp) g' (capM nl cap m) ifs q) (he : ∀ s0 H0 cl C fp g',SE (cxC X s0 H0 N' scope cl C fp) g' (capM nl cap m) elt fe)
    (hs : ∀ x,foldedSetIterable iter X.env x = pure x := by intro _; rfl) : SO X g m (.ListComp elt [⟨tg,iter,ifs,0⟩] scope pos) (zdN nl cap fi ft q fe) := by
  intro pins s σ H Q I h
  obtain ⟨r,G,si,k⟩ := h
  obtain ⟨cl,hcl,h1,h2⟩ := sc.clo (pins := pins) (σ := σ) (H := H) (s := s) I.ok
  have k1 := zfg k
  rw [eval_ListComp]
  refine wpAny_comprehension_free (use := none) rfl hs hcl sc.kind sc.names (thn (hi pins s σ H (fun J H' => ∃ G' ds vs,Grow X.K G H G' H'∧YieldsC X.K J ds G' H'∧ds.length≤sizeLine∧zcf ft q fe (capR nl cap r) ds = .ok vs ∧
    (∀ a G' H',Grow X.K G H G' H'→H a = none→Own X.K G' H' a (.lst vs)→Q (.ref a) H')) I ⟨r,G,si,zaf k1 fun ds ⟨vs,z1,z2,z3⟩ J G' H' w y => ⟨G',ds,vs,w,y,z1,z2,z3⟩⟩) fun v s1 hv => thn hv fun itv s2 hv2 => ?_)
  obtain ⟨it,fp,tn,J,H2,rfl,I2,T,st,hf,G2,ds,vs,w2,Y,hsz,hres,hQ⟩ := hv2
  refine zfm (RR := fun acc C => compPost (model X.prog X.w) X.A X.xe none (EP X pins σ Q) acc C) hN hcalm sc h1 h2 I2 (si.grow w2) T st hf Y hsz (fun C => hg _ _ _ _ _ _) hft (fun C => hq _ _ _ _ _ _) (fun C => he _ _ _ _ _ _) hres ?_
  intro p C s' H' G' I' hns hC1 hC2 hC3 hC4 hC5 w' hp ho
  obtain ⟨mm,hn⟩ := hns
  refine ⟨mm,hn,fun h' hsb => ⟨.ref p,H',?_,rfl,hQ p G' H' (w2.trans w') (w2.back hp) ho⟩⟩
  exact I'.turned (it := C) (t' := s'.toks) (fun b o hb e => hsb.extBut b o hb e) hC1 hC2.symm.symm (.inr hC3) hC4 hC5
end
end DL
end
section
namespace DL
open PySem PySem.Spec PyProof.Rows L2
section
variable {X : Cx} {g : GE} {m mb : List Md} {e a b o : Expr} {es : List Expr} {f fa fb : FE} {fl : Rho → Res (List D)} {pos pos' apos cpos : Pos} {ro : Bool} {x name : Str} {T id : String} {R : V → List V → Hp → VK → Prop} {mk : D → List D → Option D}
end
noncomputable def zfd : D→Bool
  | .non => true
  | .bl _ => true
  | .int _ => true
  | .str _ => true
  | _ => false
noncomputable def toV : D→V
  | .non => .non
  | .bl b => .bl b
  | .int i => .int i
  | .str x => .str x
  | _ => .non
noncomputable def eqs (a b : D) : Bool := eqV (toV a) (toV b)
@[simp] theorem eqs_int (a b : Int) : eqs (.int a) (.int b) = (a == b) := rfl
@[simp] theorem eqs_str (a b : Str) : eqs (.str a) (.str b) = (a == b) := rfl
@[simp] theorem eqs_non_int (b : Int) : eqs .non (.int b) = false := rfl
@[simp] theorem eqs_int_non (b : Int) : eqs (.int b) .non = false := rfl
section
variable {K : PySem.W.Frag} {G : GH} {H : Hp} {v : V} {d : D}
theorem RB.flat (h : RB K G H v d) (gk : GOk K G H) (hf : zfd d = true) : v = toV d∧zjU v = true := by
  cases d with
  | non => rw [h.non gk]; exact ⟨rfl,rfl⟩
  | bl b => rw [h.bl gk]; exact ⟨rfl,rfl⟩
  | int i => rw [h.int gk]; exact ⟨rfl,rfl⟩
  | str x => rw [h.str gk]; exact ⟨rfl,rfl⟩
  | _ => cases hf
end
noncomputable def keyD : D→Option Key
  | .int i => some (.inl i)
  | .str x => some (.inr x)
  | _ => none
noncomputable def getK (kvs : List (Key × D)) (k : Key) : Option D := (kvs.find? fun kv => decide (kv.1 = k)).map (·.2)
theorem zi6 {K : PySem.W.Frag} {G : GH} {k : Key} {ps : List (Key × V)} {kvs : List (Key × D)} (h : RKs K G ps kvs) (d : D) (e : getK kvs k = some d) : ∃ v,valV ps k = some v∧RG K G v d := by
  induction h with
  | nil => cases e
  | @cons p q ps kvs r t ih =>
    obtain ⟨k1,v1⟩ := p
    obtain ⟨k2,d2⟩ := q
    obtain ⟨e1,r1⟩ := r
    have e1' : k1 = k2 := e1
    subst e1'
    by_cases hk : k1 = k
    · subst hk
      have : d2 = d := by simpa [getK,List.find?_cons] using e
      subst this
      exact ⟨v1,zcZ rfl,r1⟩
    · have e' : getK kvs k = some d := by simpa [getK,List.find?_cons,hk] using e
      obtain ⟨v,h1,h2⟩ := ih e'
      exact ⟨v,by rw [zc0 hk]; exact h1,h2⟩
theorem ziP {K : PySem.W.Frag} {G : GH} {H : Hp} {v : V} {d : D} {k : Key} (gk : GOk K G H) (h : RB K G H v d) (e : keyD d = some k) : v = kV k := by
  cases d with
  | int i => cases e; exact h.int gk
  | str x => cases e; exact h.str gk
  | _ => cases e
section
variable {X : Cx} {g : GE} {m mb : List Md} {e a b o c : Expr} {f fa fb fc : FE} {pos pos' : Pos}
noncomputable def isD : D→D→Option D
  | .non,.non => some (.bl true)
  | _,.non => some (.bl false)
  | _,_ => none
noncomputable def isnD : D→D→Option D
  | .non,.non => some (.bl false)
  | _,.non => some (.bl true)
  | _,_ => none
end
end DL
end
section
namespace DL
open PySem PySem.Spec PyProof.Rows L2
section
variable {X : Cx} {g : GE} {m mb : List Md} {e a b o c : Expr} {f fa fb fc : FE} {pos pos' p1 p2 : Pos} {ro : Bool} {x : Str}
noncomputable def rIxD : R2 := fun x y H Q => ∃ a v,x = .ref a∧DGet H a y (some v)∧Q v H
theorem ziU (hu : X.A.units + 1 < cLine) : IxR X rIxD := by
  intro value slice pins s σ H x y v u Q I rx ry h hs
  obtain ⟨a,w,rfl,hg,q⟩ := h
  cases rx
  exact tail_any (zdO I hg) PySem.F.slot_dict_getitem.lookup (zfl hu I hg ry fun w' s' I' rw' => ⟨w,H,I',rw',q⟩) hs
noncomputable def ixA : D→D→Option D
  | .dic kvs,k => (keyD k).bind (getK kvs)
  | c,k => ixD c k
theorem ziV {K : PySem.W.Frag} : OpD K (fun x y H Q => rIxD x y H Q∨rIx K x y H Q) ixA := by
  intro G H v1 v2 d1 d2 d Q gk r1 r2 e q
  cases d1 with
  | dic kvs =>
    obtain ⟨a,ps,rfl,hs,rs⟩ := r1.dic gk
    have e' : (keyD d2).bind (getK kvs) = some d := e
    cases ek : keyD d2 with
    | none => rw [ek] at e'; cases e'
    | some k =>
      rw [ek] at e'
      obtain ⟨v,h1,h2⟩ := zi6 rs d e'
      refine .inl ⟨a,v,rfl,?_,q v G H (Grow.refl gk) h2⟩
      rw [ziP gk r2 ek,← h1]
      exact .inl ⟨ps,k,hs,rfl,rfl⟩
  | lst ds => exact .inr (zhr G H v1 v2 _ d2 d Q gk r1 r2 e q)
  | tup ds => exact .inr (zhr G H v1 v2 _ d2 d Q gk r1 r2 e q)
  | str ds => exact .inr (zhr G H v1 v2 _ d2 d Q gk r1 r2 e q)
  | _ => cases e
theorem zaI (hu : X.A.units + 1 < cLine) (ha : SB X g m a fa) (hb : SB X g m b fb) (hs : zfw b := by intro _ _; rfl) : SE X g m (.Subscript a b pos) (f2 fa fb ixA) := zgW ziV (zjF (IxR.or (ziU hu) ziT) ha hb hs)
end
mutual
noncomputable def toPy : D→PyData
  | .non => .none
  | .bl b => .bool b
  | .int i => .int i
  | .str x => .str x
  | .tup ds => .tuple (zdi ds)
  | .lst ds => .list (zdi ds)
  | .dic _ => .none
  | .obj _ _ => .none
noncomputable def zdi : List D→List PyData
  | [] => []
  | d::ds => toPy d::zdi ds
end
noncomputable def Shp : Nat→D→Prop
  | _,.non => True
  | _,.bl _ => True
  | _,.int _ => True
  | _,.str x => PyData.strOk x = true
  | 0,.tup _ => False
  | 0,.lst _ => False
  | k + 1,.tup ds => ∀ d∈ds,Shp k d
  | k + 1,.lst ds => ∀ d∈ds,Shp k d
  | _,.dic _ => False
  | _,.obj _ _ => False
theorem zdB {k : Nat} {ds : List D} : Shp (k + 1) (.lst ds)↔∀ d∈ds,Shp k d := by simp only [Shp]
theorem zeE {k : Nat} {ds : List D} : Shp (k + 1) (.tup ds)↔∀ d∈ds,Shp k d := by simp only [Shp]
noncomputable def eqb (a b : D) : Bool := PyData.eqv (toPy a) (toPy b)
section
variable {X : Cx} {pins : List (Addr × Obj)} {σ : L2.St} {H : Hp} {s : Shared} {G : GH}
theorem zdk {k : Nat} (ih : ∀ (d : D) (v : V) (u : Value),Shp k d→RG X.K G v d→L2.RelV v u→∃ as,Reads s.heap u (toPy d) as) (ds : List D) (vs : List V) (us : List Value) (h : ∀ d∈ds,Shp k d) (r : RGs X.K G vs ds) (q : Vals vs us) : ∃ as,ReadsAll s.heap us (zdi ds) as := by
  induction r generalizing us with
  | nil => cases q; exact ⟨[],.nil⟩
  | cons r t ih' =>
    cases q with
    | cons r' t' =>
      obtain ⟨a1,h1⟩ := ih _ _ _ (h _ List.mem_cons_self) r r'
      obtain ⟨a2,h2⟩ := ih' _ (fun x hx => h x (List.mem_cons_of_mem _ hx)) t'
      exact ⟨a1++a2,.cons h1 h2⟩
theorem zcs (I : Inv X pins σ H s) (gk : GOk X.K G H) : ∀ (k : Nat) (d : D) (v : V) (u : Value),Shp k d→RB X.K G H v d→L2.RelV v u→∃ as,Reads s.heap u (toPy d) as := by
  intro k
  induction k with
  | zero =>
    intro d v u hs r ru
    cases d with
    | non => rw [r.non gk] at ru; cases ru; exact ⟨_,.none⟩
    | bl b => rw [r.bl gk] at ru; cases ru; exact ⟨_,.bool b⟩
    | int i => rw [r.int gk] at ru; obtain ⟨t,rfl⟩ := ru; exact ⟨_,.int i t⟩
    | str x => rw [r.str gk] at ru; obtain ⟨t,rfl⟩ := ru; exact ⟨_,.str x t⟩
    | tup _ => unfold Shp at hs; exact hs.elim
    | lst _ => unfold Shp at hs; exact hs.elim
    | dic _ => unfold Shp at hs; exact hs.elim
    | obj _ _ => unfold Shp at hs; exact hs.elim
  | succ k ih =>
    intro d v u hs r ru
    cases d with
    | non => rw [r.non gk] at ru; cases ru; exact ⟨_,.none⟩
    | bl b => rw [r.bl gk] at ru; cases ru; exact ⟨_,.bool b⟩
    | int i => rw [r.int gk] at ru; obtain ⟨t,rfl⟩ := ru; exact ⟨_,.int i t⟩
    | str x => rw [r.str gk] at ru; obtain ⟨t,rfl⟩ := ru; exact ⟨_,.str x t⟩
    | tup ds =>
      obtain ⟨a,xs,rfl,sq,rs⟩ := r.tup gk
      cases ru
      obtain ⟨its,rv,pl,_⟩ := I.tuple sq
      obtain ⟨o,ho,hc,n,hd⟩ := pl
      obtain ⟨as,h⟩ := zdk (k := k) (fun d v u h1 h2 h3 => ih d v u h1 h2.rb h3) ds xs its (zeE.mp hs) rs rv
      refine ⟨as,?_⟩
      unfold toPy
      exact .tuple ho hc hd (by simpa using h)
    | lst ds =>
      obtain ⟨a,xs,rfl,sq,rs⟩ := r.lst gk
      cases ru
      obtain ⟨its,rv,pl,_⟩ := I.list sq
      obtain ⟨o,ho,hc,n,hd⟩ := pl.isList
      obtain ⟨as,h⟩ := zdk (k := k) (fun d v u h1 h2 h3 => ih d v u h1 h2.rb h3) ds xs its (zdB.mp hs) rs rv
      refine ⟨a::as,?_⟩
      unfold toPy
      exact .list ho hc hd (by simpa using h)
    | dic _ => unfold Shp at hs; exact hs.elim
    | obj _ _ => unfold Shp at hs; exact hs.elim
theorem zdC {k : Nat} (ih : ∀ d,Shp k d→PyData.canLay0 (toPy d) = true∧PyData.depth (toPy d)≤k) : ∀ ds : List D,(∀ d∈ds,Shp k d)→PyData.canLayAll0 (zdi ds) = true∧PyData.depthAll (zdi ds)≤k
  | [],_ => by unfold zdi PyData.canLayAll0 PyData.depthAll; exact ⟨rfl,Nat.zero_le _⟩
  | d::ds,h => by
    obtain ⟨a1,a2⟩ := ih d (h d List.mem_cons_self)
    obtain ⟨b1,b2⟩ := zdC ih ds fun x hx => h x (List.mem_cons_of_mem _ hx)
    unfold zdi PyData.canLayAll0 PyData.depthAll
    rw [a1,b1]
    exact ⟨rfl,Nat.max_le.mpr ⟨a2,b2⟩⟩
theorem zhY : ∀ (k : Nat) (d : D),Shp k d→PyData.canLay0 (toPy d) = true∧PyData.depth (toPy d)≤k := by
  intro k
  induction k with
  | zero =>
    intro d hs
    cases d with
    | non => unfold toPy PyData.canLay0 PyData.depth; exact ⟨rfl,Nat.zero_le _⟩
    | bl b => unfold toPy PyData.canLay0 PyData.depth; exact ⟨rfl,Nat.zero_le _⟩
    | int i => unfold toPy PyData.canLay0 PyData.depth; exact ⟨rfl,Nat.zero_le _⟩
    | str x => unfold Shp at hs; unfold toPy PyData.canLay0 PyData.depth; exact ⟨hs,Nat.zero_le _⟩
    | tup _ => unfold Shp at hs; exact hs.elim
    | lst _ => unfold Shp at hs; exact hs.elim
    | dic _ => unfold Shp at hs; exact hs.elim
    | obj _ _ => unfold Shp at hs; exact hs.elim
  | succ k ih =>
    intro d hs
    cases d with
    | non => unfold toPy PyData.canLay0 PyData.depth; exact ⟨rfl,Nat.zero_le _⟩
    | bl b => unfold toPy PyData.canLay0 PyData.depth; exact ⟨rfl,Nat.zero_le _⟩
    | int i => unfold toPy PyData.canLay0 PyData.depth; exact ⟨rfl,Nat.zero_le _⟩
    | str x => unfold Shp at hs; unfold toPy PyData.canLay0 PyData.depth; exact ⟨hs,Nat.zero_le _⟩
    | tup ds =>
      obtain ⟨b1,b2⟩ := zdC ih ds (zeE.mp hs)
      unfold toPy PyData.canLay0 PyData.depth
      exact ⟨b1,Nat.succ_le_succ b2⟩
    | lst ds =>
      obtain ⟨b1,b2⟩ := zdC ih ds (zdB.mp hs)
      unfold toPy PyData.canLay0 PyData.depth
      exact ⟨b1,Nat.succ_le_succ b2⟩
    | dic _ => unfold Shp at hs; exact hs.elim
    | obj _ _ => unfold Shp at hs; exact hs.elim
theorem zca {d : D} (h : Shp 60 d) : SeqAt.shaped (toPy d) = true := by
  obtain ⟨a,b⟩ := zhY 60 d h
  unfold SeqAt.shaped
  rw [a,decide_eq_true (Nat.le_trans b (by decide))]
  rfl
end
section
variable {X : Cx} {g : GE} {m mb : List Md} {e a b o c : Expr} {f fa fb fc : FE} {pos pos' : Pos}
noncomputable def zei (a b : D) : Bool := zfd a && zfd b && scal (toV a) (toV b)
open Classical in
noncomputable def eqB (a b : D) : Option Bool := if zei a b = true then some (eqs a b) else if Shp 60 a∧Shp 60 b then some (eqb a b) else none
noncomputable def eqD (a b : D) : Option D := (eqB a b).map .bl
noncomputable def neD (a b : D) : Option D := (eqB a b).map fun c => .bl (! c)
theorem zge {a b : D} (h : zei a b = false) (h1 : Shp 60 a) (h2 : Shp 60 b) : eqB a b = some (eqb a b) := by
  unfold eqB
  rw [if_neg (by rw [h]; exact Bool.false_ne_true),if_pos ⟨h1,h2⟩]
theorem zce {a b : D} (h : zei a b = true) : eqB a b = some (eqs a b) := by
  unfold eqB
  rw [if_pos h]
@[simp] theorem eqB_int (a b : Int) : eqB (.int a) (.int b) = some (a == b) := zce rfl
theorem zdY {a b : D} (h : scal (toV a) (toV b) = true) (fa : zfd a = true) (fb : zfd b = true) : decide (toV a = toV b) = eqs a b := by
  cases a <;> cases b <;> first
    | exact absurd (show false = true from fa) Bool.false_ne_true
    | exact absurd (show false = true from fb) Bool.false_ne_true
    | exact absurd (show false = true from h) Bool.false_ne_true
    | exact zdQ
    | exact zfk
    | exact zdP
    | rfl
    | simp [toV,eqs,eqV]
noncomputable def zc6 (K : PySem.W.Frag) (neg : Bool) : R2 := fun x y H Q => ∃ (G : GH) (d1 d2 : D),GOk K G H∧RB K G H x d1∧RB K G H y d2∧Shp 60 d1∧Shp 60 d2∧Q (.bl (if neg then ! eqb d1 d2 else eqb d1 d2)) H
theorem zdn (hu : X.A.units + 64 < cLine) : OpR X (compareOp .Eq) (zc6 X.K false) := by
  intro pins s σ H x y v u Q I rx ry h
  obtain ⟨G,d1,d2,gk,r1,r2,s1,s2,q⟩ := h
  obtain ⟨as,h1⟩ := zcs I gk 60 d1 x v s1 r1 rx
  obtain ⟨bs,h2⟩ := zcs I gk 60 d2 y u s2 r2 ry
  exact SeqAt.compareEq_shaped h1 h2 (zca s1) (zca s2) hu ⟨.bl _,H,I,rfl,q⟩
theorem zeP (hu : X.A.units + 64 < cLine) : OpR X (compareOp .NotEq) (zc6 X.K true) := by
  intro pins s σ H x y v u Q I rx ry h
  obtain ⟨G,d1,d2,gk,r1,r2,s1,s2,q⟩ := h
  obtain ⟨as,h1⟩ := zcs I gk 60 d1 x v s1 r1 rx
  obtain ⟨bs,h2⟩ := zcs I gk 60 d2 y u s2 r2 ry
  exact SeqAt.compareNe_shaped h1 h2 (zca s1) (zca s2) hu ⟨.bl _,H,I,rfl,q⟩
theorem eq_cases {a b : D} {c : Bool} (h : eqB a b = some c) : (zei a b = true∧c = eqs a b)∨(Shp 60 a∧Shp 60 b∧c = eqb a b) := by
  unfold eqB at h
  split at h
  · rename_i hs; cases h; exact .inl ⟨hs,rfl⟩
  · split at h
    · rename_i hs; cases h; exact .inr ⟨hs.1,hs.2,rfl⟩
    · cases h
theorem zi8 {K : PySem.W.Frag} : OpD K (fun x y H Q => rEq x y H Q∨zc6 K false x y H Q) eqD := by
  intro G H v1 v2 d1 d2 d Q gk r1 r2 e q
  unfold eqD at e
  cases ec : eqB d1 d2 with
  | none => rw [ec] at e; cases e
  | some c =>
    rw [ec] at e
    cases e
    rcases eq_cases ec with ⟨hs,rfl⟩ | ⟨s1,s2,rfl⟩
    · unfold zei at hs
      rw [Bool.and_eq_true,Bool.and_eq_true] at hs
      obtain ⟨e1,_⟩ := RB.flat r1 gk hs.1.1
      obtain ⟨e2,_⟩ := RB.flat r2 gk hs.1.2
      refine .inl ⟨by rw [e1,e2]; exact hs.2,?_⟩
      rw [e1,e2,zdY hs.2 hs.1.1 hs.1.2]
      exact q _ G H (Grow.refl gk) (.scl (.bl _))
    · exact .inr ⟨G,d1,d2,gk,r1,r2,s1,s2,q _ G H (Grow.refl gk) (.scl (.bl _))⟩
theorem zjL {K : PySem.W.Frag} : OpD K (fun x y H Q => rNe x y H Q∨zc6 K true x y H Q) neD := by
  intro G H v1 v2 d1 d2 d Q gk r1 r2 e q
  unfold neD at e
  cases ec : eqB d1 d2 with
  | none => rw [ec] at e; cases e
  | some c =>
    rw [ec] at e
    cases e
    rcases eq_cases ec with ⟨hs,rfl⟩ | ⟨s1,s2,rfl⟩
    · unfold zei at hs
      rw [Bool.and_eq_true,Bool.and_eq_true] at hs
      obtain ⟨e1,_⟩ := RB.flat r1 gk hs.1.1
      obtain ⟨e2,_⟩ := RB.flat r2 gk hs.1.2
      refine .inl ⟨by rw [e1,e2]; exact hs.2,?_⟩
      rw [e1,e2,zdY hs.2 hs.1.1 hs.1.2]
      exact q _ G H (Grow.refl gk) (.scl (.bl _))
    · exact .inr ⟨G,d1,d2,gk,r1,r2,s1,s2,q _ G H (Grow.refl gk) (.scl (.bl _))⟩
theorem s_eq (hu : X.A.units + 64 < cLine) (ha : SB X g m a fa) (hb : SB X g m b fb) : SE X g m (.Compare a [.Eq] [b] pos) (f2 fa fb eqD) := zgZ (OpR.or ziD (zdn hu)) zi8 ha hb (zcz _)
theorem q_eq (hu : X.A.units + 64 < cLine) (ha : SB X g m a fa) (hb : SB X g m b fb) : SQ X g m (.Compare a [.Eq] [b] pos) (za4 (f2 fa fb eqD)) := zfP (OpR.or ziD (zdn hu)) zi8 ha hb (zcz _)
theorem q_ne (hu : X.A.units + 64 < cLine) (ha : SB X g m a fa) (hb : SB X g m b fb) : SQ X g m (.Compare a [.NotEq] [b] pos) (za4 (f2 fa fb neD)) := zfP (OpR.or zjI (zeP hu)) zjL ha hb (zcz _)
noncomputable def zie (K : PySem.W.Frag) : R2 := fun x y H Q => ∃ l b xs zs,x = .ref l∧y = .ref b∧SqL K H l xs∧SqL K H b zs∧xs.length + zs.length≤sizeLine∧∀ p,H p = none→Q (.ref p) (upd H p (.lst (xs++zs)))
theorem zhi : OpR X (binaryOp .Add) (zie X.K) := by
  intro pins s σ H x y v u Q I rx ry h
  obtain ⟨l,b,xs,zs,rfl,rfl,hH,hB,hz,q⟩ := h
  cases rx
  cases ry
  obtain ⟨its,r,pl,_⟩ := I.list hH
  obtain ⟨its2,r2,pl2,_⟩ := I.list hB
  have l1 := r.length
  have l2 := r2.length
  obtain ⟨⟨cls,dd,data,sl⟩,ho,hc,n,hd⟩ := pl.isList
  obtain ⟨⟨cls2,dd2,data2,sl2⟩,ho2,hc2,n2,hd2⟩ := pl2.isList
  simp only at hc hd hc2 hd2
  subst hc hd hc2 hd2
  have e : its.toArray++its2.toArray = (its++its2).toArray := by simp
  refine concat_meets ⟨_,ho,rfl⟩ ⟨_,ho2,rfl⟩ noFill_list_add seq_list_add PySem.F.slot_list_add PySem.F.entry_list_add (PySem.F.args_list_add_2 _ _) (list_addW _ _ its.toArray its2.toArray n n2 dd dd2 sl sl2 (by simp; omega)) ⟨ho,ho2,?_⟩
  rw [e]
  exact ⟨.ref _,_,I.lnew (t' := s.toks) (r.append r2) (by rw [List.length_append]; omega),rfl,q _ I.fresh⟩
noncomputable def addA : D→D→Option D
  | .int a,.int b => some (.int (a + b))
  | .str a,.str b => if a.length + b.length≤sizeLine then some (.str (a++b)) else none
  | .lst a,.lst b => if a.length + b.length≤sizeLine then some (.lst (a++b)) else none
  | .tup (x::a),.tup b => if (x::a).length + b.length≤sizeLine then some (.tup (x::a++b)) else none
  | _,_ => none
theorem zhL {K : PySem.W.Frag} : OpD K (fun x y H Q => (∃ i j,x = .int i∧y = .int j∧Q (.int (i + j)) H)∨(∃ i j,x = .str i∧y = .str j∧i.length + j.length≤sizeLine∧Q (.str (i++j)) H)∨zie K x y H Q∨zid K x y H Q) addA := by
  intro G H v1 v2 d1 d2 d Q gk r1 r2 e q
  unfold addA at e
  split at e
  · cases e
    exact .inl ⟨_,_,r1.int gk,r2.int gk,q _ G H (Grow.refl gk) (.scl (.int _))⟩
  · split at e
    · rename_i hl
      cases e
      exact .inr (.inl ⟨_,_,r1.str gk,r2.str gk,hl,q _ G H (Grow.refl gk) (.scl (.str _))⟩)
    · cases e
  · split at e
    · rename_i hl
      cases e
      obtain ⟨a,xs,rfl,s1,t1⟩ := r1.lst gk
      obtain ⟨b,ys,rfl,s2,t2⟩ := r2.lst gk
      have l1 := Paired.length t1
      have l2 := Paired.length t2
      exact .inr (.inr (.inl ⟨a,b,xs,ys,rfl,rfl,s1,s2,by omega,fun p hp => q _ _ _ (Grow.newF gk hp (.lst (.inl zaP) (Paired.app t1 t2))) (.ref zar)⟩))
    · cases e
  · split at e
    · rename_i x0 a0 b0 hl
      cases e
      rcases r1 with r1 | ⟨a',_,oo⟩
      · obtain ⟨a,xs,rfl,s1,t1⟩ := r1.tup gk
        obtain ⟨b,ys,rfl,s2,t2⟩ := r2.tup gk
        have l1 := Paired.length t1
        have l2 := Paired.length t2
        refine .inr (.inr (.inr ⟨a,b,xs,ys,rfl,rfl,s1,s2,?_,by omega,fun hy => ?_,fun _ p hp => q _ _ _ (Grow.newF gk hp (.tup (.inl zaP) (Paired.app t1 t2))) (.ref zar)⟩))
        · rintro rfl
          cases t1
        · subst hy
          cases t2
          refine q _ G H (Grow.refl gk) ?_
          rw [List.append_nil]
          exact r1
      · cases oo.ob
    · cases e
  · cases e
theorem zbO (ha : SB X g m a fa) (hb : SB X g m b fb) : SE X g m (.BinOp a .Add b pos) (f2 fa fb addA) := zc3 (OpR.or ziE (OpR.or zel (OpR.or zhi zhh))) zhL ha hb
end
end DL
end
section
namespace DL
open PySem PySem.Spec PyProof.Rows L2
structure DefAt (K : PySem.W.Frag) (mg : Str→Option Value) (x : Str) (st : Stmt) : Prop where
  ex : ∃ f fd,mg x = some (.ref f)∧Fun K x x st f fd
structure Callee (P : Program) (w : World) (K : PySem.W.Frag) (mg : Str→Option Value) (base : Heap) (x : Str) (ps : List Str) (ds : List Value) (k : Nat) (ro : Bool) (ms : List Md) (F : List D→Res D) : Prop where
  ex : ∃ f fd,mg x = some (.ref f)∧PySem.W.keepIn K (.ref f) = true∧zcq K fd ps ds∧FnOk P w K mg base CX0 k f fd ps (spM K ro ms F)
section
variable {P : Program} {w : World} {K : PySem.W.Frag} {mg : Str → Option Value} {base : Heap}
theorem zbq {x : Str} {st : Stmt} {N ps : List Str} {k : Nat} {ro : Bool} {ms : List Md} {fs : FS} {m' : List Md} (A : DefAt K mg x st) (S : FnScope N ps (zac st)) (hms : ms.length = ps.length)
    (hb : ∀ (kV doc pm : Value) (an : Option Addr) (cdv ct : Value) (us : List Value),us.length = ps.length→bindArgs (PySem.W.fnOf x x (zbG st) (zaS st) (zac st) .none kV doc pm an cdv ct) ⟨us,[]⟩ = pure (ps.zip us))
    (hbody : ∀ (f : Addr) (cdv : Value) (A : Around) (outer : List Env) (s : Shared) (H : Hp) (g : GE) (E : XK),Room k (A.deeper (envOfC x (zac st) s.heap.objs.size f cdv)) →
      SSs (cxOf CX0 P w K mg base N x (zac st) f cdv A outer s H E).nox g ro [] (zb8 N.length ms) (zaS st) fs m') :
    Callee P w K mg base x ps [] (k + 1) ro ms fun ds => outR ro (fs (zaq N.length ds)) := by
  obtain ⟨f,fd,h1,F⟩ := A.ex
  exact ⟨f,fd,h1,F.kp,F.binds hb,zgM F S hms (hbody f)⟩
structure DefAtD (K : PySem.W.Frag) (mg : Str→Option Value) (x : Str) (st : Stmt) (dds : List Value) : Prop where
  ex : ∃ (f T : Addr) (o : Obj) (n : Nat) (oc : Value) (od : Option Addr) (kV doc pm : Value) (an : Option Addr) (cdv ct : Value) (osl : Array (Option Value)),
    mg x = some (.ref f)∧K.lookup T = some o∧o.data = .seq dds.toArray n∧K.lookup f = some ⟨oc,od,.func (PySem.W.fnOf x x (zbG st) (zaS st) (zac st) (.ref T) kV doc pm an cdv ct),osl⟩∧PySem.W.codeIn K cdv x = true∧PySem.W.keepIn K (.ref f) = true
end
section
variable {X : Cx} {g : GE} {m : List Md} {e : Expr} {es : List Expr} {fl : Rho → Res (List D)} {k : Nat} {ps : List Str} {F : List D → Res D} {dvs : List V} {ds : List Value} {dds : List D} {x : Str} {p pos : Pos} {i : Nat} {ms ms' : List Md}
theorem zap (c : Callee X.prog X.w X.K X.mg X.base x ps ds k false ms' F) (hr : Room k X.A) (ha : SAM X g m (e::es) ms fl) (hms : ms' = ms++List.replicate dds.length .sh := by rfl) (hg : Gl X x := by rfl) (hd : Vals dvs ds := by exact .nil) (hsc : Paired Scl dvs dds := by exact .nil)
    (hdb : (x == ("__debug__" : Str)) = false := by decide) (he : starEach (e::es) X.env = (false,eval e X.env)::starEach es X.env := by rfl) (hpl : (backTo pos (starEach es X.env)).any (·.1) = false := by rfl) :
    SE X g m (.Call (.Name x p) (e::es) [] pos) (zat fl dds F) := by
  subst hms
  obtain ⟨f,fd,h1,h2,h3,h4⟩ := c.ex
  exact zh7 h4 hr hg h1 h2 h3 hd hsc ha hdb he hpl
theorem v_ (i : Nat) (hm : m[i]? = some .sh := by rfl) (hN : X.N[i]? = some x := by rfl) (hv : Vis X.env.scope x := by first | exact Or.inl rfl | exact Or.inr (Or.inl rfl) | exact Or.inr (Or.inr rfl)) (hd : (x == ("__debug__" : Str)) = false := by decide) (hcd : (x == ("__classdict__" : Str)) = false := by decide) :
    SE X g m (.Name x p) fun r => getV r i := zjt i hm hN hv hd hcd
theorem vb_ (i : Nat) (hm : i < m.length := by decide) (hN : X.N[i]? = some x := by rfl) (hv : Vis X.env.scope x := by first | exact Or.inl rfl | exact Or.inr (Or.inl rfl) | exact Or.inr (Or.inr rfl)) (hd : (x == ("__debug__" : Str)) = false := by decide) (hcd : (x == ("__classdict__" : Str)) = false := by decide) :
    SB X g m (.Name x p) fun r => getV r i := zh0 i hm hN hv hd hcd
end
end DL
end
section
namespace DL
open PySem PySem.Spec PyProof.Rows L2
noncomputable def zfn (osc : Scope) (ON : List Str) (sc : Scope) (N' : List Str) (nl : Nat) (cap : List Nat) : Bool :=
  decide (sc.kind = .function) && sc.names.all (fun y => decide (y.2≠.cell)) && sc.names.all (fun y => decide (y.2≠.local) || decide (sc.names.lookup y.1 = some .local)) &&
  sc.names.all (fun y => decide (y.2≠.free) || (decide (osc.names.lookup y.1 = some .cell) || decide (osc.names.lookup y.1 = some .free))) && decide (N'.length = nl + cap.length) &&
  (List.range cap.length).all fun j => match N'[nl + j]?,ON[cap.getD j 0]? with
    | some x,some y => decide (x = y) && decide (sc.names.lookup x = some .free)
    | _,_ => false
theorem zdv {X : Cx} {osc : Scope} {ON : List Str} {sc : Scope} {N' : List Str} {nl : Nat} {cap : List Nat} (h1 : X.env.scope = osc) (h2 : X.N = ON) (h : zfn osc ON sc N' nl cap = true) : CompSc X sc N' nl cap := by
  subst h1 h2
  unfold zfn at h
  simp only [Bool.and_eq_true,List.all_eq_true,decide_eq_true_eq,Bool.or_eq_true] at h
  obtain ⟨⟨⟨⟨⟨a1,a2⟩,a3⟩,a4⟩,a5⟩,a6⟩ := h
  refine ⟨a1,a2,fun y hy hl => (a3 y hy).resolve_left fun z => z hl,fun y hy hf => (a4 y hy).resolve_left fun z => z hf,a5,fun j hj => ?_⟩
  have h6 := a6 j (List.mem_range.mpr hj)
  cases e1 : N'[nl + j]? with
  | none => rw [e1] at h6; cases h6
  | some x =>
    cases e2 : X.N[cap.getD j 0]? with
    | none => rw [e1,e2] at h6; cases h6
    | some y =>
      rw [e1,e2] at h6
      simp only [Bool.and_eq_true,decide_eq_true_eq] at h6
      exact ⟨x,rfl,by rw [h6.1],h6.2⟩
section
variable {X : Cx} {g : GE} {m mb : List Md} {e a b c : Expr} {f fa fb fc : FE} {pos pos' : Pos}
end
end DL
end
section
namespace DL
open PySem PySem.Spec PyProof.Rows L2
theorem zj6 {K : PySem.W.Frag} {h : Heap} {mg : Str→Option Value} {x : Str} {st : Stmt} (KX : K.In h) (G : h.Ns mainGlobals mg) {f : Addr} {oc : Value} {od an : Option Addr} {osl : Array (Option Value)} {kV doc pm cdv ct : Value} (a : PySem.W.nsIn K mainGlobals x = some (some (.ref f)))
    (l : K.lookup f = some ⟨oc,od,.func (PySem.W.fnOf x x (zbG st) (zaS st) (zac st) .none kV doc pm an cdv ct),osl⟩) (c : PySem.W.codeIn K cdv x = true) (k : PySem.W.keepIn K (.ref f) = true) : DefAt K mg x st :=
  ⟨f,_,PySem.W.mg_of KX G a,zi2 l c k⟩
theorem zj3 {P : Program} {w : World} {K : PySem.W.Frag} {mg : Str→Option Value} {x p : Str} {st : Stmt} {k : Nat} {F : List D→Res D} {fa : Addr} (hfa : mg x = some (.ref fa)) (A : DefAt K mg x st)
    (hb : ∀ (kV doc pm : Value) (an : Option Addr) (cdv ct : Value) (us : List Value),us.length = [p].length→bindArgs (PySem.W.fnOf x x (zbG st) (zaS st) (zac st) .none kV doc pm an cdv ct) ⟨us,[]⟩ = pure ([p].zip us))
    (C : ∀ (f : Addr) (fd : FuncData),Fun K x x st f fd→∀ base : Heap,FnOk P w K mg base CX0 k f fd [p] (spM K false [.sh] F)) :
    ∃ fd : FuncData,(∀ (s : Shared) (u : Value),BindsTo s fd ⟨[u],[]⟩ [(p,u)])∧∀ base : Heap,K.In base→base.Ns mainGlobals mg→FnOk P w K mg base CX0 k fa fd [p] (spM K false [.sh] F) := by
  obtain ⟨f,fd,h1,Fn⟩ := A.ex
  rw [hfa] at h1
  cases h1
  refine ⟨fd,fun s u => ?_,fun base _ _ => C fa fd Fn base⟩
  obtain ⟨oc,od,kV,doc,pm,an,cdv,ct,osl,rfl,lk,hcd⟩ := Fn.ex
  exact .of_eq (hb kV doc pm an cdv ct [u] rfl)
theorem zj8 {l : PySem.W.OpenLaw} {k : Nat} {q : Program} {loose : List Str} {XP : (Str→Option Value)→Heap→Prop} {YP : World→Heap→Prop} {d : DefRec} {K : Params→PySem.W.Frag} {x : Str} {F : List D→Res D} (hn : l.most = some 63) (hdf : d.params.defaults = []) (hr : Room k callerA)
    (hY : ∀ (w : World) (h : Heap),YP w h→(K w.params).In h) (hF : ∀ ns : List Int,ns.length≤63→F [.lst (ns.map .int)] = .ok (.bl true))
    (C : ∀ (w : World) (mg : Str→Option Value) (fa : Addr) (h : Heap),(K w.params).In h→h.Ns mainGlobals mg→mg d.name = some (.ref fa) →
      ∃ fd : FuncData,(∀ (s : Shared) (u : Value),BindsTo s fd ⟨[u],[]⟩ [(x,u)])∧∀ base : Heap,(K w.params).In base→base.Ns mainGlobals mg→FnOk l.prog w (K w.params) mg base CX0 k fa fd [x] (spM (K w.params) false [.sh] F)) :
    PySem.W.WalkO q loose XP YP l.row.toRowW d [] (fun f vs => PySem.call f vs) := by
  refine L2.walk_of (n := 63) (k := k) (x := x) (CX := fun _ => CX0) (sp := fun w => spM (K w.params) false [.sh] F) hn (by decide) hdf hr hY C (fun w H a ns hl hO hS => ?_) fun _ _ _ _ _ z => z
  have intsP : ∀ (l : List Int),Paired Scl (l.map V.int) (l.map D.int) := fun l => by
    induction l with
    | nil => exact .nil
    | cons i l ih => exact .cons (.int i) ih
  rcases hS with hS | hS
  · refine ⟨fun b => if b = a then some (.lst (ns.map D.int)) else none,[.lst (ns.map .int)],fun b d' hb => ?_,.sh (.ref (if_pos rfl)) .nil,?_⟩
    · by_cases e : b = a
      · subst e
        have hb' : some (D.lst (ns.map D.int)) = some d' := (if_pos rfl).symm.trans hb
        cases hb'
        exact .lst hS (Paired.mono (fun _ _ z => .scl z) (intsP ns))
      · have hb' : (none : Option D) = some d' := (if_neg e).symm.trans hb
        cases hb'
    · rw [hF ns hl]
      intro v G' H' w' rv
      exact rv.bl w'.ok
  · refine ⟨fun _ => none,[.lst (ns.map .int)],fun b d' hb => (by cases hb),.sh (.kc (.lst (.inr hS) (intsP ns))) .nil,?_⟩
    rw [hF ns hl]
    intro v G' H' w' rv
    exact rv.bl w'.ok
end DL
end
section
namespace DL
open PySem PySem.Spec PyProof.Rows L2
open AutoSeq1 (wpAny_loadPart')
section
variable {prog : Program} {w : World} {A : Around} {E : Value → Shared → Prop} {s : Shared}
end
section
variable {prog : Program} {w : World} {A : Around} {E : Value → Shared → Prop} {s : Shared}
end
end DL
end
section
namespace DL
open PySem PySem.Spec PyProof.Rows L2
noncomputable def tyN : D→Option String
  | .non => some "NoneType"
  | .bl _ => some "bool"
  | .int _ => some "int"
  | .str _ => some "str"
  | .tup _ => some "tuple"
  | .lst _ => some "list"
  | .dic _ => some "dict"
  | .obj _ _ => none
noncomputable def subT (t T : String) : Bool := t == T || (t == "bool" && T == "int")
noncomputable def isiD (T : String) (d : D) : Option D := (tyN d).map fun t => .bl (subT t T)
noncomputable def TyD (K : PySem.W.Frag) (x : V) (H : Hp) (t : String) : Prop := match x with
  | .non => t = "NoneType"
  | .bl _ => t = "bool"
  | .int _ => t = "int"
  | .str _ => t = "str"
  | .ref p => (t = "list"∧∃ xs,SqL K H p xs)∨(t = "tuple"∧∃ xs,SqT K H p xs)∨(t = "dict"∧∃ kvs,Rd H p (.dK kvs))
  | _ => False
theorem zhT {K : PySem.W.Frag} {G : GH} {H : Hp} {v : V} {d : D} {t : String} (gk : GOk K G H) (h : RB K G H v d) (e : tyN d = some t) : TyD K v H t := by
  cases d with
  | non => cases e; rw [h.non gk]; rfl
  | bl b => cases e; rw [h.bl gk]; rfl
  | int i => cases e; rw [h.int gk]; rfl
  | str x => cases e; rw [h.str gk]; rfl
  | tup ds => cases e; obtain ⟨a,xs,rfl,s,r⟩ := h.tup gk; exact .inr (.inl ⟨rfl,xs,s⟩)
  | lst ds => cases e; obtain ⟨a,xs,rfl,s,r⟩ := h.lst gk; exact .inl ⟨rfl,xs,s⟩
  | dic ds => cases e; obtain ⟨a,xs,rfl,s,r⟩ := h.dic gk; exact .inr (.inr ⟨rfl,xs,s⟩)
  | obj _ _ => cases e
section
variable {X : Cx} {g : GE} {m : List Md} {e a : Expr} {f : FE} {pos p p2 : Pos}
theorem zgm : zcp X (.builtin "isinstance") (fun xs H Q => ∃ x t T b,xs = [x,.ty T]∧TyD X.K x H t∧PySem.W.kitOne X.K (.type t) (.type T) = some b∧Q (.bl b) H) := by
  intro pins s σ H xs us Q I r h
  obtain ⟨x,t,T,b,rfl,ty,e,q⟩ := h
  obtain ⟨u,w',rfl,rx,ry⟩ := zhR r
  cases ry
  have fin : ∀ tk,EP X pins σ Q (.bool b) { s with toks := tk } := fun tk => ⟨.bl b,H,I.tok tk,rfl,q⟩
  cases x with
  | non => cases rx; cases (show t = "NoneType" from ty); exact PySem.W.kia_one PySem.W.kitx_none I.kIn True.intro e (fun z => nomatch z) fin
  | bl y => cases rx; cases (show t = "bool" from ty); exact PySem.W.kia_one PySem.W.kitx_bool I.kIn True.intro e (fun z => nomatch z) fin
  | int i => obtain ⟨t,rfl⟩ := rx; cases ty; exact PySem.W.kia_one PySem.W.kitx_int I.kIn True.intro e (fun z => nomatch z) fin
  | str i => obtain ⟨t,rfl⟩ := rx; cases ty; exact PySem.W.kia_one PySem.W.kitx_str I.kIn True.intro e (fun z => nomatch z) fin
  | ref p =>
    cases rx
    rcases ty with ⟨rfl,xs,hq⟩ | ⟨rfl,xs,hq⟩ | ⟨rfl,kvs,hq⟩
    · obtain ⟨its,_,pl,_⟩ := I.list hq
      obtain ⟨o,ho,hc,_⟩ := pl.isList
      exact PySem.W.kia_one PySem.W.kitx_list I.kIn ⟨o,ho,hc⟩ e (fun z => nomatch z) fin
    · obtain ⟨its,_,pl,_⟩ := I.tuple hq
      obtain ⟨o,ho,hc,_⟩ := pl
      exact PySem.W.kia_one PySem.W.kitx_tuple I.kIn ⟨o,ho,hc⟩ e (fun z => nomatch z) fin
    · obtain ⟨_,_,vs,_,pp⟩ := (show zbo X.prog X.w H s.heap p (.dK kvs) from hq.ok I.hok)
      obtain ⟨o,es,ep,h1,h2,_⟩ := pp
      exact PySem.W.kia_one PySem.W.kitx_dict I.kIn ⟨o,h1,h2.1⟩ e (fun z => nomatch z) fin
  | _ => exact (show False from ty).elim
theorem zej (x : Str) (T : String) (hv : bootBuiltins x = some (.type T)) (hk : ∀ (d : D) (t : String),tyN d = some t→PySem.W.kitOne X.K (.type t) (.type T) = some (subT t T)) (hg : Gl X "isinstance") (hm : X.mg "isinstance" = none) (hgT : Gl X x) (hmT : X.mg x = none) (he : SB X g m e f)
    (hn : x≠"__name__" := by decide) (hd : (x == ("__debug__" : Str)) = false := by decide) (hs1 : starEach [e,.Name x p2] X.env = (false,eval e X.env)::starEach [.Name x p2] X.env := by rfl) (hs2 : starEach [.Name x p2] X.env = (false,eval (.Name x p2) X.env)::starEach [] X.env := by rfl)
    (hpl : (backTo pos (starEach [.Name x p2] X.env)).any (·.1) = false := by rfl) :
    SE X g m (.Call (.Name "isinstance" p) [e,.Name x p2] [] pos) (f1 f (isiD T)) := by
  refine PE.imp (zcd zgm hg hm (by first | exact PyProof.Rows.boot_isinstance | rfl) (zbP he (zbP (zeN (v := .ty T) hgT hmT hv rfl hn hd) zdm hs2) hs1) (by decide) (by decide) hs1 hpl) fun σ H Q ⟨r,G,si,q⟩ => ⟨r,G,si,zaf (zai q) fun d q1 v G1 H1 w1 r1 => ?_⟩
  obtain ⟨d',e',q2⟩ := zaN q1
  unfold isiD at e'
  cases et : tyN d with
  | none => rw [et] at e'; cases e'
  | some t =>
    rw [et] at e'
    cases e'
    exact ⟨v,t,T,_,rfl,zhT w1.ok r1 et,hk d t et,q2 _ G1 H1 w1 (.scl (.bl _))⟩
end
theorem zct {d : D} {t : String} (h : tyN d = some t) {P : String→Prop} (h1 : P "NoneType") (h2 : P "bool") (h3 : P "int") (h4 : P "str") (h5 : P "tuple") (h6 : P "list") (h7 : P "dict") : P t := by
  cases d <;> cases h <;> assumption
theorem ze1 (K : PySem.W.Frag) (d : D) (t : String) (h : tyN d = some t) : PySem.W.kitOne K (.type t) (.type "int") = some (subT t "int") := zct (P := fun t => PySem.W.kitOne K (.type t) (.type "int") = some (subT t "int")) h (by kernel_rfl) (by kernel_rfl) (by kernel_rfl) (by kernel_rfl) (by kernel_rfl) (by kernel_rfl) (by kernel_rfl)
theorem zc9 (K : PySem.W.Frag) (d : D) (t : String) (h : tyN d = some t) : PySem.W.kitOne K (.type t) (.type "bool") = some (subT t "bool") := zct (P := fun t => PySem.W.kitOne K (.type t) (.type "bool") = some (subT t "bool")) h (by kernel_rfl) (by kernel_rfl) (by kernel_rfl) (by kernel_rfl) (by kernel_rfl) (by kernel_rfl) (by kernel_rfl)
theorem ze0 (K : PySem.W.Frag) (d : D) (t : String) (h : tyN d = some t) : PySem.W.kitOne K (.type t) (.type "tuple") = some (subT t "tuple") := zct (P := fun t => PySem.W.kitOne K (.type t) (.type "tuple") = some (subT t "tuple")) h (by kernel_rfl) (by kernel_rfl) (by kernel_rfl) (by kernel_rfl) (by kernel_rfl) (by kernel_rfl) (by kernel_rfl)
section
variable {X : Cx} {g : GE} {m : List Md} {e a b : Expr} {f fa : FE} {pos p pos2 p2 : Pos} {es : List Expr} {fl : Rho → Res (List D)}
end
end DL
end
section
namespace DL
open PySem PySem.Spec PyProof.Rows L2
section
variable {X : Cx} {g : GE} {m mb : List Md} {e a b o : Expr} {es : List Expr} {f fa fb fo : FE} {fl : Rho → Res (List D)} {pos pos' apos cpos : Pos} {ro : Bool} {x name : Str} {T id : String} {R : V → List V → Hp → VK → Prop} {k : D → List D → Option D}
noncomputable def zjk : D→Option D
  | .dic kvs => some (.lst (kvs.map (·.2)))
  | _ => none
end
end DL
end
section
namespace DL
open PySem PySem.Spec PyProof.Rows L2
section
variable {X : Cx} {g : GE} {m : List Md} {e a : Expr} {f : FE} {pos p pos2 : Pos} {elts : List Expr} {kk : Nat}
end
end DL
end
section
namespace DL
open PySem PySem.Spec PyProof.Rows L2
inductive TupI (h : Heap) : Value→List Int→Prop where
  | mk {a : Addr} {items : Array Value} {ns : List Int} : IsTup h a items→IntsAre items.toList ns→TupI h (.ref a) ns
inductive TupsI (h : Heap) : List Value→List (List Int)→Prop where
  | nil : TupsI h [] []
  | cons {p : Value} {k : List Int} {ps : List Value} {ks : List (List Int)} : TupI h p k→TupsI h ps ks→TupsI h (p::ps) (k::ks)
theorem TupsI.length {h : Heap} : ∀ {ps : List Value} {ks : List (List Int)},TupsI h ps ks→ps.length = ks.length
  | _,_,.nil => rfl
  | _,_,.cons _ t => congrArg (· + 1) t.length
section
variable {prog : Program} {w : World} {A : Around} {s : Shared}
inductive TupR (h : Heap) : Value→List (List Int)→Prop where
  | mk {a : Addr} {items : List Value} {ks : List (List Int)} : IsTup h a items.toArray→TupsI h items ks→ks≠[]→TupR h (.ref a) ks
end
end DL
end
section
namespace DL
open PySem PySem.Spec PyProof.Rows L2
section
variable {X : Cx} {g : GE} {m : List Md} {e a : Expr} {f : FE} {pos p pos2 p2 : Pos}
end
end DL
end
section
namespace DL
open PySem PySem.Spec PyProof.Rows L2
theorem zbo.isS {P : Program} {w : World} {H : Hp} {h : Heap} {a : Addr} {o : HO} (x : zbo P w H h a o) : h.get? a≠none := by
  have s : ∀ {u : Obj},h.get? a = some u→h.get? a≠none := fun e z => by rw [z] at e; cases e
  cases o with
  | lst xs => obtain ⟨_,_,_,_,e⟩ := x; exact s e
  | tup xs => obtain ⟨_,_,_,⟨_,e,_⟩,_⟩ := x; exact s e
  | dK kvs => obtain ⟨_,_,_,_,o,_,_,e,_⟩ := x; exact s e
  | dT kvs => obtain ⟨_,_,_,_,o,_,_,e,_⟩ := x; exact s e
  | set S n => obtain ⟨o,_,_,_,e,_⟩ := x; exact s e
  | ins C dx fs => obtain ⟨_,_,_,e,_⟩ := x; exact s e
  | own y => obtain ⟨_,e⟩ := x; exact s e
  | xd fs => obtain ⟨_,⟨_,_,_,e,_⟩,_⟩ := x; exact s e
  | rng lo hi => obtain ⟨_,_,_,e⟩ := x; exact s e
  | frz ob u => obtain ⟨e,_⟩ := x; exact s e
  | tbl ps => exact s (show h.get? a = some _ from x)
  | met f y => exact s (show h.get? a = some _ from x)
  | ext φ => obtain ⟨_,⟨_,e⟩,_⟩ := x; exact s e
section
variable {X : Cx} {pins : List (Addr × Obj)} {σ : L2.St} {H : Hp} {s : Shared}
end
end DL
end
section
namespace DL
open PySem PySem.Spec PyProof.Rows L2
section
variable {K : PySem.W.Frag} {G : GH} {H : Hp}
end
section
variable {X : Cx} {g : GE} {m : List Md} {a : Expr} {fl : Rho → Res (List D)} {pos p : Pos} {k : Nat}
end
end DL
end
section
namespace DL
open PySem PyProof.Rows PySem.SeqAt PySem.MeetsSeq PySem.MeetsSeq2 PySem.MeetsSeq3 L2
open PySem.AutoSeq1 (wpAny_loadPart')
end DL
end
section
namespace DL
open PySem PyProof.Rows L2
section
variable {prog : Program} {w : World} {A : Around} {E : Value → Shared → Prop} {s : Shared}
end
end DL
end
section
namespace DL
open PySem PySem.Spec PyProof.Rows L2
section
variable {X : Cx} {pins : List (Addr × Obj)} {σ : L2.St} {H : Hp} {s : Shared}
end
section
variable {K : PySem.W.Frag} {G : GH} {H : Hp}
end
section
variable {X : Cx} {g : GE} {m : List Md} {a : Expr} {fl : Rho → Res (List D)} {pos p : Pos} {k : Nat}
end
end DL
end
section
namespace DL
open PySem PySem.Spec PyProof.Rows L2
section
variable {X : Cx} {pins : List (Addr × Obj)} {σ : L2.St} {H : Hp} {s : Shared}
theorem Inv.keptN {h' : Heap} (I : Inv X pins σ H s) (k : ∀ b o,b≠X.env.locals→s.heap.get? b = some o→h'.get? b = some o)
    (hns : ∀ m,s.heap.Ns X.env.locals m→h'.Ns X.env.locals m) (t' : Nat) : Inv X pins σ H { s with heap := h',toks := t' } := by
  have trkL : ∀ b u,H b = some u→b≠X.env.locals := fun b u e z => by rw [z,I.free] at e; cases e
  refine I.step (g' := s.gens) (d' := s.drawn) (ch := []) (fun b hb => absurd hb (by simp)) (fun b ob hL _ _ e _ => k b ob hL e) (fun b ob hL _ _ e _ => ⟨ob.slots,k b ob hL e⟩) (fun b ob _ e n => n)
    (fun b ob _ e => ?_) (fun b xs e => e) (fun b ob u e => e) (fun b ps e => ⟨#[],by rw [e]; simp⟩) hns (fun b u e => ?_) I.bare
  · by_cases hb : b = X.env.locals
    · subst hb
      obtain ⟨m,hn,_⟩ := I.loc
      obtain ⟨o,_,_,ho',_⟩ := hns m hn
      exact ⟨o,ho'⟩
    · exact ⟨ob,k b ob hb e⟩
  · refine (I.hok b u e).stay (fun cc v hc q => k cc v ?_ q) (fun cc q => q) fun cc xs q => q
    rcases hc with z | z
    · rw [z]; exact trkL b u e
    · exact trkL cc _ z
end
section
variable {X : Cx} {g : GE} {m : List Md} {e a b : Expr} {es : List Expr} {fl : Rho → Res (List D)} {fa fb : FE} {pos p : Pos}
end
end DL
end
section
namespace DL
open PySem PyProof.Rows L2
open PySem.AutoSeq1 (wpAny_loadPart')
section
variable {X : Cx}
end
end DL
end
section
namespace DL
open PySem PyProof.Rows PySem.W
section
variable {n : Nat} {c : Nat → Nat → Bool} (as : ∀ i j, c i j = true → c j i = false) (tr : ∀ i j k, c j i = false → c k j = false → c k i = false)
noncomputable def Le (c : Nat→Nat→Bool) (i j : Nat) : Prop := c j i = false
noncomputable def Eqv (c : Nat→Nat→Bool) (i j : Nat) : Prop := Le c i j∧Le c j i
include tr in
theorem Eqv.trans {i j k : Nat} (h1 : Eqv c i j) (h2 : Eqv c j k) : Eqv c i k := ⟨tr _ _ _ h1.1 h2.1,tr _ _ _ h2.2 h1.2⟩
theorem Eqv.symm {i j : Nat} (h : Eqv c i j) : Eqv c j i := ⟨h.2,h.1⟩
include as tr in
include tr in
include as tr in
include as tr in
include as tr in
include as tr in
include as tr in
include as tr in
include as tr in
include as tr in
include as tr in
end
end DL
end
section
namespace DL
section
variable {α : Type} {lt : α → α → Bool} {d : α}
end
end DL
end
section
namespace DL
open PySem PySem.Spec PyProof.Rows L2
section
variable {X : Cx} {pins : List (Addr × Obj)} {σ : L2.St} {H : Hp} {s : Shared}
end
section
variable {X : Cx} {g : GE} {m : List Md} {a : Expr} {fl : Rho → Res (List D)} {pos p : Pos} {k : Nat}
end
end DL
end
section
namespace DL
open PySem PySem.Spec PyProof.Rows L2
section
variable {X : Cx} {pins : List (Addr × Obj)} {σ : L2.St} {H : Hp} {s : Shared}
theorem zfu (bs : List Bool) : ((List.range bs.length).all fun i => bs.getD i true) = bs.all id := by
  rw [Bool.eq_iff_iff,List.all_eq_true,List.all_eq_true]
  constructor
  · intro h b hb
    obtain ⟨i,hi,rfl⟩ := List.getElem_of_mem hb
    have := h i (List.mem_range.mpr hi)
    simpa [List.getD_eq_getElem?_getD,hi] using this
  · intro h i hi
    have hi := List.mem_range.mp hi
    have := h bs[i] (List.getElem_mem _)
    simpa [List.getD_eq_getElem?_getD,hi] using this
theorem zeg (hc : X.calm = true) (I : Inv X pins σ H s) {p : Addr} {bs : List Bool} (hq : SqL X.K H p (bs.map V.bl)) {A : Around} (hA : A.handled = none) {E : Value→Shared→Prop} {Q : Value→Shared→Prop}
    (h : ∀ I fp wr n P St tr it s₂,it = Value.ref I→Walks X.prog X.w A I fp wr n P St→St 0 s₂.heap→TruthOf X.prog X.w A P tr→n = bs.length→(∀ i,tr i = bs.getD i true) →
      (∀ (h' : Heap) (tk : Nat),(∀ (b : Addr) (o : Obj),¬b∈wr→s₂.heap.get? b = some o→h'.get? b = some o)→Inv X pins σ H { heap := h',gens := s₂.gens,drawn := s₂.drawn,toks := tk,os := s₂.os })→Q it s₂) :
    wpAny (model X.prog X.w) A (pyIter (.ref p)) Q E s := by
  obtain ⟨its,rv,pl,hz⟩ := I.list hq
  have hl := rv.length
  rw [List.length_map] at hl
  refine PySem.Flt.iter_list_ pl.isList fun s₂ e2 hi hlt hne => ?_
  refine h s.heap.objs.size [s.heap.objs.size,p] [s.heap.objs.size] its.toArray.size _ _ (fun i => bs.getD i true) _ s₂ rfl (Walks.list hA _ p hne its.toArray) hi ?_ (by rw [List.size_toArray,hl]) (fun i => rfl) fun h' tk k => ?_
  · intro i v s' Q' E' hv hq'
    have hv' : its[i]? = some v := by simpa using hv
    have hi : i < its.length := (List.getElem?_eq_some_iff.mp hv').1
    have hki : i < (bs.map V.bl).length := by rw [List.length_map]; omega
    obtain ⟨u,h1,h3⟩ := rv.get (i := i) (x := (bs.map V.bl)[i]) (List.getElem?_eq_getElem hki)
    rw [hv'] at h1
    cases h1
    rw [List.getElem_map] at h3
    have h3' : v = Value.bool bs[i] := h3
    subst h3'
    have e : bs.getD i true = bs[i] := by
      have hb : i < bs.length := by omega
      simp [List.getD_eq_getElem?_getD,hb]
    have hq2 : Q' (bs.getD i true) s' := hq'
    rw [e] at hq2
    exact wpAny_pure hq2
  · subst e2
    have ne : ∀ b o,s.heap.get? b = some o→¬ b∈[s.heap.objs.size] := fun b o e z => by
      have := List.mem_singleton.mp z
      subst this
      exact absurd (Heap.lt_size e) (Nat.lt_irrefl _)
    exact Inv.keptN I (fun b o _ e => k b o (ne b o e) (Heap.get?_push_of_some _ e)) (fun m ⟨o,es,ep,e,z⟩ => ⟨o,es,ep,k _ _ (ne _ _ e) (Heap.get?_push_of_some _ e),z⟩) tk
theorem zgn (hc : X.calm = true) : zcp X (.builtin "all") (fun xs H Q => ∃ (p : Addr) (bs : List Bool),xs = [.ref p]∧SqL X.K H p (bs.map V.bl)∧Q (.bl (bs.all id)) H) := by
  intro pins s σ H xs us Q I r h
  obtain ⟨p,bs,rfl,hq,q⟩ := h
  obtain ⟨u,rfl,rx⟩ := zfF r
  cases rx
  refine call_all_walk (zeg hc I hq (show X.A.in1.handled = none from I.ok.hd hc) fun J fp wr n P St tr it s₂ e1 e2 e3 e4 e5 e6 e7 => ⟨J,fp,wr,n,P,St,tr,e1,e2,e3,e4,fun h' tk k => ?_⟩)
  have et : tr = fun i => bs.getD i true := funext e6
  rw [e5,et,zfu]
  exact ⟨.bl (bs.all id),H,e7 h' tk k,rfl,q⟩
end
noncomputable def zeu : List D→Option (List Bool)
  | [] => some []
  | .bl b::ds => (zeu ds).map (b::·)
  | _ => none
theorem zhI {K : PySem.W.Frag} {G : GH} {H : Hp} (gk : GOk K G H) {ds : List D} {xs : List V} {bs : List Bool} (h : RGs K G xs ds) (e : zeu ds = some bs) : xs = bs.map V.bl := by
  induction h generalizing bs with
  | nil => cases e; rfl
  | @cons x d xs ds r t ih =>
    cases d with
    | bl b =>
      have e' : (zeu ds).map (b::·) = some bs := e
      cases e1 : zeu ds with
      | none => rw [e1] at e'; cases e'
      | some bs' =>
        rw [e1] at e'; cases e'
        rw [ih e1,List.map_cons,(RG.rb (H := H) r).bl gk]
    | _ => cases e
noncomputable def allD : List D→Option D
  | [.lst ds] => (zeu ds).map fun bs => .bl (bs.all id)
  | _ => none
theorem zjd {K : PySem.W.Frag} : zgs K (fun xs H Q => ∃ (p : Addr) (bs : List Bool),xs = [.ref p]∧SqL K H p (bs.map V.bl)∧Q (.bl (bs.all id)) H) allD := by
  intro G H vs ds d Q gk rs e q
  unfold allD at e
  split at e
  · rename_i zs
    cases ek : zeu zs with
    | none => rw [ek] at e; cases e
    | some bs =>
      rw [ek] at e; cases e
      cases rs with
      | cons r1 t =>
        cases t
        obtain ⟨b,xs,rfl,s,r⟩ := r1.lst gk
        have ex := zhI gk r ek
        subst ex
        exact ⟨b,bs,rfl,s,q _ G H (Grow.refl gk) (.scl (.bl _))⟩
  · cases e
section
variable {X : Cx} {g : GE} {m : List Md} {e : Expr} {es : List Expr} {fl : Rho → Res (List D)} {pos p : Pos}
theorem zjy (hc : X.calm = true) (hg : Gl X "all") (hm : X.mg "all" = none) (ha : SAB X g m (e::es) fl) (he : starEach (e::es) X.env = (false,eval e X.env)::starEach es X.env := by rfl) (hpl : (backTo pos (starEach es X.env)).any (·.1) = false := by rfl) :
    SE X g m (.Call (.Name "all" p) (e::es) [] pos) (fC fl allD) := s_cb zjd (zcd (zgn hc) hg hm PyProof.Rows.boot_all ha (by decide) (by decide) he hpl)
end
end DL
end
section
namespace DL
open PySem PySem.Spec PyProof.Rows L2
section
variable {X : Cx} {pins : List (Addr × Obj)} {σ : L2.St} {H : Hp} {s : Shared}
end
section
variable {X : Cx} {g : GE} {m : List Md} {e : Expr} {es : List Expr} {fl : Rho → Res (List D)} {pos p : Pos}
end
end DL
end
section
namespace DL
open PySem PySem.Spec PyProof.Rows L2
noncomputable def zhM (h0 H : Hp) : Prop := ∀ a o,h0 a = some o→H a = some o
structure YieldsB (K : PySem.W.Frag) (h0 : Hp) (J : It) (ds : List D) (G0 : GH) : Prop where
  go : ∀ G H (i : Nat),Gle G0 G→GOk K G H→zhM h0 H→i < ds.length→J.go i H
  yld : ∀ G H (i : Nat) x H' d,Gle G0 G→GOk K G H→zhM h0 H→J.yld i H x H'→ds[i]? = some d→∃ G',Grow K G H G' H'∧RG K G' x d
  stop : ∀ G H,Gle G0 G→GOk K G H→zhM h0 H→J.stop ds.length H
section
variable {X : Cx} {g : GE} {m m' mb : List Md} {tg e a iter : Expr} {f : FE} {pos p pos2 : Pos} {ro : Bool} {sts : List Stmt} {s1 : FS} {elts : List Expr} {kk : Nat}
end
end DL
end
section
namespace DL
open PySem PySem.Spec PyProof.Rows L2
open HT (sIx)
section
variable {prog : Program} {w : World} {A : Around} {E : Value → Shared → Prop} {s : Shared}
end
section
variable {X : Cx} {g : GE} {m : List Md} {e : Expr} {f fa : FE} {pos p2 : Pos}
end
end DL
end
section
namespace DL
open PySem PySem.Spec PyProof.Rows L2
noncomputable def BIG : Nat := 2 ^ 2000
noncomputable def zdU (i j : Int) : Prop := i.natAbs < BIG∧j.natAbs < BIG
noncomputable def zjh (_i j : Int) : Prop := 0 < j∧j.natAbs < BIG
noncomputable instance decMulW (i j : Int) : Decidable (zdU i j) := by unfold zdU; infer_instance
noncomputable instance decDivW (i j : Int) : Decidable (zjh i j) := by unfold zjh; infer_instance
theorem zfs {i : Int} (h : i.natAbs < BIG) : Builtin.Int.intBits i≤2000 := by
  unfold Builtin.Int.intBits
  split
  · exact Nat.zero_le _
  · rename_i z
    have h0 : i.natAbs≠0 := fun e => z (by rw [Int.natAbs_eq_zero.mp e]; rfl)
    have := (Nat.log2_lt h0).mpr h
    omega
theorem zdU.ok {i j : Int} (h : zdU i j) : IntMulOk i j := by
  have h1 := zfs h.1
  have h2 := zfs h.2
  unfold IntMulOk
  have e : Builtin.Int.intTooBig ((Builtin.Int.intBits i : Int) + (Builtin.Int.intBits j : Int)) = false := by
    unfold Builtin.Int.intTooBig
    have : ((bitsLine : Nat) : Int) = 134217728 := by decide +kernel
    exact decide_eq_false (by omega)
  rw [e]; simp
theorem zhe : OpR X (binaryOp .Mult) (rI zdU fun i j => .int (i * j)) := opI fun _ _ _ _ _ _ _ hc q => mul_int q hc.ok
noncomputable abbrev mulW : D→D→Option D := zcE zdU fun a b => .int (a * b)
section
variable {X : Cx} {g : GE} {m : List Md} {e a b c o : Expr} {es : List Expr} {f fa fb fc fo : FE} {fl : Rho → Res (List D)} {pos p apos cpos : Pos}
theorem zav (ha : SB X g m a fa) (hb : SB X g m b fb) : SE X g m (.BinOp a .Mult b pos) (f2 fa fb mulW) := zc3 zhe (zbE fun _ _ => .int _) ha hb
noncomputable def absD : List D→Option D
  | [.int i] => some (.int (if i < 0 then -i else i))
  | _ => none
theorem zje {K : PySem.W.Frag} : zgs K (fun xs H Q => ∃ i : Int,xs = [.int i]∧Q (.int (if i < 0 then -i else i)) H) absD := by
  intro G H vs ds d Q gk rs e q
  unfold absD at e
  split at e
  · cases e
    cases rs with
    | cons r1 t =>
      cases t
      exact ⟨_,by rw [r1.int gk],q _ G H (Grow.refl gk) (.scl (.int _))⟩
  · cases e
theorem zh8 (hg : Gl X "abs") (hm : X.mg "abs" = none) (ha : SAB X g m (e::es) fl) (he : starEach (e::es) X.env = (false,eval e X.env)::starEach es X.env := by rfl) (hpl : (backTo pos (starEach es X.env)).any (·.1) = false := by rfl) :
    SE X g m (.Call (.Name "abs" p) (e::es) [] pos) (fC fl absD) := s_cb zje (zcd zgo hg hm PyProof.Rows.boot_abs ha (by decide) (by decide) he hpl)
end
end DL
end
section
namespace DL
open PySem PySem.Spec PyProof.Rows L2
noncomputable def zcF (g : GE) (H : Hp) (fp : List Addr) (i : Nat) (p : Addr) : GE :=
  ⟨g.gh,fun b => if b∈fp then H b else g.h0 b,fun j => if j = i then some (some (V.ref p),none) else g.hd j⟩
noncomputable def RowR (K : PySem.W.Frag) (G : GH) (H : Hp) (b : Addr) (ds : List D) : Prop := ∃ xs,H b = some (.lst xs)∧RGs K G xs ds
structure LRw (K : PySem.W.Frag) (G : GH) (H : Hp) (p : Addr) (as : List Addr) (w : List (List D)) : Prop where
  out : H p = some (.lst (as.map V.ref))
  nd : (p::as).Nodup
  un : ∀ b∈p::as,G b = none
  rw : Paired (RowR K G H) as w
theorem RowR.mono {K : PySem.W.Frag} {G G' : GH} {H H' : Hp} {b : Addr} {ds : List D} (h : RowR K G H b ds) (ge : Gle G G') (he : H' b = H b) : RowR K G' H' b ds := by
  obtain ⟨xs,h1,h2⟩ := h
  exact ⟨xs,by rw [he]; exact h1,h2.mono ge⟩
theorem zd0 {α β : Type} {F F' : α→β→Prop} {l : List α} {r : List β} (h : Paired F l r) (f : ∀ a∈l,∀ b,F a b→F' a b) : Paired F' l r := by
  induction h with
  | nil => exact .nil
  | cons h _ ih => exact .cons (f _ List.mem_cons_self _ h) (ih fun a ha => f a (List.mem_cons_of_mem _ ha))
theorem LRw.isS {K : PySem.W.Frag} {G : GH} {H : Hp} {p : Addr} {as : List Addr} {w : List (List D)} (h : LRw K G H p as w) {b : Addr} (hb : b∈p::as) : H b≠none := by
  rcases List.mem_cons.mp hb with rfl | hb
  · rw [h.out]; simp
  · have : ∀ {as : List Addr} {w : List (List D)},Paired (RowR K G H) as w→b∈as→H b≠none := fun {as w} q hb => by
      induction q with
      | nil => cases hb
      | cons r _ ih =>
        rcases List.mem_cons.mp hb with rfl | hb
        · obtain ⟨xs,e,_⟩ := r; rw [e]; simp
        · exact ih hb
    exact this h.rw hb
theorem LRw.mono {K : PySem.W.Frag} {G G' : GH} {H H' : Hp} {p : Addr} {as : List Addr} {w : List (List D)} (h : LRw K G H p as w) (ge : Gle G G') (he : ∀ b∈p::as,H' b = H b) (un : ∀ b∈p::as,G' b = none) : LRw K G' H' p as w :=
  ⟨by rw [he p List.mem_cons_self]; exact h.out,h.nd,un,zd0 h.rw fun b hb ds r => r.mono ge (he b (List.mem_cons_of_mem _ hb))⟩
noncomputable def SI2 (X : Cx) (g : GE) (i : Nat) (m : List Md) (r : Rho) (w : List (List D)) (G : GH) (st : L2.St) (H : Hp) : Prop :=
  ∃ p as,LRw X.K G H p as w∧(∀ b∈p::as,g.h0 b = none)∧SI X (zcF g H (p::as) i p) m r G st H∧m[i]? = some .bw
section
variable {X : Cx} {g : GE} {i : Nat} {m m' m1 : List Md} {r r' : Rho} {w : List (List D)} {G G' : GH} {σ σ' : L2.St} {H H' : Hp}
noncomputable abbrev FS2 := Rho→List (List D)→Option (Rho × List (List D))
variable {st : Stmt} {sts : List Stmt} {ro : Bool} {mb : List Md} {s1 : FS} {f1 f2 : FS2} {tg iter : Expr} {pos : Pos}
theorem zhv {K : PySem.W.Frag} {H : Hp} : ∀ {as : List Addr} {w : List (List D)} {G : GH},GOk K G H→Paired (RowR K G H) as w→as.Nodup→(∀ b∈as,G b = none)→∃ G',Gle G G'∧(∀ b,b∉as→G' b = G b)∧GOk K G' H∧Paired (fun b ds => G' b = some (.lst ds)) as w := by
  intro as
  induction as with
  | nil =>
    intro w G gk h _ _
    cases h
    exact ⟨G,Gle.refl G,fun _ _ => rfl,gk,.nil⟩
  | cons b as ih =>
    intro w G gk h nd un
    cases h with
    | @cons _ ds _ w r t =>
      rw [List.nodup_cons] at nd
      have hb := un b List.mem_cons_self
      obtain ⟨xs,e,rs⟩ := r
      have g1 : GOk K (gset G b (.lst ds)) H := gk.gset hb (.lst (.inl e) rs)
      obtain ⟨G',l,o,g,q⟩ := ih g1 (zd0 t fun c hc ds r => r.mono (zaA hb) rfl) nd.2 fun c hc => by
        rw [zax (by rintro rfl; exact nd.1 hc)]; exact un c (List.mem_cons_of_mem _ hc)
      refine ⟨G',Gle.trans (zaA hb) l,fun c hc => ?_,g,.cons (l _ _ zar) q⟩
      rw [o c fun z => hc (List.mem_cons_of_mem _ z),zax (by rintro rfl; exact hc List.mem_cons_self)]
theorem zeO {G : GH} {as : List Addr} {w : List (List D)} {b : Addr} (hb : b∈as) (q : Paired (fun b ds => G b = some (.lst ds)) as w) : ∃ ds,G b = some (.lst ds) := by
  induction q with
  | nil => cases hb
  | cons h _ ih =>
    rcases List.mem_cons.mp hb with rfl | hb
    · exact ⟨_,h⟩
    · exact ih hb
theorem zd5 {fp : List Addr} {p : Addr} {d0 : D} (si : SI X (zcF g H fp i p) m r G σ H) (hm : m[i]? = some .bw) (h0 : ∀ b∈fp,g.h0 b = none) (hS : ∀ b∈fp,H b≠none) (hb : ∀ j,j≠i→m[j]?≠some .bw) (le : Gle G G') (g2 : GOk X.K G' H) (out : ∀ b,b∉fp→G' b = G b) (hd : G' p = some d0) :
    SI X g (m.set i .sh) (r.set i (some d0)) G' σ H := by
  have hlt : i < m.length := (List.getElem?_eq_some_iff.mp hm).1
  have hst : σ[i]? = some (some (V.ref p)) := (si.lk i (some (V.ref p),none) (by show (if i = i then _ else _) = _; rw [if_pos rfl]) hm).1
  have h0' : ∀ b,b∉fp→(zcF g H (fp) i p).h0 b = g.h0 b := fun b hb => by show (if b∈fp then H b else g.h0 b) = _; rw [if_neg hb]
  have h0i : ∀ b,b∈fp→(zcF g H (fp) i p).h0 b≠none := fun b hb => by show (if b∈fp then H b else g.h0 b)≠_; rw [if_pos hb]; exact hS b hb
  have nin : ∀ b,g.h0 b≠none→b∉fp := fun b h z => h (h0 b z)
  have mne : ∀ {j x},i≠j→(m.set i .sh)[j]? = some x→m[j]? = some x := fun hij h => by rw [List.getElem?_set_ne hij] at h; exact h
  refine ⟨g2,fun a o e => ?_,fun a d e => le a d (si.ge a d e),fun a h => ?_,by simpa using si.lm,by simpa using si.lr,fun j d h1 h2 => ?_,fun j d h1 h2 => ?_,fun j d h1 h2 => ?_,fun j k a d e hjk h1 h2 m1 m2 z1 z2 => ?_,fun j o hj hm' => ?_⟩
  · exact si.old a o (by rw [h0' a (nin a (by rw [e]; simp))]; exact e)
  · have hn := nin a h
    rw [out a hn]
    exact si.gf a (by rw [h0' a hn]; exact h)
  · by_cases hij : i = j
    · subst hij
      rw [List.getElem?_set_self (by rw [si.lr,← si.lm]; exact hlt)] at h1
      cases h1
      exact ⟨_,hst,.ref hd⟩
    · rw [List.getElem?_set_ne hij] at h1
      obtain ⟨v,y1,y2⟩ := si.sh j d h1 (mne hij h2)
      exact ⟨v,y1,y2.mono le⟩
  · by_cases hij : i = j
    · subst hij; rw [List.getElem?_set_self hlt] at h2; cases h2
    · rw [List.getElem?_set_ne hij] at h1
      obtain ⟨a,y1,y2,y3⟩ := si.ow j d h1 (mne hij h2)
      have hn : a∉fp := fun z => h0i a z y3
      exact ⟨a,y1,⟨by rw [out a hn]; exact y2.un,y2.ob.mono le fun _ z => z⟩,by rw [← h0' a hn]; exact y3⟩
  · by_cases hij : i = j
    · subst hij; rw [List.getElem?_set_self hlt] at h2; cases h2
    · exact absurd (mne hij h2) (hb j (Ne.symm hij))
  · have hij : i≠j := by rintro rfl; rw [List.getElem?_set_self hlt] at m1; cases m1
    have hik : i≠k := by rintro rfl; rw [List.getElem?_set_self hlt] at m2; cases m2
    rw [List.getElem?_set_ne hij] at h1
    rw [List.getElem?_set_ne hik] at h2
    exact si.dis j k a d e hjk h1 h2 (mne hij m1) (mne hik m2) z1 z2
  · by_cases hij : i = j
    · subst hij; rw [List.getElem?_set_self hlt] at hm'; cases hm'
    · exact absurd (mne hij hm') (hb j (Ne.symm hij))
theorem SI2.frz (s : SI2 X g i m r w G σ H) (hb : ∀ j,j≠i→m[j]?≠some .bw) : ∃ G',Gle G G'∧(∀ b d,G b = none→G' b = some d→∃ ds,d = .lst ds)∧SI X g (m.set i .sh) (r.set i (some (.lst (w.map D.lst)))) G' σ H := by
  obtain ⟨p,as,R,h0,si,hm⟩ := s
  have nd := List.nodup_cons.mp R.nd
  obtain ⟨G1,l1,o1,g1,q1⟩ := zhv si.gok R.rw nd.2 fun b hb => R.un b (List.mem_cons_of_mem _ hb)
  have hp1 : G1 p = none := by rw [o1 p nd.1]; exact R.un p List.mem_cons_self
  have rs : RGs X.K G1 (as.map V.ref) (w.map D.lst) := by
    have : ∀ {as : List Addr} {w : List (List D)},Paired (fun b ds => G1 b = some (.lst ds)) as w→RGs X.K G1 (as.map V.ref) (w.map D.lst) := fun {as w} q => by
      induction q with
      | nil => exact .nil
      | cons h _ ih => exact .cons (.ref h) ih
    exact this q1
  have g2 : GOk X.K (gset G1 p (.lst (w.map D.lst))) H := g1.gset hp1 (.lst (.inl R.out) rs)
  have le : Gle G (gset G1 p (.lst (w.map D.lst))) := Gle.trans l1 (zaA hp1)
  have out : ∀ b,b∉p::as→gset G1 p (.lst (w.map D.lst)) b = G b := fun b hb => by
    rw [zax (by rintro rfl; exact hb List.mem_cons_self),o1 b fun z => hb (List.mem_cons_of_mem _ z)]
  refine ⟨_,le,fun b d hn e => ?_,zd5 si hm h0 (fun b hb => R.isS hb) hb le g2 out zar⟩
  by_cases hbp : b = p
  · subst hbp; rw [zar] at e; cases e; exact ⟨_,rfl⟩
  · rw [zax hbp] at e
    by_cases hba : b∈as
    · obtain ⟨ds,e1⟩ := zeO hba q1
      rw [e1] at e; cases e; exact ⟨_,rfl⟩
    · rw [o1 b hba,hn] at e; cases e
end
end DL
end
section
namespace DL
open PySem PySem.Spec PyProof.Rows L2
noncomputable def RO (K : PySem.W.Frag) (H2 : Hp) (p : Addr) (G : GH) (H : Hp) (ws : List V) (ds : List D) : Prop := Paired (fun v d => ∃ b,v = V.ref b∧H2 b = none∧b≠p∧Own K G H b d) ws ds∧ws.Nodup
section
variable {K : PySem.W.Frag} {H2 : Hp} {p : Addr} {G G' : GH} {H H' : Hp} {ws : List V} {ds : List D}
theorem RO.upd {o : HO} (h : RO K H2 p G H ws ds) : RO K H2 p G (L2.upd H p o) ws ds :=
  ⟨Paired.mono (fun v d ⟨b,e,h1,h2,h3⟩ => ⟨b,e,h1,h2,h3.un,h3.ob.mono (fun _ _ z => z) fun _ z => by rw [zam h2]; exact z⟩) h.1,h.2⟩
end
section
variable {X : Cx} {pins : List (Addr × Obj)} {σ : L2.St} {H2 : Hp} {s2 : Shared} {scope : Scope} {N' : List Str} {nl : Nat} {cap : List Nat} {cl : List (Str × Addr)} {fp : List Addr} {g : GE} {G2 : GH} {m : List Md} {r : Rho} {elt tg iter : Expr} {ifs : List Expr} {pos : Pos}
end
end DL
end
section
namespace DL
open PySem PySem.Spec PyProof.Rows L2
section
variable {X : Cx} {g : GE} {m mb : List Md} {scope : Scope} {N' : List Str} {nl : Nat} {cap : List Nat} {elt tg iter : Expr} {ifs : List Expr} {pos pos' spos : Pos} {fi : FI} {ft : FT} {q : FQ} {fe : FE} {ro : Bool}
end
end DL
end
section
namespace DL
open PySem PySem.Spec PyProof.Rows L2
section
variable {X : Cx} {g : GE} {i : Nat} {m m' m1 : List Md} {r r' : Rho} {w : List (List D)} {G G' : GH} {σ σ' : L2.St} {H H' : Hp}
theorem SI.row {p : Addr} {as : List Addr} (R : LRw X.K G H p as w) (si : SI X (zcF g H (p::as) i p) m r G σ H) (hm : m[i]? = some .bw) (hb : ∀ j,j≠i→m[j]?≠some .bw) {b : Addr} (hbm : b∈p::as) (o : HO) : SI X (zcF g (upd H b o) (p::as) i p) m r G σ (upd H b o) := by
  have un := R.un b hbm
  have h0' : ∀ c,c∉p::as→(zcF g H (p::as) i p).h0 c = g.h0 c := fun c hc => by show (if c∈p::as then H c else g.h0 c) = _; rw [if_neg hc]
  have h0i : ∀ c,c∈p::as→(zcF g H (p::as) i p).h0 c = H c := fun c hc => by show (if c∈p::as then H c else g.h0 c) = _; rw [if_pos hc]
  have k0' : ∀ c,c∉p::as→(zcF g (upd H b o) (p::as) i p).h0 c = g.h0 c := fun c hc => by show (if c∈p::as then _ else g.h0 c) = _; rw [if_neg hc]
  have k0i : ∀ c,c∈p::as→(zcF g (upd H b o) (p::as) i p).h0 c = upd H b o c := fun c hc => by show (if c∈p::as then upd H b o c else g.h0 c) = _; rw [if_pos hc]
  refine ⟨fun c d e => ?_,fun c u e => ?_,si.ge,fun c h => ?_,si.lm,si.lr,si.sh,fun j d h1 h2 => ?_,fun j d h1 h2 => ?_,si.dis,si.lk⟩
  · have hc : c≠b := by rintro rfl; rw [un] at e; cases e
    exact (si.gok c d e).mono (fun _ _ z => z) fun u z => by rw [zam hc]; exact z
  · by_cases hc : c∈p::as
    · rw [k0i c hc] at e; exact e
    · rw [k0' c hc] at e
      have hcb : c≠b := by rintro rfl; exact hc hbm
      rw [zam hcb]
      exact si.old c u (by rw [h0' c hc]; exact e)
  · by_cases hc : c∈p::as
    · exact si.gf c (by rw [h0i c hc]; exact R.isS hc)
    · rw [k0' c hc] at h
      exact si.gf c (by rw [h0' c hc]; exact h)
  · obtain ⟨a,q1,q2,q3⟩ := si.ow j d h1 h2
    have ha : a∉p::as := fun z => by rw [h0i a z] at q3; exact R.isS z q3
    have hab : a≠b := by rintro rfl; exact ha hbm
    rw [h0' a ha] at q3
    exact ⟨a,q1,⟨q2.un,q2.ob.mono (fun _ _ z => z) fun u z => by rw [zam hab]; exact z⟩,by rw [k0' a ha]; exact q3⟩
  · by_cases hj : j = i
    · subst hj
      have := (si.lk j (some (V.ref p),none) (by show (if j = j then _ else _) = _; rw [if_pos rfl]) hm).2 d h1
      cases this
    · exact absurd h2 (hb j hj)
variable {ro : Bool} {mb : List Md} {pos p1 p2 p3 p4 p5 p6 p7 p8 p9 p10 p11 : Pos} {x xa xb : Str} {jc : Nat}
end
end DL
end
section
namespace DL
open PySem PySem.Spec PyProof.Rows L2
noncomputable def lessA (H : Hp) (a : Addr) : Hp := fun b => if b = a then none else H b
theorem zf4 {H : Hp} {a b : Addr} (h : b≠a) : lessA H a b = H b := if_neg h
theorem Grow.lessA {K : PySem.W.Frag} {G G' G2 : GH} {H H' H2 : Hp} {a : Addr} (w : Grow K G H G' H') (ha : H a = none) (w2 : Grow K G' (lessA H' a) G2 H2) : Grow K G H G2 H2 := by
  have ne : ∀ b,H b≠none→b≠a := fun b h => by rintro rfl; exact h ha
  have he : ∀ b o,H b = some o→DL.lessA H' a b = some o := fun b o e => by rw [zf4 (ne b (by rw [e]; simp))]; exact w.he b o e
  refine ⟨w2.ok,fun b o e => w2.he b o (he b o e),fun b d e => w2.ge b d (w.ge b d e),fun b h => ?_⟩
  rw [w2.gf b ?_,w.gf b h]
  cases e : H b with
  | none => exact absurd e h
  | some o => rw [he b o e]; simp
noncomputable def spV (K : PySem.W.Frag) (ro : Bool) (ms : List Md) (F : List D→Res D) : Sp := fun vs H Q _ => ∃ G us a ds d,GOk K G H∧vs = us++[V.ref a]∧ArgsOk K G H ms us ds∧Own K G H a d ∧
  fin (F (ds++[d])) (fun d' => ∀ v G' H',Grow K G (lessA H a) G' H'→RV ro K (lessA H a) G' H' v d'→Q v H') fun _ => False
section
variable {K : PySem.W.Frag} {G : GH} {H : Hp}
end
section
variable {P : Program} {w : World} {K : PySem.W.Frag} {mg : Str → Option Value} {base : Heap}
structure CalleeV (P : Program) (w : World) (K : PySem.W.Frag) (mg : Str→Option Value) (base : Heap) (x : Str) (ps : List Str) (k : Nat) (ro : Bool) (ms : List Md) (F : List D→Res D) : Prop where
  ex : ∃ f fd,mg x = some (.ref f)∧PySem.W.keepIn K (.ref f) = true∧zcq K fd ps []∧FnOk P w K mg base CX0 k f fd ps (spV K ro ms F)
end
section
variable {X : Cx} {g : GE} {m ms : List Md} {e : Expr} {es : List Expr} {f : FE} {fl : Rho → Res (List D × D)} {x : Str} {ps : List Str} {k : Nat} {F : List D → Res D} {p pos : Pos}
end
end DL
end
section
namespace DL
open PySem PySem.Spec PyProof.Rows L2
section
variable {X : Cx} {g : GE} {i : Nat} {m m' m1 : List Md} {r r' : Rho} {w : List (List D)} {G G' : GH} {σ σ' : L2.St} {H H' : Hp} {st : Stmt} {sts sts' : List Stmt} {f1 f2 : FS2} {c e ie : Expr} {es : List Expr} {q : FQ} {f fi : FE} {fl : Rho → Res (List D)} {pos p1 p2 p3 apos cpos spos : Pos} {x y : Str}
end
end DL
end
section
namespace DL
open PySem PySem.Spec PyProof.Rows L2
end DL
end
section
namespace DL
open PySem PySem.Spec PyProof.Rows L2
section
variable {X : Cx} {pins : List (Addr × Obj)} {σ : L2.St} {H : Hp} {s : Shared}
end
section
variable {X : Cx} {g : GE} {m : List Md} {a b : Expr} {fl : Rho → Res (List D)} {fa fb : FE} {pos p : Pos}
end
end DL
end
section
namespace DL
open PySem PySem.Spec PyProof.Rows L2
inductive Cln : D→Prop where
  | non : Cln .non
  | bl (b : Bool) : Cln (.bl b)
  | int (i : Int) : Cln (.int i)
  | str (x : Str) : Cln (.str x)
  | tup {ds : List D} : (∀ d∈ds,Cln d)→Cln (.tup ds)
theorem Cln.lst {ds : List D} (h : Cln (.lst ds)) : False := nomatch h
theorem Cln.dic {ds : List (Key × D)} (h : Cln (.dic ds)) : False := nomatch h
theorem Cln.get {ds : List D} (h : Cln (.tup ds)) : ∀ d∈ds,Cln d := by
  cases h with
  | tup h => exact h
section
variable {X : Cx} {g : GE} {i : Nat} {m m' m1 : List Md} {r r' : Rho} {w : List (List D)} {G G' : GH} {σ σ' : L2.St} {H H' : Hp} {e : Expr} {f : FE} {st : Stmt} {pos p1 p2 p3 p4 p5 p6 p7 p8 p9 p10 : Pos} {x xa xb y : Str}
end
end DL
end
section
namespace DL
open PySem PySem.Spec PyProof.Rows L2
structure TL (K : PySem.W.Frag) (G : GH) (H : Hp) (p a : Addr) (d1 : D) (ds : List D) : Prop where
  tp : ∃ x xs,H p = some (.tup [x,.ref a])∧RG K G x d1∧H a = some (.lst xs)∧RGs K G xs ds
  un : ∀ b∈[p,a],G b = none
  ne : p≠a
theorem TL.isS {K : PySem.W.Frag} {G : GH} {H : Hp} {p a : Addr} {d1 : D} {ds : List D} (t : TL K G H p a d1 ds) : ∀ b∈[p,a],H b≠none := fun b hb => by
  obtain ⟨x,xs,h1,_,h2,_⟩ := t.tp
  rcases List.mem_cons.mp hb with rfl | hb
  · rw [h1]; simp
  · rw [List.mem_singleton.mp hb,h2]; simp
noncomputable def RW (K : PySem.W.Frag) (H0 : Hp) (G : GH) (H : Hp) (v : V) (d : D) : Prop := ∃ p a d1 ds,v = .ref p∧d = .tup [d1,.lst ds]∧(∀ b∈[p,a],H0 b = none)∧TL K G H p a d1 ds
noncomputable def spW (K : PySem.W.Frag) (ms : List Md) (F : List D→Res D) : Sp := fun vs H Q _ => ∃ G ds,GOk K G H∧ArgsOk K G H ms vs ds∧fin (F ds) (fun d => ∀ v G' H',Grow K G H G' H'→RW K H G' H' v d→Q v H') fun _ => False
noncomputable abbrev FW := Rho→Res D
section
variable {X : Cx} {g : GE} {ro : Bool} {i : Nat} {m m' m1 mb : List Md} {r r' : Rho} {G G' : GH} {σ σ' : L2.St} {H H' : Hp} {e e1 e2 c : Expr} {f f1 f2 : FE} {q : FQ} {st : Stmt} {sts sts1 : List Stmt} {s1 : FS} {fs : FW} {pos p1 p2 p3 p4 apos cpos : Pos} {x y : Str}
end
section
variable {P : Program} {w : World} {K : PySem.W.Frag} {mg : Str → Option Value} {base : Heap}
structure CalleeW (P : Program) (w : World) (K : PySem.W.Frag) (mg : Str→Option Value) (base : Heap) (x : Str) (ps : List Str) (k : Nat) (ms : List Md) (F : List D→Res D) : Prop where
  ex : ∃ f fd,mg x = some (.ref f)∧PySem.W.keepIn K (.ref f) = true∧zcq K fd ps []∧FnOk P w K mg base CX0 k f fd ps (spW K ms F)
end
section
variable {X : Cx} {g : GE} {ro : Bool} {i : Nat} {m m' m1 mb ms : List Md} {r r' : Rho} {G G' : GH} {σ σ' : L2.St} {H H' : Hp} {e c : Expr} {es : List Expr} {q : FQ} {st : Stmt} {sts sts1 : List Stmt} {fl : Rho → Res (List D)} {F : List D → Res D} {k : Nat} {ps : List Str} {pos p1 p2 p3 p4 apos cpos : Pos} {x y : Str} {d1 : D} {ds : List D}
noncomputable def SI3 (X : Cx) (g : GE) (i : Nat) (m : List Md) (r : Rho) (d1 : D) (ds : List D) (G : GH) (st : L2.St) (H : Hp) : Prop :=
  ∃ p a,TL X.K G H p a d1 ds∧(∀ b∈[p,a],g.h0 b = none)∧SI X (zcF g H [p,a] i p) m r G st H∧m[i]? = some .bw
theorem SI3.frz (s : SI3 X g i m r d1 ds G σ H) (hb : ∀ j,j≠i→m[j]?≠some .bw) : ∃ G',Gle G G'∧(∀ b d,G b = none→G' b = some d→¬ Cln d)∧SI X g (m.set i .sh) (r.set i (some (.tup [d1,.lst ds]))) G' σ H := by
  obtain ⟨p,a,t,h0,si,hm⟩ := s
  obtain ⟨x,xs,h1,h2,h3,h4⟩ := t.tp
  have ua := t.un a (List.mem_cons_of_mem _ List.mem_cons_self)
  have up := t.un p List.mem_cons_self
  have g1 : GOk X.K (gset G a (.lst ds)) H := si.gok.gset ua (.lst (.inl h3) h4)
  have up1 : gset G a (.lst ds) p = none := by rw [zax t.ne]; exact up
  have g2 : GOk X.K (gset (gset G a (.lst ds)) p (.tup [d1,.lst ds])) H := g1.gset up1 (.tup (.inl h1) (.cons (h2.mono (zaA ua)) (.cons (.ref zar) .nil)))
  refine ⟨_,Gle.trans (zaA ua) (zaA up1),fun b d hn e hc => ?_,zd5 si hm h0 t.isS hb (Gle.trans (zaA ua) (zaA up1)) g2 (fun b hb => ?_) zar⟩
  · by_cases hbp : b = p
    · subst hbp; rw [zar] at e; cases e
      exact (hc.get _ (List.mem_cons_of_mem _ List.mem_cons_self)).lst
    · rw [zax hbp] at e
      by_cases hba : b = a
      · subst hba; rw [zar] at e; cases e; exact hc.lst
      · rw [zax hba,hn] at e; cases e
  · rw [zax (by rintro rfl; exact hb List.mem_cons_self),zax (by rintro rfl; exact hb (List.mem_cons_of_mem _ List.mem_cons_self))]
end
end DL
end
section
namespace DL
section
open PySem PyProof.Rows PySem.W PySem.Calls
variable {prog : Program} {w : World} {A : Around} {E : Value → Shared → Prop} {s : Shared} {l : Addr} {vs : List Value} {ns : List Int}
end
open PySem PySem.Spec PyProof.Rows L2
section
variable {X : Cx} {pins : List (Addr × Obj)} {σ : L2.St} {H : Hp} {s : Shared}
end
section
variable {X : Cx} {g : GE} {m : List Md} {a b : Expr} {fl : Rho → Res (List D)} {fa fb : FE} {pos p : Pos}
end
end DL
end
section
namespace DL
section
open PySem PyProof.Rows
variable {prog : Program} {w : World} {A : Around} {R : Result → Shared → Prop} {I S : Addr} {fp wr : List Addr} {n : Nat} {P : Nat → Value → Prop} {St : Nat → Heap → Prop} {TP : Heap → Prop} {bt : Nat → Nat → Bool}
noncomputable def zec (wr : List Addr) (S : Addr) (h h' : Heap) : Prop := ∀ b o,b∉wr→b≠S→h.get? b = some o→h'.get? b = some o
theorem zec.trans {h h1 h2 : Heap} (a : zec wr S h h1) (b : zec wr S h1 h2) : zec wr S h h2 := fun c o hc hs e => b c o hc hs (a c o hc hs e)
end
end DL
end
section
namespace DL
open PySem PySem.Spec PyProof.Rows L2
section
variable {X : Cx} {pins : List (Addr × Obj)} {σ : L2.St} {H : Hp} {s : Shared}
end
section
variable {X : Cx} {g : GE} {m : List Md} {e : Expr} {es : List Expr} {fl : Rho → Res (List D)} {pos p : Pos}
end
section
variable {X : Cx}
end
end DL
end
section
namespace DL
open PySem PySem.Spec PyProof.Rows L2 PySem.W PySem.Calls
noncomputable def spX (K : PySem.W.Frag) (ro : Bool) (ms : List Md) (F : List D→Res D) : Sp := fun vs H Q E => ∃ G ds,GOk K G H∧ArgsOk K G H ms vs ds ∧
  fin (F ds) (fun d => ∀ v G' H',Grow K G H G' H'→RV ro K H G' H' v d→Q v H') fun x => ∀ C od nm fs G' H',x = xD nm fs→XN K nm C→XF G' od fs→Grow K G H G' H'→E (.ref C) od H'
section
variable {X : Cx} {k : Nat} {f : Addr} {fd : FuncData} {ps : List Str} {sp : Sp} {dvs : List V} {ds : List Value} {x : Str} {p pos : Pos} {e : Expr} {es : List Expr} {t : TA}
noncomputable def zjf (X : Cx) (σ : L2.St) (H : Hp) (E : XK) : Prop := ∀ pins s a cls od H' s',Inv X pins σ H s→Fly X.prog X.w X.stack H s H' a cls od s'→E cls od H'→X.xe (.ref a) s'
theorem zg3 {pins : List (Addr × Obj)} {σ : L2.St} {H : Hp} {s : Shared} {Q : VK} {E : XK} {us : List Value} {vs : List V} (F : FnOk X.prog X.w X.K X.mg X.base (CXR X.prog X.w) k f fd ps sp) (hr : Room k X.A) (hb : zcq X.K fd ps ds) (hd : Vals dvs ds)
    (I : Inv X pins σ H s) (hx : zjf X σ H E) (r : Vals vs us) (h : sp (vs++dvs) H Q E) : wpAny (model X.prog X.w) X.A (call (.ref f) us) (EP X pins σ Q) X.xe s := by
  have r2 : Vals (vs++dvs) (us++ds) := r.append hd
  have hl : (us++ds).length = ps.length := by rw [← r2.length]; exact F.len _ _ _ _ h
  refine wpAny_call (codeAny_mono (F.run X.A X.stack s H ⟨us,[]⟩ (us++ds) (vs++dvs) Q E hr I.env0 (hb s us I.kIn hl) r2 h) fun r s' hq => ?_)
  cases r with
  | error e =>
    obtain ⟨a,cls,H',od,rfl,fl,q⟩ := hq
    exact hx pins s a cls od H' s' I fl q
  | ok fl =>
    cases fl with
    | ret u => exact I.after hq
    | next => exact False.elim hq
    | brk => exact False.elim hq
    | cont => exact False.elim hq
theorem zf0 (F : FnOk X.prog X.w X.K X.mg X.base (CXR X.prog X.w) k f fd ps sp) (hr : Room k X.A) (hg : Gl X x) (hm : X.mg x = some (.ref f)) (hk : PySem.W.keepIn X.K (.ref f) = true) (hb : zcq X.K fd ps ds) (hd : Vals dvs ds)
    (ha : PA X (e::es) t) (hdb : (x == ("__debug__" : Str)) = false := by decide) (he : starEach (e::es) X.env = (false,eval e X.env)::starEach es X.env := by rfl) (hpl : (backTo pos (starEach es X.env)).any (·.1) = false := by rfl) :
    PE X (.Call (.Name x p) (e::es) [] pos) (fun σ H Q => t σ H fun vs H1 => ∃ E,sp (vs++dvs) H1 Q E∧zjf X σ H1 E) := by
  intro pins s σ H Q I h
  refine wpAny_Call_Name_kw (zcB I hg hm ?_ hdb)
  refine PySem.W.callWith_K (h₀ := X.base) I.ok.mod.kin hk (thn (ha pos pins s σ H _ I h) fun us s1 ⟨vs,H1,I1,r,E,q,px⟩ => ⟨I1.kIn,?_⟩) he hpl
  exact zg3 F hr hb hd I1 px r q
end
section
variable {P : Program} {w : World} {K : PySem.W.Frag} {mg : Str → Option Value} {base : Heap}
theorem zhw {x qual : Str} {st : Stmt} {f : Addr} {fd : FuncData} {N ps : List Str} {k : Nat} {ro : Bool} {ms : List Md} {fs : FS} {m' : List Md} (F : Fun K x qual st f fd) (S : FnScope N ps (zac st)) (hms : ms.length = ps.length)
    (hbody : ∀ (cdv : Value) (A : Around) (outer : List Env) (s : Shared) (H : Hp) (g : GE) (E : XK),Room k (A.deeper (envOfC qual (zac st) s.heap.objs.size f cdv)) →
      SSs (cxOf (CXR P w) P w K mg base N qual (zac st) f cdv A outer s H E) g ro [] (zb8 N.length ms) (zaS st) fs m') :
    FnOk P w K mg base (CXR P w) (k + 1) f fd ps (spX K ro ms fun ds => outR ro (fs (zaq N.length ds))) := by
  obtain ⟨oc,od,kV,doc,pm,an,cdv,ct,osl,rfl,lk,hcd⟩ := F.ex
  refine zi4 lk hcd S (fun vs H Q E ⟨G,ds,gk,rs,q⟩ => rs.len.1.trans hms) fun A outer s H vs Q E hr h => ?_
  obtain ⟨G,ds,gk,rs,q⟩ := h
  have hpl : ps.length≤N.length := by have := congrArg List.length S.pre; rw [List.length_take] at this; omega
  refine ⟨_,(hbody cdv A outer s H ⟨G,H,fun _ => none⟩ E hr).2,zaq N.length ds,G,zdV gk rs (by omega),?_⟩
  replace q : fin (outR ro (fs (zaq N.length ds))) _ _ := q
  cases e : fs (zaq N.length ds) with
  | nx r' =>
    rw [e] at q
    cases ro with
    | false => exact fun σ' G' H' _ si => q .non G' H' si.grown (.scl .non)
    | true => exact q.elim
  | rt d => rw [e] at q; exact fun v G' H' wg rv => q v G' H' wg rv
  | bk r' => rw [e] at q; exact q.elim
  | ct r' => rw [e] at q; exact q.elim
  | exc x r' =>
    rw [e] at q
    intro pins ev s' σ' G' H' le si I ex
    obtain ⟨pins1,s1,H1,a,C,od1,nm,fs1,rfl,rfl,xn,xf,I1,fl⟩ := ex
    exact fl.leaves I1 rfl rfl rfl fun s'' fl2 => ⟨a,_,H',od1,rfl,fl2,q C od1 nm fs1 G' H' rfl xn xf si.grown⟩
  | stuck => rw [e] at q; exact q
structure CalleeX (P : Program) (w : World) (K : PySem.W.Frag) (mg : Str→Option Value) (base : Heap) (x : Str) (ps : List Str) (ds : List Value) (k : Nat) (ro : Bool) (ms : List Md) (F : List D→Res D) : Prop where
  ex : ∃ f fd,mg x = some (.ref f)∧PySem.W.keepIn K (.ref f) = true∧zcq K fd ps ds∧FnOk P w K mg base (CXR P w) k f fd ps (spX K ro ms F)
theorem zhm {x : Str} {st : Stmt} {N ps : List Str} {k : Nat} {ro : Bool} {ms : List Md} {fs : FS} {m' : List Md} (A : DefAt K mg x st) (S : FnScope N ps (zac st)) (hms : ms.length = ps.length)
    (hb : ∀ (kV doc pm : Value) (an : Option Addr) (cdv ct : Value) (us : List Value),us.length = ps.length→bindArgs (PySem.W.fnOf x x (zbG st) (zaS st) (zac st) .none kV doc pm an cdv ct) ⟨us,[]⟩ = pure (ps.zip us))
    (hbody : ∀ (f : Addr) (cdv : Value) (A : Around) (outer : List Env) (s : Shared) (H : Hp) (g : GE) (E : XK),Room k (A.deeper (envOfC x (zac st) s.heap.objs.size f cdv)) →
      SSs (cxOf (CXR P w) P w K mg base N x (zac st) f cdv A outer s H E) g ro [] (zb8 N.length ms) (zaS st) fs m') :
    CalleeX P w K mg base x ps [] (k + 1) ro ms fun ds => outR ro (fs (zaq N.length ds)) := by
  obtain ⟨f,fd,h1,F⟩ := A.ex
  exact ⟨f,fd,h1,F.kp,F.binds hb,zhw F S hms (hbody f)⟩
end
section
variable {X : Cx} {g : GE} {ro : Bool} {m mb : List Md} {e : Expr} {es : List Expr} {fl : Rho → Res (List D)} {k : Nat} {ps : List Str} {F : List D → Res D} {dvs : List V} {ds : List Value} {dds : List D} {x : Str} {p np pos : Pos} {ms : List Md} {C : Addr}
noncomputable def zdb (fl : Rho→Res (List D)) (dds : List D) (F : List D→Res D) : FE := fun r => (fl r).bind fun ds => F (ds++dds)
theorem zg0 (c : CalleeX X.prog X.w X.K X.mg X.base x ps ds k false (ms++List.replicate dds.length .sh) F) (hr : Room k X.A) (hd : Vals dvs ds) (hsc : Paired Scl dvs dds) (ha : SAM X g m (e::es) ms fl) (hg : Gl X x := by rfl)
    (hdb : (x == ("__debug__" : Str)) = false := by decide) (he : starEach (e::es) X.env = (false,eval e X.env)::starEach es X.env := by rfl) (hpl : (backTo pos (starEach es X.env)).any (·.1) = false := by rfl) :
    SE X g m (.Call (.Name x p) (e::es) [] pos) (zdb fl dds F) := by
  obtain ⟨fa,fd,h1,h2,h3,G1⟩ := c.ex
  refine PE.imp (zf0 G1 hr hg h1 h2 h3 hd ha hdb he hpl) fun σ H Q ⟨r,G,si,q⟩ => ⟨r,G,si,?_⟩
  cases ez : fl r with
  | ok zs =>
    unfold zdb at q
    rw [ez] at q
    intro vs G' H' w' rs
    refine ⟨fun cls od H2 => ∃ C nm fs G2,cls = .ref C∧F (zs++dds) = .exc (xD nm fs)∧XN X.K nm C∧XF G2 od fs∧Grow X.K G' H' G2 H2,⟨G',zs++dds,w'.ok,rs.app hsc,?_⟩,?_⟩
    · cases ef : F (zs++dds) with
      | ok d => replace q : fin (F (zs++dds)) _ _ := q; rw [ef] at q; exact fun v G2 H2 w2 rv => q v G2 H2 (w'.trans w2) rv
      | exc y => exact fun C od nm fs G2 H2 hy xn xf w2 => ⟨C,nm,fs,G2,rfl,by rw [hy],xn,xf,w2⟩
      | stuck => replace q : fin (F (zs++dds)) _ _ := q; rw [ef] at q; exact q
    · intro pins s a cls od H2 s' I fl ⟨C,nm,fs,G2,hc,ef,xn,xf,w2⟩
      subst hc
      replace q : fin (F (zs++dds)) _ _ := q
      rw [ef] at q
      exact q pins (.ref a) s' G2 H2 (w'.trans w2) (fl.inv I) ⟨pins,s,H',a,C,od,nm,fs,rfl,rfl,xn,xf,I,fl⟩
  | exc x => unfold zdb at q; rw [ez] at q; exact q
  | stuck => unfold zdb at q; rw [ez] at q; exact q
noncomputable def raiF (m : List Md) (nm : Str) (fl : Rho→Res (List D)) : FS := fun r => onE m r (fl r) fun ds => if ds.length≤100 then .exc (xD nm []) (forget m r) else .stuck
theorem zgV {nm : Str} (hc : X.calm = true) (c : XC X.K X.mg x C) (xn : XN X.K nm C) (hg : Gl X x) (ha : SA X g m (e::es) fl) (hdb : (x == ("__debug__" : Str)) = false := by decide)
    (he : starEach (e::es) X.env = (false,eval e X.env)::starEach es X.env := by rfl) (hpl : (backTo p (starEach es X.env)).any (·.1) = false := by rfl) :
    SS X g ro mb m (.Raise (some (.Call (.Name x np) (e::es) [] p)) none pos) (raiF m nm fl) m := by
  refine ⟨rfl,fun pins s σ H D I ⟨r,G,si,q⟩ => ?_⟩
  refine zfO I hc c hg ha ⟨r,G,si,?_⟩ hdb he hpl
  refine zaf (zbF si rfl q) fun ds q vs G' H' w' rs => ?_
  have hl : vs.length = ds.length := Paired.length rs
  split at q
  · rename_i h100
    refine ⟨by rw [hl]; exact Nat.le_trans h100 (by decide),fun s1 a s' I1 fl => ?_⟩
    exact q pins (.ref a) s' σ G' H' w'.ge (by have := (si.grow w').forget; exact this) (fl.inv I1) ⟨pins,s1,H',a,C,none,nm,[],rfl,rfl,xn,rfl,I1,fl⟩
  · exact q.elim
end
end DL
end
section
namespace DL
open PySem PySem.Spec PyProof.Rows L2 PySem.W PySem.Calls
section
variable {M : Model} {A : Around} {E : Value → Shared → Prop} {s : Shared} {nm q nmT qT : Str} {C N T NT : Addr} {bs bm bsT bmT : List Value} {hdct hdctT : Bool} {sn snT : List Str} {sub subT' : List Value} {ab abT : Bool} {col colT : Option Bool} {dd ddT : Option Addr} {k0 k1 k2 k3 k5 t0 t1 t2 t3 t5 : Option Value} {newId newIdT : String}
theorem zcQ {e : Addr} {oe : Obj} {Q : Bool→Shared→Prop} (hC : s.heap.get? C = some (excClassObj nm q C N bs bm hdct sn sub ab col dd k0 k1 k2 k3 k5 newId)) (hT : s.heap.get? T = some (excClassObj nmT qT T NT bsT bmT hdctT snT subT' abT colT ddT t0 t1 t2 t3 t5 newIdT))
    (he : s.heap.get? e = some oe) (hc : oe.cls = .ref C) (hb : bmT.contains (Value.type "BaseException") = true) (hq : Q ((Value.ref C::bm).contains (.ref T)) s) : wpAny M A (excMatches (.ref e) (.ref T)) Q E s := by
  unfold excMatches
  refine wpAny_bind (wpAny_isInstance (T := "type") (b := false) ⟨_,hT,rfl⟩ (by rw [isSubtype_type]; kernel_rfl) ?_)
  rw [if_neg Bool.false_ne_true]
  refine wpAny_bind (wpAny_pure ?_)
  simp only [List.forIn_cons,List.forIn_nil]
  refine wpAny_bind (wpAny_bind ?_)
  unfold isExcClass isType
  refine wpAny_bind (wpAny_bind (wpAny_bind (wpAny_loadPart hT (wpAny_pure ?_))))
  rw [if_pos rfl]
  obtain ⟨hh,hg,hdr,ht,ho⟩ := s
  refine wpAny_isSubtype_exc hT ?_
  rw [List.contains_cons,hb,Bool.or_true]
  rw [if_neg (by simp)]
  refine wpAny_pure (wpAny_pure ?_)
  refine wpAny_bind ?_
  unfold typeOf
  refine wpAny_bind (wpAny_loadPart he (wpAny_pure ?_))
  rw [hc]
  refine wpAny_bind (wpAny_bind (wpAny_bind (wpAny_isSubtype_exc hC ?_)))
  cases hm : (Value.ref C::bm).contains (Value.ref T) with
  | true =>
    rw [hm] at hq
    rw [if_pos rfl]
    exact wpAny_pure (wpAny_pure (wpAny_pure hq))
  | false =>
    rw [hm] at hq
    rw [if_neg Bool.false_ne_true]
    exact wpAny_pure (wpAny_pure (wpAny_pure hq))
end
end DL
end
section
namespace DL
open PySem PySem.Spec PyProof.Rows L2 PySem.W PySem.Calls
section
variable {X : Cx} {pins : List (Addr × Obj)} {σ : L2.St} {H H' : Hp} {s s' : Shared} {M : Model} {A : Around} {E : Value → Shared → Prop}
theorem Inv.unbind {i : Nat} {n : Str} {h' : Heap} {u : Option Value} {m : Str→Option Value} (I : Inv X pins σ H s) (hN : X.N.Nodup) (hi : X.N[i]? = some n) (hm : s.heap.Ns X.env.locals m)
    (hn : h'.Ns X.env.locals fun x => if x = n then u else m x) (sb : Heap.SameBut X.env.locals s.heap h') (hl : ∀ x v,m x = some v→True) : Inv X pins (σ.set i none) H { heap := h',gens := s.gens,drawn := s.drawn,toks := s.toks,os := s.os } := by
  have nl : ∀ b o,X.s₀.heap.get? b = some o→b≠X.env.locals := fun b o e z => by
    have h1 := Heap.lt_size e
    have h2 := I.ok.above
    rw [z] at h1
    exact absurd h1 (Nat.not_lt.mpr h2)
  have cl : ∀ {c v},s.heap.IsCell c v→h'.IsCell c v := fun {c v} hc => by
    have hne : c≠X.env.locals := by
      intro z
      obtain ⟨o,e1,e2⟩ := hc
      obtain ⟨o',es,ep,ho,r⟩ := hm
      rw [z,ho] at e1
      cases e1
      rw [r.1] at e2
      cases e2
    obtain ⟨o,e1,e2⟩ := hc
    exact ⟨o,(sb.2 c hne).trans e1,e2⟩
  refine ⟨I.ok,I.os,I.bare,⟨fun b o e n f z => (sb.2 b (nl b o e)).trans (I.base.keep b o e n f z),fun b o e n f z => ?_,I.base.free,fun b o e z => ?_,I.base.tups,I.base.frzs,I.base.tbls⟩,?_,fun x c hc => ?_,I.free,I.freeC,fun p hp => ?_,fun b o e => ?_,by rw [List.length_set]; exact I.len⟩
  · obtain ⟨sl,e1⟩ := I.base.slot b o e n f z
    exact ⟨sl,(sb.2 b (nl b o e)).trans e1⟩
  · obtain ⟨o',e1⟩ := I.base.there b o e z
    exact ⟨o',(sb.2 b (nl b o e)).trans e1⟩
  · obtain ⟨m0,hm0,lk⟩ := I.loc
    refine ⟨_,hn,fun j x v hj hv vis => ?_⟩
    have hij : i≠j := by
      rintro rfl
      rw [List.getElem?_set,if_pos rfl] at hv
      split at hv <;> cases hv
    rw [List.getElem?_set_ne hij] at hv
    obtain ⟨w,rw',lo⟩ := lk j x v hj hv vis
    have hxn : x≠n := by
      rintro rfl
      exact hij ((List.getElem?_inj (List.getElem?_eq_some_iff.mp hi).1 hN).mp (hi.trans hj.symm))
    refine ⟨w,rw',?_⟩
    rcases lo with ⟨k,e⟩ | ⟨k,c,hc,ic⟩
    · refine .inl ⟨k,?_⟩
      show (if x = n then u else m x) = some w
      rw [if_neg hxn,hm.agree hm0]
      exact e
    · exact .inr ⟨k,c,hc,cl ic⟩
  · obtain ⟨v,hv⟩ := I.cell x c hc
    exact ⟨v,cl hv⟩
  · obtain ⟨p1,p2,p3,p4,p5⟩ := I.pin p hp
    exact ⟨(sb.2 _ p3).trans p1,p2,p3,p4,p5⟩
  · have hb : ∀ c u,H c = some u→c≠X.env.locals := fun c u e z => by rw [z,I.free] at e; cases e
    refine (I.hok b o e).stay (fun c v hc e1 => (sb.2 c ?_).trans e1) (fun _ z => z) fun _ _ z => z
    rcases hc with z | z
    · rw [z]; exact hb b o e
    · exact hb c _ z
theorem zez {i : Nat} {n : Str} {pos : Pos} {v : V} {Q : Unit→Shared→Prop} (I : Inv X pins σ H s) (hN : X.N.Nodup) (hi : X.N[i]? = some n) (hv : σ[i]? = some (some v)) (hl : X.env.kindOf n = some NameKind.local) (hsc : X.env.scope.names.lookup n = some .local)
    (q : ∀ s',Inv X pins (σ.set i none) H s'→Q () s') : wpAny M A (unbindBehindTheSuite X.env n pos) Q E s := by
  unfold unbindBehindTheSuite
  refine wpAny_onRaise ?_
  obtain ⟨m,hm,lk⟩ := id I.loc
  obtain ⟨w,rw',lo⟩ := lk i n v hi hv (.inl hsc)
  have hmn : m n = some w := by
    rcases lo with ⟨_,e⟩ | ⟨k,_⟩
    · exact e
    · rw [hl] at k; rcases k with k | k <;> cases k
  refine wpAny_unbindName_local hl hm hmn ?_ fun h' u hn sb => q _ (Inv.unbind I hN hi hm hn sb fun _ _ _ => trivial)
  rw [I.ok.kind]; rfl
end
end DL
end
section
namespace DL
open PySem PySem.Spec PyProof.Rows L2 PySem.W PySem.Calls
noncomputable def XO (K : PySem.W.Frag) (C : Addr) (bm : List Value) : Prop := ∃ N nm q bs hdct sn sub ab col dd k0 k1 k2 k3 k5 newId,K.lookup C = some (excClassObj nm q C N bs bm hdct sn sub ab col dd k0 k1 k2 k3 k5 newId)
noncomputable abbrev _root_.L2.Cx.held (X : Cx) (v : Value) : Cx := { X with A := X.A.mark (some v),calm := false,xe := fun _ _ => False }
section
variable {X : Cx} {pins : List (Addr × Obj)} {σ : L2.St} {H H' : Hp} {s s' : Shared} {a C : Addr} {od : Option Addr}
theorem Inv.held (I : Inv X pins σ H s) (v : Value) : Inv (X.held v) pins σ H s :=
  ⟨⟨I.ok.mod,I.ok.kind,I.ok.glob,I.ok.blt,I.ok.above,I.ok.inj,I.ok.has,I.ok.cab,(fun h => nomatch h),I.ok.frames,I.ok.stk,I.ok.exf,I.ok.bs,I.ok.bsz,I.ok.noex,I.ok.exfs,I.ok.funs,I.ok.frf⟩,I.os,I.bare,I.base,I.loc,I.cell,I.free,I.freeC,I.pin,I.hok,I.len⟩
theorem Inv.unheld {v : Value} (hh : X.calm = true→X.A.handled = none) (I : Inv (X.held v) pins σ H s) : Inv X pins σ H s :=
  ⟨⟨I.ok.mod,I.ok.kind,I.ok.glob,I.ok.blt,I.ok.above,I.ok.inj,I.ok.has,I.ok.cab,hh,I.ok.frames,I.ok.stk,I.ok.exf,I.ok.bs,I.ok.bsz,I.ok.noex,I.ok.exfs,I.ok.funs,I.ok.frf⟩,I.os,I.bare,I.base,I.loc,I.cell,I.free,I.freeC,I.pin,I.hok,I.len⟩
theorem Fly.noted {E : Value→Shared→Prop} {M : Model} {Q : Unit→Shared→Prop} (F : Fly X.prog X.w X.stack H s H' a (.ref C) od s') (I : Inv X pins σ H s) (hst : X.stack = X.env::X.outer) (hfr : X.env.frame = some X.env.locals)
    (q : ∀ h' oe vs tb ot ts,Inv X pins σ (upd H' a (.ext (XcO a C od))) { heap := h',gens := s'.gens,drawn := s'.drawn,toks := s'.toks,os := s'.os }→H' a = none→h'.get? a = some oe→oe.cls = .ref C→oe.data = .fields vs→vs[1]? = some (.ref tb)→h'.get? tb = some ot→ot.data = .fields ts→ts[3]? = some Value.none →
      Q () { heap := h',gens := s'.gens,drawn := s'.drawn,toks := s'.toks,os := s'.os }) :
    wpAny M X.A (noteFrame (.ref a) X.env) (fun _ s2 => wpAny M X.A (setFlight (.ref a) none) Q E s2) E s' := by
  obtain ⟨B,hB,hBa,hff,⟨oe,vs,r1,r2,r3,r4,r5⟩,hd,hH⟩ := F.ex
  have hHa : H' a = none := by
    cases e : H' a with
    | none => rfl
    | some u => obtain ⟨o',z⟩ := hH a u e; rw [hBa] at z; cases z
  have haf : a∉frs X.stack := fun z => by
    obtain ⟨_,o,e1,nf⟩ := hff.mem z
    rw [r1] at e1; cases e1
    exact nf vs r4
  have hs1 : 1 < vs.size := by
    rcases r5 with z | ⟨_,_,_,z,_⟩ <;> exact (Array.getElem?_eq_some_iff.mp z).1
  have sna : ∀ b o,s.heap.get? b = some o→b≠a := fun b o e z => by
    rw [z] at e
    obtain ⟨o',z2⟩ := hd a o e haf
    rw [hBa] at z2; cases z2
  have fin : ∀ (T : Option Addr) h',(∀ b,T = some b→B.get? b = none)→Lft (frs (X.env::X.outer)) a oe vs T s'.heap h'→Q () { heap := h',gens := s'.gens,drawn := s'.drawn,toks := s'.toks,os := s'.os } := fun T h' hT l => by
    rw [← hst] at l
    have same : ∀ b o,(∃ o',B.get? b = some o')→s'.heap.get? b = some o→h'.get? b = some o := fun b o ⟨o',e⟩ h => by
      refine l.keep b o (fun z => ?_) (fun z => by rw [z,hBa] at e; cases e) (fun z => by rw [hT b z] at e; cases e) h
      rw [(hff.mem z).1] at e
      cases e
    obtain ⟨tb,ot,ts,t1,t2,t3,t4,t5,t6⟩ := l.obj
    have hok1 : HOk X.prog X.w H' h' := fun b u e => by
      refine (F.hok b u e).stay (fun c v hc e1 => same c v ?_ e1) (fun _ z => z) fun _ _ z => z
      rcases hc with hc | hc
      · rw [hc]; exact hH b u e
      · exact hH c _ hc
    have hne : ∀ b u,H' b = some u→b≠a := fun b u e z => by rw [z,hHa] at e; cases e
    have hok2 : HOk X.prog X.w (upd H' a (.ext (XcO a C od))) h' := fun b u e => by
      by_cases hb : b = a
      · subst hb
        rw [zaP] at e
        cases e
        exact ⟨⟨_,_,t3,r2,r3,rfl⟩,⟨_,t3⟩,fun h1 h2 ⟨oe',vs',z1,z2,z3,z4⟩ k => ⟨oe',vs',k _ z1,z2,z3,z4⟩⟩
      · rw [zam hb] at e
        refine (hok1 b u e).stay (fun _ _ _ z => z) (fun c z => ?_) fun c xs z => ?_
        · rw [zam (hne c _ z)]; exact z
        · rw [zam (hne c _ z)]; exact z
    have I2 : Inv X pins σ (upd H' a (.ext (XcO a C od))) { heap := h',gens := s'.gens,drawn := s'.drawn,toks := s'.toks,os := s'.os } := by
      refine I.call' (ch := []) F.os ⟨fun b o e n f z => ?_,fun b o e n f z => ?_,fun b o e n z => ?_,fun b o e z => ?_,fun b xs e => ?_,fun b o u e => ?_,fun b ps e => ?_⟩ hok2 F.bare fun b z => absurd z (by simp)
      · exact same b o (hd b o e f) (F.un.keep b o e n f z)
      · obtain ⟨sl,e1⟩ := F.un.slot b o e n f z
        obtain ⟨_,o2,e2,nf⟩ := hff.mem f
        rw [e1] at e2
        cases e2
        obtain ⟨sl2,e3⟩ := l.slot b _ e1 nf
        exact ⟨sl2,e3⟩
      · rw [zam (sna b o e)]; exact F.un.free b o e n z
      · obtain ⟨o1,e1⟩ := F.un.there b o e z
        by_cases f : b∈frs X.stack
        · obtain ⟨_,o2,e2,nf⟩ := hff.mem f
          obtain ⟨sl,e3⟩ := l.slot b _ e2 nf
          exact ⟨_,e3⟩
        · exact ⟨o1,same b o1 (hd b o e f) e1⟩
      · have := F.un.tups b xs e; rw [zam (hne b _ this)]; exact this
      · have := F.un.frzs b o u e; rw [zam (hne b _ this)]; exact this
      · obtain ⟨mo,this⟩ := F.un.tbls b ps e
        exact ⟨mo,by rw [zam (hne b _ this)]; exact this⟩
    exact q h' _ _ tb ot ts I2 hHa t3 r2 rfl (Array.getElem?_setIfInBounds_self_of_lt hs1) t4 t5 t6
  have hff2 := hff
  rw [hst] at hff2
  rcases r5 with z | ⟨T,oT,ts,z1,z2,z3,z4,z5,z6⟩
  · exact zc7 (T := none) (by rw [I.ok.frames,hst]) hff2 hfr r1 r4 (.inl ⟨z,rfl⟩) fun h' l => fin none h' (fun b e => nomatch e) l
  · exact zc7 (T := some T) (by rw [I.ok.frames,hst]) hff2 hfr r1 r4 (.inr ⟨T,oT,ts,rfl,z1,z3,z4,z5,z6⟩) fun h' l => fin (some T) h' (fun b e => by cases e; exact z2) l
end
end DL
end
section
namespace DL
open PySem PySem.Spec PyProof.Rows L2 PySem.W PySem.Calls
section
variable {X : Cx} {pins : List (Addr × Obj)} {σ : L2.St} {H H' : Hp} {s s' : Shared} {a C T : Addr} {od : Option Addr}
theorem zgj {i : Nat} {n xT : Str} {bm bmT : List Value} {np hpos : Pos} {b₀ : Stmt} {suite : List Stmt} {t : TS} {D : Ends} {rest : List ExceptHandler} (F : Fly X.prog X.w X.stack H s H' a (.ref C) od s') (I : Inv X pins σ H s) (hst : X.stack = X.env::X.outer) (hfr : X.env.frame = some X.env.locals) (hcalm : X.calm = true)
    (cT : X.mg xT = some (.ref T)) (oT : XO X.K T bmT) (hbT : bmT.contains (Value.type "BaseException") = true) (oC : XO X.K C bm) (hit : (Value.ref C::bm).contains (.ref T) = true) (hg : Gl X xT)
    (hN : X.N.Nodup) (hi : X.N[i]? = some n) (hl : X.env.kindOf n = some NameKind.local) (hsc : X.env.scope.names.lookup n = some .local)
    (hs : PSs (X.held (.ref a)) (b₀::suite) t)
    (q : H' a = none→t { nx := fun σ' H2 => D.nx (σ'.set i none) H2,rt := fun _ _ => False } (σ.set i (some (.ref a))) (upd H' a (.ext (XcO a C od)))) (hdb : (xT == ("__debug__" : Str)) = false := by decide) :
    wpAny (model X.prog X.w) X.A (noteFrame (.ref a) X.env) (fun _ s₂ => wpAny (model X.prog X.w) X.A (setFlight (.ref a) none) (fun _ s₃ => wpAny (model X.prog X.w) X.A (handleBy (.ref a) X.env (.ExceptHandler (some (.Name xT np)) (some n) (b₀::suite) hpos::rest)) (SP X pins D) X.xe s₃) X.xe s₂) X.xe s' := by
  refine F.noted I hst hfr fun h' oe vs tb ot ts I1 hHa e1 e2 e3 e4 e5 e6 e7 => ?_
  refine wpAny_handleBy_cons ?_ (by intro z; cases z)
  have Ih := Inv.held I1 (.ref a)
  refine codeAny_handlers_test (zcB (X := X.held (.ref a)) Ih hg cT ?_ hdb)
  obtain ⟨N1,nm1,q1,bs1,hd1,sn1,sub1,ab1,col1,dd1,a0,a1,a2,a3,a5,nw1,z1⟩ := oC
  obtain ⟨N2,nm2,q2,bs2,hd2,sn2,sub2,ab2,col2,dd2,c0,c1,c2,c3,c5,nw2,z2⟩ := oT
  refine zcQ (I1.kIn _ _ z1) (I1.kIn _ _ z2) e1 e2 hbT ?_
  rw [hit,if_pos rfl]
  refine codeAny_handlers_suite_as ?_
  unfold setFlight
  refine wpAny_bind (wpAny_field e1 e3 e4 ?_)
  rw [if_pos (by rfl)]
  have h3s : 3 < ts.size := (Array.getElem?_eq_some_iff.mp e7).1
  refine wpAny_setField e5 e6 h3s ?_
  have I2 : Inv X pins σ (upd H' a (.ext (XcO a C od))) { heap := h'.update tb (Obj.mapFields fun v => v.setIfInBounds 3 Value.none),gens := s'.gens,drawn := s'.drawn,toks := s'.toks,os := s'.os } := by
    refine I1.kept fun b u e => ?_
    show (h'.update tb _).get? b = some u
    by_cases hb : b = tb
    · subst hb
      have e5' : h'.get? b = some ot := e5
      have : u = ot := by rw [show h'.get? b = some u from e] at e5'; cases e5'; rfl
      subst this
      have mf : Obj.mapFields (fun v => v.setIfInBounds 3 Value.none) u = u := by
        obtain ⟨c,d,da,sl⟩ := u
        have : da = .fields ts := e6
        subst this
        show ({ cls := c,dict := d,data := .fields (ts.setIfInBounds 3 Value.none),slots := sl } : Obj) = _
        have : ts.setIfInBounds 3 Value.none = ts := by
          refine Array.ext_getElem? fun j => ?_
          by_cases hj : 3 = j
          · subst hj; rw [Array.getElem?_setIfInBounds_self_of_lt h3s,e7]
          · rw [Array.getElem?_setIfInBounds_ne hj]
        rw [this]
      have nf : (Obj.mapFields (fun v => v.setIfInBounds 3 Value.none) u).isFreed = false := by
        obtain ⟨c,d,da,sl⟩ := u
        have : da = .fields ts := e6
        subst this
        rfl
      have := Heap.get?_update_self (Obj.mapFields fun v => v.setIfInBounds 3 Value.none) e5' nf
      rw [mf] at this
      exact this
    · rw [Heap.get?_update_ne _ _ _ _ hb]; exact e
  refine zcr (X := X.held (.ref a)) (i := i) (v := .ref a) (Inv.held I2 (.ref a)) hN hi (.inl hsc) rfl (fun s3 I3 => ?_) (.inr hsc)
  refine wpAny_mono (hs pins s3 _ _ _ I3 (q hHa)) (fun f s4 h4 => ?_) fun _ _ z => False.elim z
  have fin : ∀ {σ' : L2.St} {H2 : Hp} ,Inv (X.held (.ref a)) pins σ' H2 s4→D.nx (σ'.set i none) H2→f = Flow.next→wpAny (model X.prog X.w) X.A (do
      bindName X.env n Value.none
      unbindBehindTheSuite X.env n hpos) (fun _ s₅ => SP X pins D f s₅) X.xe s4 := fun {σ' H2} I4 k hf => by
    subst hf
    have I4' : Inv X pins σ' H2 s4 := Inv.unheld I.ok.hd I4
    refine wpAny_bind (wpAny_bindName (zcr (i := i) (v := .non) I4' hN hi (.inl hsc) rfl (fun s5 I5 => ?_) (.inr hsc)))
    have hlen : i < σ'.length := by rw [I4'.len]; exact (List.getElem?_eq_some_iff.mp hi).1
    refine zez (v := .non) I5 hN hi (by rw [List.getElem?_set_self hlen]) hl hsc fun s6 I6 => ?_
    rw [List.set_set] at I6
    exact ⟨_,H2,I6,k⟩
  cases f with
  | next => obtain ⟨σ',H2,I4,k⟩ := h4; exact fin I4 k rfl
  | brk => obtain ⟨σ',H2,I4,k⟩ := h4; exact k.elim
  | cont => obtain ⟨σ',H2,I4,k⟩ := h4; exact k.elim
  | ret u => obtain ⟨v,σ',H2,I4,_,k⟩ := h4; exact k.elim
end
end DL
end
section
namespace DL
open PySem PySem.Spec PyProof.Rows L2 PySem.W PySem.Calls
theorem SI.cx {X X' : Cx} {g : GE} {m : List Md} {r : Rho} {G : GH} {st : L2.St} {H : Hp} (s : SI X g m r G st H) (h : X'.K = X.K) : SI X' g m r G st H := by
  constructor
  · rw [h]; exact s.gok
  · exact s.old
  · exact s.ge
  · exact s.gf
  · exact s.lm
  · exact s.lr
  · rw [h]; exact s.sh
  · rw [h]; exact s.ow
  · rw [h]; exact s.bw
  · exact s.dis
  · exact s.lk
theorem SI.unset {X : Cx} {g : GE} {m : List Md} {r : Rho} {G : GH} {st : L2.St} {H : Hp} {i : Nat} (s : SI X g m r G st H) (hm : m[i]? = some .sh) : SI X g m (r.set i none) G (st.set i none) H := by
  have key : ∀ {j : Nat} {d : D},(r.set i none)[j]? = some (some d)→i≠j∧r[j]? = some (some d) := fun {j d} h => by
    have hij : i≠j := by
      rintro rfl
      rw [List.getElem?_set,if_pos rfl] at h
      split at h <;> cases h
    rw [List.getElem?_set_ne hij] at h
    exact ⟨hij,h⟩
  refine ⟨s.gok,s.old,s.ge,s.gf,by rw [List.length_set]; exact s.lm,by rw [List.length_set,List.length_set]; exact s.lr,fun j d h hj => ?_,fun j d h hj => ?_,fun j d h hj => ?_,fun j k a d e hjk h1 h2 m1 m2 q1 q2 => ?_,fun j o h hj => ?_⟩
  · obtain ⟨hij,h⟩ := key h
    rw [List.getElem?_set_ne hij]; exact s.sh j d h hj
  · obtain ⟨hij,h⟩ := key h
    rw [List.getElem?_set_ne hij]; exact s.ow j d h hj
  · obtain ⟨hij,h⟩ := key h
    rw [List.getElem?_set_ne hij]; exact s.bw j d h hj
  · obtain ⟨z1,h1⟩ := key h1
    obtain ⟨z2,h2⟩ := key h2
    rw [List.getElem?_set_ne z1] at q1
    rw [List.getElem?_set_ne z2] at q2
    exact s.dis j k a d e hjk h1 h2 m1 m2 q1 q2
  · have hij : i≠j := by rintro rfl; rw [hm] at hj; cases hj
    obtain ⟨l1,l2⟩ := s.lk j o h hj
    exact ⟨by rw [List.getElem?_set_ne hij]; exact l1,fun d hd => l2 d (by rw [List.getElem?_set_ne hij] at hd; exact hd)⟩
noncomputable abbrev _root_.L2.Cx.tr (X : Cx) (ps : List (Addr × Obj)) (E : Value→Shared→Prop) : Cx := { X with pn := ps,xe := E }
section
variable {X : Cx} {pins pins' : List (Addr × Obj)} {σ : L2.St} {H : Hp} {s : Shared} {E : Value → Shared → Prop}
theorem Inv.tr (I : Inv X pins σ H s) (E : Value→Shared→Prop) : Inv (X.tr (X.pn++pins) E) [] σ H s :=
  ⟨⟨I.ok.mod,I.ok.kind,I.ok.glob,I.ok.blt,I.ok.above,I.ok.inj,I.ok.has,I.ok.cab,I.ok.hd,I.ok.frames,I.ok.stk,I.ok.exf,I.ok.bs,I.ok.bsz,I.ok.noex,I.ok.exfs,I.ok.funs,I.ok.frf⟩,I.os,I.bare,I.base,I.loc,I.cell,I.free,I.freeC,fun p hp => I.pin p (by rw [List.append_nil] at hp; exact hp),I.hok,I.len⟩
theorem Inv.untr (I : Inv (X.tr (X.pn++pins) E) pins' σ H s) : Inv X pins σ H s :=
  ⟨⟨I.ok.mod,I.ok.kind,I.ok.glob,I.ok.blt,I.ok.above,I.ok.inj,I.ok.has,I.ok.cab,I.ok.hd,I.ok.frames,I.ok.stk,I.ok.exf,I.ok.bs,I.ok.bsz,I.ok.noex,I.ok.exfs,I.ok.funs,I.ok.frf⟩,I.os,I.bare,I.base,I.loc,I.cell,I.free,I.freeC,fun p hp => I.pin p (List.mem_append_left _ hp),I.hok,I.len⟩
theorem SP.untr {D : Ends} {f : Flow} (h : SP (X.tr (X.pn++pins) E) [] D f s) : SP X pins D f s := by
  cases f with
  | next => obtain ⟨σ',H',I,q⟩ := h; exact ⟨σ',H',Inv.untr I,q⟩
  | brk => obtain ⟨σ',H',I,q⟩ := h; exact ⟨σ',H',Inv.untr I,q⟩
  | cont => obtain ⟨σ',H',I,q⟩ := h; exact ⟨σ',H',Inv.untr I,q⟩
  | ret u => obtain ⟨v,σ',H',I,r,q⟩ := h; exact ⟨v,σ',H',Inv.untr I,r,q⟩
end
noncomputable def zgq (K : PySem.W.Frag) (T : Addr) (hit : Str→Bool) : Prop := ∀ nm C,hit nm = true→XN K nm C→∃ bm,XO K C bm∧(Value.ref C::bm).contains (.ref T) = true
noncomputable def xNm : D→Option Str
  | .obj 0 ((_,.str nm)::_) => some nm
  | _ => none
noncomputable def tryF (m1 : List Md) (i : Nat) (hit : Str→Bool) (fb fh : FS) : FS := fun r => match fb r with
  | .nx r' => .nx (forget m1 r')
  | .rt d => .rt d
  | .exc x r' => (match xNm x with
    | some nm => if hit nm = true then (match fh (r'.set i (some x)) with
      | .nx r2 => .nx (r2.set i none)
      | _ => .stuck) else .stuck
    | none => .stuck)
  | _ => .stuck
section
variable {X : Cx} {g : GE} {ro : Bool} {m m1 mb : List Md} {T : Addr} {fb fh : FS}
theorem zju {n xT : Str} {bmT : List Value} {np hpos pos : Pos} {body suite : List Stmt} {b₀ : Stmt} {hit : Str→Bool} (i : Nat) (hst : X.stack = X.env::X.outer) (hfr : X.env.frame = some X.env.locals) (hcalm : X.calm = true)
    (cT : X.mg xT = some (.ref T)) (oT : XO X.K T bmT) (hbT : bmT.contains (Value.type "BaseException") = true) (hk : zgq X.K T hit) (hg : Gl X xT) (hN : X.N.Nodup) (hi : X.N[i]? = some n) (hl : X.env.kindOf n = some NameKind.local) (hsc : X.env.scope.names.lookup n = some .local)
    (hb : ∀ ps E,SSs (X.tr ps E) g ro [] m body fb m1) (hs : ∀ a,SSs (X.held (.ref a)) g ro [] (zaV m1) (b₀::suite) fh (zaV m1)) (hdb : (xT == ("__debug__" : Str)) = false := by decide) :
    SS X g ro mb m (.Try body [.ExceptHandler (some (.Name xT np)) (some n) (b₀::suite) hpos] [] [] pos) (tryF m1 i hit fb fh) (zaV m1) := by
  have hml : (zaV m1).length = m.length := by rw [zaV,List.length_map]; exact (hb [] fun _ _ => False).1
  refine ⟨hml,fun pins s σ H D I ⟨r,G,si,q⟩ => ?_⟩
  refine wpAny_Try_except ?_
  generalize hE : (fun (e : Value) (s₁ : Shared) => wpAny (model X.prog X.w) X.A (noteFrame e X.env) (fun _ s₂ => wpAny (model X.prog X.w) X.A (setFlight e none) (fun _ s₃ => wpAny (model X.prog X.w) X.A (handleBy e X.env [.ExceptHandler (some (.Name xT np)) (some n) (b₀::suite) hpos]) (SP X pins D) X.xe s₃) X.xe s₂) X.xe s₁) = E'
  have key : oTo (X.tr (X.pn++pins) E') g ro m1 [] G { nx := D.nx,rt := D.rt } (fb r) := by
    unfold tryF at q
    cases e : fb r with
    | nx r' =>
      rw [e] at q
      exact fun σ' G' H' le si' => q σ' G' H' le (SI.cx (X' := X) si' rfl).forget
    | rt d => rw [e] at q; exact q
    | bk r' => rw [e] at q; exact q.elim
    | ct r' => rw [e] at q; exact q.elim
    | stuck => rw [e] at q; exact q
    | exc x r' =>
      rw [e] at q
      intro pins' ev s' σ' G' H' le si' I' ex
      obtain ⟨pins1,s1,H1,a,C,od,nm,ds,rfl,rfl,xn,xf,I1,fl⟩ := ex
      show E' (.ref a) s'
      rw [← hE]
      replace q : oTo X g ro (zaV m1) mb G D (if hit nm = true then (match fh (r'.set i (some (xD nm ds))) with
        | .nx r2 => .nx (r2.set i none)
        | _ => .stuck) else .stuck) := q
      split at q
      · rename_i hh
        obtain ⟨bm,oC,hc⟩ := hk nm C hh xn
        refine zgj (i := i) (D := D) fl (Inv.untr I1) hst hfr hcalm cT oT hbT oC hc hg hN hi hl hsc (hs a).2 (fun hHa => ?_) hdb
        have hGa : G' a = none := si'.gok.isN hHa
        have w : Grow X.K G' H' (gset G' a (xD nm ds)) (upd H' a (.ext (XcO a C od))) := by
          have ge : ∀ b d,G' b = some d→gset G' a (xD nm ds) b = some d := fun b d e => by
            have : b≠a := by rintro rfl; rw [hGa] at e; cases e
            rw [zax this]; exact e
          refine ⟨fun b d e => ?_,fun b o e => ?_,ge,fun b h => ?_⟩
          · by_cases hb : b = a
            · subst hb
              rw [zar] at e
              cases e
              exact .exc zaP xn (xf.mono ge)
            · rw [zax hb] at e
              exact (si'.gok b d e).mono ge fun o z => by rw [zam hb]; exact z
          · have : b≠a := by rintro rfl; rw [hHa] at e; cases e
            rw [zam this]; exact e
          · have : b≠a := by rintro rfl; exact h hHa
            exact zax this
        have si2 := ((SI.cx (X' := X) si' rfl).grow w).set i (.ref zar)
        have hms : (zaV m1)[i]? = some .sh := by
          have hlen : i < (zaV m1).length := by
            rw [si'.lm,I'.len]; exact (List.getElem?_eq_some_iff.mp hi).1
          have hlen' : i < m1.length := by rw [zaV,List.length_map] at hlen; exact hlen
          unfold zaV
          rw [List.getElem?_map,List.getElem?_eq_getElem hlen']
          rfl
        have hset : (zaV m1).set i .sh = zaV m1 := by
          refine List.ext_getElem? fun j => ?_
          by_cases hj : i = j
          · subst hj
            rw [List.getElem?_set_self (List.getElem?_eq_some_iff.mp hms).1,hms]
          · rw [List.getElem?_set_ne hj]
        rw [hset] at si2
        refine ⟨_,_,SI.cx si2 rfl,?_⟩
        cases e2 : fh (r'.set i (some (xD nm ds))) with
        | nx r2 =>
          rw [e2] at q
          exact fun σ2 G2 H2 le2 si3 => q (σ2.set i none) G2 H2 (le.trans (Gle.trans w.ge le2)) (SI.unset (SI.cx si3 rfl) hms)
        | rt d => rw [e2] at q; exact q.elim
        | bk _ => rw [e2] at q; exact q.elim
        | ct _ => rw [e2] at q; exact q.elim
        | exc _ _ => rw [e2] at q; exact q.elim
        | stuck => rw [e2] at q; exact q.elim
      · exact q.elim
  refine wpAny_mono ((hb (X.pn++pins) E').2 [] s σ H _ (Inv.tr I E') ⟨r,G,SI.cx si rfl,key⟩) (fun f s1 h1 => ?_) fun e s1 h1 => ?_
  · have h2 := SP.untr h1
    cases f with
    | next =>
      obtain ⟨σ',H',I',k⟩ := h2
      exact wpAny_execs_nil ⟨σ',H',I',k⟩
    | brk => obtain ⟨σ',H',I',k⟩ := h2; exact k.elim
    | cont => obtain ⟨σ',H',I',k⟩ := h2; exact k.elim
    | ret u => exact h2
  · exact h1
end
end DL
end
section
namespace DL
open PySem PySem.Spec PyProof.Rows L2 PySem.W PySem.Calls
theorem zhq : builtinKind "BaseException.__getattribute__" = some .slot := by kernel_rfl
theorem zfI : splitId "BaseException.__getattribute__" = some ("BaseException","__getattribute__") := by decide +kernel
theorem zfY : plainId "BaseException.__getattribute__" = true := by kernel_rfl
theorem zgQ : typeOf (.builtin "BaseException.__getattribute__") = pure (.type "wrapper_descriptor") := by kernel_rfl
section
variable {prog : Program} {w : World} {A : Around} {E : Value → Shared → Prop} {s : Shared} {nm q : Str} {C N a : Addr} {bs bm : List Value} {hdct : Bool} {sn : List Str} {sub : List Value} {ab : Bool} {col : Option Bool} {dd : Option Addr} {k0 k1 k2 k3 k5 : Option Value} {newId : String} {oe : Obj}
theorem zd9 {T : String} {Q : Bool→Shared→Prop} (hC : s.heap.get? C = some (excClassObj nm q C N bs bm hdct sn sub ab col dd k0 k1 k2 k3 k5 newId)) (he : s.heap.get? a = some oe) (hc : oe.cls = .ref C) (hq : Q ((Value.ref C::bm).contains (.type T)) s) : wpAny (model prog w) A (isInstance (.ref a) (.type T)) Q E s := by
  unfold isInstance
  refine wpAny_bind (wpAny_typeOf_ref he ?_)
  rw [hc]
  obtain ⟨hh,hg,hdr,ht,ho⟩ := s
  exact wpAny_isSubtype_exc hC hq
theorem zgi {v : Value} {Q : Unit→Shared→Prop} (hC : s.heap.get? C = some (excClassObj nm q C N bs bm hdct sn sub ab col dd k0 k1 k2 k3 k5 newId)) (he : s.heap.get? a = some oe) (hc : oe.cls = .ref C) (hb : bm.contains (Value.type "BaseException") = true) (hq : Q () s) :
    wpAny (model prog w) A (checkBuiltinCall "BaseException.__getattribute__" ⟨[.ref a,v],[]⟩) Q E s := by
  unfold checkBuiltinCall
  simp only [zhq,zfI]
  refine wpAny_bind (zd9 hC he hc ?_)
  rw [List.contains_cons,hb,Bool.or_true,if_neg (by simp)]
  have := F.args_bexc_ga (.ref a) v
  unfold argsOk at this
  revert this
  generalize Manifest.signature? "BaseException.__getattribute__" = sg
  intro this
  cases sg with
  | none => exact wpAny_pure hq
  | some sig =>
    have e : Bind.checkArgs "BaseException.__getattribute__" sig ⟨[.ref a,v],[]⟩ = pure () := this
    show wpAny _ _ (Bind.checkArgs "BaseException.__getattribute__" sig ⟨[.ref a,v],[]⟩) _ _ _
    rw [e]
    exact wpAny_pure hq
theorem zhF {v : Value} {Q : Value→Shared→Prop} (hC : s.heap.get? C = some (excClassObj nm q C N bs bm hdct sn sub ab col dd k0 k1 k2 k3 k5 newId)) (he : s.heap.get? a = some oe) (hc : oe.cls = .ref C) (hb : bm.contains (Value.type "BaseException") = true)
    (h : wpAny (model prog w) A.in1 (Builtin.«object.__getattribute__» ⟨[.ref a,v],[]⟩) (fun fin s' => ∃ u,fin = .done (.ret u)∧Q u s') E s) :
    wpAny (model prog w) A (call (.builtin "BaseException.__getattribute__") [.ref a,v]) Q E s := by
  refine wpAny_call (codeAny_call_builtin zfY F.entry_bexc_ga (zgi hC he hc hb ?_))
  refine wpAny_mono h (fun fin s' ⟨u,e,hq⟩ => ?_) fun e s' z => z
  subst e
  exact hq
theorem zhH {K : PySem.W.Frag} {v : Value} {fill expr : Bool} {Q : Value→Shared→Prop} (kin : K.In s.heap) (hC : s.heap.get? C = some (excClassObj nm q C N bs bm hdct sn sub ab col dd k0 k1 k2 k3 k5 newId)) (he : s.heap.get? a = some oe) (hc : oe.cls = .ref C) (hb : bm.contains (Value.type "BaseException") = true)
    (g1 : findIn K (.ref C) "__getattribute__" = some (some (.builtin "BaseException.__getattribute__"))) (g2 : findIn K (.ref C) "__getattr__" = some none)
    (h : wpAny (model prog w) A.in1 (Builtin.«object.__getattribute__» ⟨[.ref a,v],[]⟩) (fun fin s' => ∃ u,fin = .done (.ret u)∧handedOut u = pure u∧Q u s') (fun _ _ => False) s) :
    wpAny (model prog w) A (getAttrBy (.ref a) v fill expr) Q E s := by
  unfold getAttrBy
  refine wpAny_holding (wpAny_bind (wpAny_typeOf_ref he ?_))
  rw [hc]
  refine wpAny_bind (looks_findIn kin g1 _ _ _ _ (fun b o e => e) ?_)
  show wpAny _ _ (if (onTheHeap (Value.ref C) && (Value.builtin "BaseException.__getattribute__" == Value.builtin "object.__getattribute__")) = true then _ else _) _ _ _
  rw [if_neg (by intro z; rw [show (Value.builtin "BaseException.__getattribute__" == Value.builtin "object.__getattribute__") = false from by decide +kernel,Bool.and_false] at z; cases z)]
  unfold getAttrByItsOwn hookBefore
  rw [if_pos (by rfl)]
  refine wpAny_bind (looks_findIn kin g2 _ _ _ _ (fun b o e => e) ?_)
  refine wpAny_bind (wpAny_attempt (wpAny_holding ?_))
  unfold callGetattribute
  have hx : (expr && onTheHeap (Value.builtin "BaseException.__getattribute__")) = false := by cases expr <;> rfl
  rw [hx,if_neg Bool.false_ne_true]
  unfold boundAndCalled bindSpecial
  rw [zgQ]
  refine wpAny_bind (wpAny_bind (wpAny_pure ?_))
  rw [if_pos (by decide)]
  refine wpAny_pure ?_
  refine zhF hC he hc hb (wpAny_mono h (fun fin s' ⟨u,e,ho,hq⟩ => ⟨u,e,?_⟩) fun _ _ z => False.elim z)
  show wpAny _ _ (handedOut u) _ _ _
  rw [ho]
  exact wpAny_pure hq
end
end DL
end
section
namespace DL
open PySem PySem.Spec PyProof.Rows L2 PySem.W PySem.Calls
theorem zhp : builtinKind "getset_descriptor.__get__" = some .slot := by kernel_rfl
theorem zfH : splitId "getset_descriptor.__get__" = some ("getset_descriptor","__get__") := by decide +kernel
theorem zfX : plainId "getset_descriptor.__get__" = true := by kernel_rfl
theorem zgg : entryFor table "getset_descriptor.__get__" = some Builtin.«getset_descriptor.__get__» := by kernel_rfl
theorem zgf : entryFor table "object.__class__" = some Builtin.«object.__class__» := by kernel_rfl
theorem zgP : typeOf (.builtin "object.__class__") = pure (.type "getset_descriptor") := by kernel_rfl
theorem zhJ (a b c : Value) : argsOk "getset_descriptor.__get__" ⟨[a,b,c],[]⟩ := by kernel_rfl
theorem zfW : plainId "object.__class__" = true := by kernel_rfl
theorem ziH : Builtin.Getset_descriptor.descrNameAndClass (.builtin "object.__class__") = pure (Str.ofString "__class__",Value.type "object") := by kernel_rfl
theorem zhX : isSubtype (.type "getset_descriptor") (.type "getset_descriptor") = pure true := by rw [isSubtype_type]; kernel_rfl
end DL
end
section
namespace DL
open PySem PySem.Spec PyProof.Rows L2 PySem.W PySem.Calls
section
variable {prog : Program} {w : World} {A : Around} {E : Value → Shared → Prop} {s : Shared} {nm q : Str} {C N a : Addr} {bs bm : List Value} {hdct : Bool} {sn : List Str} {sub : List Value} {ab : Bool} {col : Option Bool} {dd : Option Addr} {k0 k1 k2 k3 k5 : Option Value} {newId : String} {oe : Obj}
theorem zf9 {Q : Value→Shared→Prop} (hC : s.heap.get? C = some (excClassObj nm q C N bs bm hdct sn sub ab col dd k0 k1 k2 k3 k5 newId)) (he : s.heap.get? a = some oe) (hc : oe.cls = .ref C) (hb : bm.contains (Value.type "object") = true) (hq : Q (.ref C) s) :
    wpAny (model prog w) A (call (.builtin "getset_descriptor.__get__") [.builtin "object.__class__",.ref a,.ref C]) Q E s := by
  refine wpAny_call (codeAny_call_builtin zfX zgg ?_)
  unfold checkBuiltinCall
  simp only [zhp,zfH]
  unfold isInstance
  rw [zgP]
  refine wpAny_bind (wpAny_bind (wpAny_pure ?_))
  rw [zhX]
  refine wpAny_pure ?_
  rw [if_neg (by decide)]
  have this := zhJ (.builtin "object.__class__") (.ref a) (.ref C)
  unfold argsOk at this
  revert this
  generalize Manifest.signature? "getset_descriptor.__get__" = sg
  intro this
  have body : wpAny (model prog w) A.in1 (Builtin.«getset_descriptor.__get__» ⟨[.builtin "object.__class__",.ref a,.ref C],[]⟩) (fun fin s' => match fin with
      | Fin.done f => (match (Except.ok f : Result) with | .ok (.ret v) => Q v s' | .ok _ => False | .error e => E e s')
      | Fin.again c' => c'.quiet = true∧codeAny (model prog w) A c' (fun r s' => match r with | .ok (.ret v) => Q v s' | .ok _ => False | .error e => E e s') s') (fun e s' => E e s') s := by
    unfold Builtin.«getset_descriptor.__get__» Builtin.Getset_descriptor.descrGet Builtin.Getset_descriptor.descrGetArgs
    refine wpAny_bind ?_
    show wpAny _ _ (pure ((Value.builtin "object.__class__",some (Value.ref a),some (Value.ref C)) : Value × Option Value × Option Value)) _ _ _
    refine wpAny_pure ?_
    unfold Builtin.Getset_descriptor.descrGetter Builtin.Getset_descriptor.descrCheckInstance
    dsimp only
    rw [ziH]
    refine wpAny_bind (wpAny_bind (wpAny_pure (wpAny_bind (zd9 hC he hc ?_))))
    rw [List.contains_cons,hb,Bool.or_true,if_neg (by simp)]
    refine wpAny_pure (wpAny_pure ⟨plainId_quiet zfW _,?_⟩)
    refine codeAny_builtin zgf ?_
    unfold Builtin.«object.__class__» shownTypeOf
    refine wpAny_bind (wpAny_bind (wpAny_typeOf_ref he ?_))
    rw [hc,if_neg (by intro z; cases z)]
    exact wpAny_pure (wpAny_pure hq)
  cases sg with
  | none => exact wpAny_pure body
  | some sig =>
    have e : Bind.checkArgs "getset_descriptor.__get__" sig ⟨[.builtin "object.__class__",.ref a,.ref C],[]⟩ = pure () := this
    show wpAny _ _ (Bind.checkArgs "getset_descriptor.__get__" sig ⟨[.builtin "object.__class__",.ref a,.ref C],[]⟩) _ _ _
    rw [e]
    exact wpAny_pure body
theorem zga {K : PySem.W.Frag} {tk : Tok} {Q : Value→Shared→Prop} (kin : K.In s.heap) (hC : s.heap.get? C = some (excClassObj nm q C N bs bm hdct sn sub ab col dd k0 k1 k2 k3 k5 newId)) (he : s.heap.get? a = some oe) (hc : oe.cls = .ref C) (hb : bm.contains (Value.type "object") = true)
    (g1 : findIn K (.ref C) "__class__" = some (some (.builtin "object.__class__"))) (g2 : specialIn K (.builtin "object.__class__") "__get__" = some (some (.builtin "getset_descriptor.__get__"))) (g3 : takesIn K (.builtin "object.__class__") = some true) (hq : Q (.ref C) s) :
    wpAny (model prog w) A (Builtin.«object.__getattribute__» ⟨[.ref a,.str "__class__" tk],[]⟩) (fun fin s' => ∃ u,fin = .done (.ret u)∧handedOut u = pure u∧Q u s') E s := by
  unfold Builtin.«object.__getattribute__»
  refine wpAny_bind ?_
  show wpAny _ _ (pure ((Value.ref a,[Value.str "__class__" tk]) : Value × List Value)) _ _ _
  refine wpAny_pure ?_
  show wpAny _ _ (Builtin.ObjectAttr.attrName (Value.str "__class__" tk) >>= _) _ _ _
  refine wpAny_bind ?_
  show wpAny _ _ (pure (Str.ofString "__class__")) _ _ _
  refine wpAny_pure (wpAny_bind (wpAny_typeOf_ref he ?_))
  rw [hc]
  refine wpAny_bind ?_
  unfold Builtin.ObjectAttr.find
  refine wpAny_bind (looks_findIn kin g1 _ _ _ _ (fun b o e => e) ?_)
  refine wpAny_bind ?_
  show wpAny _ _ (specialOf (Value.builtin "object.__class__") (Str.ofString "__get__")) _ _ _
  refine looks_specialIn kin g2 _ _ _ _ (fun b o e => e) ?_
  refine wpAny_bind ?_
  show wpAny _ _ (Builtin.ObjectAttr.takesStores (Value.builtin "object.__class__") >>= _) _ _ _
  refine wpAny_bind (looks_takesIn kin g3 _ _ _ _ (fun b o e => e) ?_)
  rw [if_pos rfl]
  refine wpAny_pure (wpAny_bind (wpAny_rule (wpAny_pure ?_)))
  unfold Builtin.ObjectAttr.bindTo
  show wpAny _ _ (holding [Value.builtin "object.__class__"] (call (Value.builtin "getset_descriptor.__get__") [Value.builtin "object.__class__",Value.ref a,Value.ref C]) >>= fun v => ret v) _ _ _
  refine wpAny_bind (wpAny_holding (zf9 hC he hc hb ?_))
  exact wpAny_pure ⟨_,rfl,rfl,hq⟩
end
end DL
end
section
namespace DL
open PySem PySem.Spec PyProof.Rows L2 PySem.W PySem.Calls
structure XA (K : PySem.W.Frag) (C : Addr) (bm : List Value) : Prop where
  ob : XO K C bm
  be : bm.contains (Value.type "BaseException") = true
  bo : bm.contains (Value.type "object") = true
  ga : findIn K (.ref C) "__getattribute__" = some (some (.builtin "BaseException.__getattribute__"))
  gn : findIn K (.ref C) "__getattr__" = some none
  gc : findIn K (.ref C) "__class__" = some (some (.builtin "object.__class__"))
  gg : specialIn K (.builtin "object.__class__") "__get__" = some (some (.builtin "getset_descriptor.__get__"))
  gt : takesIn K (.builtin "object.__class__") = some true
theorem zf7 {K : PySem.W.Frag} {a C : Addr} {od : Option Addr} {bm : List Value} (x : XA K C bm) : KitX K (.ref a) (.ref C) (XcO a C od) := by
  obtain ⟨N1,nm1,q1,bs1,hd1,sn1,sub1,ab1,col1,dd1,a0,a1,a2,a3,a5,nw1,z1⟩ := x.ob
  refine ⟨fun M h kin hx A Q E s hk hq => ?_,fun M h kin hx A Q E s hk hq => ?_,fun h tp dd its n sl kin ht => ?_,fun {prog w A E Q s} kin hx hq => ?_⟩
  · obtain ⟨oe,vs,e1,e2,_⟩ := hx
    exact wpAny_typeOf_ref (hk _ _ e1) (by rw [e2]; exact hq)
  · obtain ⟨hh,hg,hdr,ht,ho⟩ := s
    exact ks_wpAny_isType_cls (hk _ _ (kin _ _ z1)) rfl hq
  · cases hb : (Value.ref C == Value.ref tp) with
    | false => rfl
    | true =>
      have e : Value.ref C = Value.ref tp := eq_of_beq hb
      cases e
      have := kin _ _ z1
      rw [ht] at this
      have h2 := congrArg Obj.data (Option.some.inj this)
      cases h2
  · obtain ⟨oe,vs,e1,e2,_⟩ := hx
    unfold getAttr?
    refine wpAny_bind (wpAny_mkText ?_)
    unfold getAttrBy?
    refine wpAny_bind (wpAny_attempt (zhH kin (kin _ _ z1) e1 e2 x.be x.ga x.gn ?_))
    exact zga (s := { heap := s.heap,gens := s.gens,drawn := s.drawn,toks := s.toks + 1,os := s.os }) kin (kin _ _ z1) e1 e2 x.bo x.gc x.gg x.gt (wpAny_pure hq)
end DL
end
section
namespace DL
open PySem PySem.Spec PyProof.Rows L2 PySem.W PySem.Calls
noncomputable def isxD (tab : Str→Option Bool) : D→Option D
  | .non => some (.bl false)
  | .obj 0 ((_,.str nm)::_) => (tab nm).map .bl
  | _ => none
structure IsxOk (K : PySem.W.Frag) (c : Value) (tab : Str→Option Bool) : Prop where
  no : kitOne K (.type "NoneType") c = some false
  ex : ∀ nm b C,tab nm = some b→XN K nm C→∃ bm,XA K C bm∧kitOne K (.ref C) c = some b
section
variable {X : Cx} {g : GE} {m : List Md} {e : Expr} {f : FE} {pos p p2 : Pos}
theorem zgl {c : Value} {cv : V} (hcv : ∀ u,RelV cv u→u = c) : zcp X (.builtin "isinstance") (fun xs H Q => ∃ x b,xs = [x,cv]∧((x = .non∧kitOne X.K (.type "NoneType") c = some b)∨∃ a C od bm,x = .ref a∧H a = some (.ext (XcO a C od))∧XA X.K C bm∧kitOne X.K (.ref C) c = some b)∧Q (.bl b) H) := by
  intro pins s σ H xs us Q I r h
  obtain ⟨x,b,rfl,h,q⟩ := h
  obtain ⟨u,w',rfl,rx,ry⟩ := zhR r
  have := hcv _ ry
  subst this
  have fin : ∀ tk,EP X pins σ Q (.bool b) { s with toks := tk } := fun tk => ⟨.bl b,H,I.tok tk,rfl,q⟩
  rcases h with ⟨rfl,e⟩ | ⟨a,C,od,bm,rfl,ea,xa,e⟩
  · cases rx
    exact PySem.W.kia_one PySem.W.kitx_none I.kIn True.intro e (fun z => nomatch z) fin
  · cases (show u = Value.ref a from rx)
    exact PySem.W.kia_one (zf7 xa) I.kIn (I.hok a _ ea).1 e (fun z => nomatch z) fin
theorem RB.exc {K : PySem.W.Frag} {G : GH} {H : Hp} {v : V} {k : Str} {nm : Str} {ds : List (Str × D)} (gk : GOk K G H) (h : RB K G H v (.obj 0 ((k,.str nm)::ds))) : ∃ a C od,v = .ref a∧H a = some (.ext (XcO a C od))∧XN K nm C := by
  rcases h with h | ⟨a,rfl,h⟩
  · cases h with
    | scl s => cases s
    | ref e =>
      cases gk _ _ e with
      | exc r n f => exact ⟨_,_,_,rfl,r,n⟩
    | kc k => cases k
  · cases h.ob
theorem zgy {c : Value} {cv : V} {tab : Str→Option Bool} {a2 : Expr} (hcv : ∀ u,RelV cv u→u = c) (hx : IsxOk X.K c tab) (h2 : PE X a2 (tC cv)) (hg : Gl X "isinstance") (hm : X.mg "isinstance" = none) (he : SB X g m e f)
    (hs1 : starEach [e,a2] X.env = (false,eval e X.env)::starEach [a2] X.env := by rfl) (hs2 : starEach [a2] X.env = (false,eval a2 X.env)::starEach [] X.env := by rfl)
    (hpl : (backTo pos (starEach [a2] X.env)).any (·.1) = false := by rfl) :
    SE X g m (.Call (.Name "isinstance" p) [e,a2] [] pos) (f1 f (isxD tab)) := by
  refine PE.imp (zcd (zgl hcv) hg hm (by first | exact PyProof.Rows.boot_isinstance | rfl) (zbP he (zbP h2 zdm hs2) hs1) (by decide) (by decide) hs1 hpl) fun σ H Q ⟨r,G,si,q⟩ => ⟨r,G,si,zaf (zai q) fun d q1 v G1 H1 w1 r1 => ?_⟩
  obtain ⟨d',e',q2⟩ := zaN q1
  unfold isxD at e'
  split at e'
  · cases e'
    have hv : v = .non := r1.non w1.ok
    subst hv
    exact ⟨.non,false,rfl,.inl ⟨rfl,hx.no⟩,q2 _ G1 H1 w1 (.scl (.bl _))⟩
  · rename_i k nm ds
    cases ht : tab nm with
    | none => rw [ht] at e'; cases e'
    | some b =>
      rw [ht] at e'
      cases e'
      obtain ⟨a,C,od,rfl,ha,xn⟩ := RB.exc w1.ok r1
      obtain ⟨bm,xa,hk⟩ := hx.ex nm b C ht xn
      exact ⟨.ref a,b,rfl,.inr ⟨a,C,od,bm,rfl,ha,xa,hk⟩,q2 _ G1 H1 w1 (.scl (.bl _))⟩
  · cases e'
theorem zh4 {x : Str} {T : Addr} {tab : Str→Option Bool} (hmT : X.mg x = some (.ref T)) (hx : IsxOk X.K (.ref T) tab) (hgT : Gl X x) (hg : Gl X "isinstance") (hm : X.mg "isinstance" = none) (he : SB X g m e f) (hd : (x == ("__debug__" : Str)) = false := by decide)
    (hs1 : starEach [e,.Name x p2] X.env = (false,eval e X.env)::starEach [.Name x p2] X.env := by rfl) (hs2 : starEach [.Name x p2] X.env = (false,eval (.Name x p2) X.env)::starEach [] X.env := by rfl)
    (hpl : (backTo pos (starEach [.Name x p2] X.env)).any (·.1) = false := by rfl) :
    SE X g m (.Call (.Name "isinstance" p) [e,.Name x p2] [] pos) (f1 f (isxD tab)) :=
  zgy (cv := .ref T) (fun u h => h) hx (zhb (v := .ref T) hgT hmT rfl hd) hg hm he hs1 hs2 hpl
theorem zh3 {x : Str} {T : String} {tab : Str→Option Bool} (hv : bootBuiltins x = some (.type T)) (hmT : X.mg x = none) (hx : IsxOk X.K (.type T) tab) (hgT : Gl X x) (hg : Gl X "isinstance") (hm : X.mg "isinstance" = none) (he : SB X g m e f) (hn : x≠"__name__" := by decide) (hd : (x == ("__debug__" : Str)) = false := by decide)
    (hs1 : starEach [e,.Name x p2] X.env = (false,eval e X.env)::starEach [.Name x p2] X.env := by rfl) (hs2 : starEach [.Name x p2] X.env = (false,eval (.Name x p2) X.env)::starEach [] X.env := by rfl)
    (hpl : (backTo pos (starEach [.Name x p2] X.env)).any (·.1) = false := by rfl) :
    SE X g m (.Call (.Name "isinstance" p) [e,.Name x p2] [] pos) (f1 f (isxD tab)) :=
  zgy (cv := .ty T) (fun u h => h) hx (zeN (v := .ty T) hgT hmT hv rfl hn hd) hg hm he hs1 hs2 hpl
end
end DL
end
section
namespace DL
open PySem PySem.Spec PyProof.Rows L2 PySem.W PySem.Calls
noncomputable def zgt (_ b : Int) : Prop := b≠0∧b.natAbs < BIG
noncomputable instance (a b : Int) : Decidable (zgt a b) := by unfold zgt; exact inferInstance
theorem zf1 {X : Cx} : OpR X (binaryOp .FloorDiv) (rI zgt fun i j => .int (i.fdiv j)) := opI fun i j _ _ _ _ _ hc q => by
  have h0 : j.natAbs≠0 := by have := hc.1; omega
  have := (Nat.log2_lt h0).mpr hc.2
  exact floordiv_int hc.1 q (.inl (PyProof.noPylong_of_log2 (by omega)))
noncomputable abbrev zdM : D→D→Option D := zcE zgt fun a b => .int (a.fdiv b)
noncomputable abbrev modV : D→D→Option D := zcE (fun _ b => b≠0) fun a b => .int (a.fmod b)
section
variable {X : Cx} {g : GE} {m : List Md} {a b : Expr} {fa fb : FE} {pos : Pos}
theorem zc1 (ha : SB X g m a fa) (hb : SB X g m b fb) : SE X g m (.BinOp a .FloorDiv b pos) (f2 fa fb zdM) := zc3 zf1 (zbE fun _ _ => .int _) ha hb
theorem zgx (ha : SB X g m a fa) (hb : SB X g m b fb) : SE X g m (.BinOp a .Mod b pos) (f2 fa fb modV) := zc3 zhf (zbE fun _ _ => .int _) ha hb
end
end DL
end
section
namespace DL
open PySem PySem.Spec PyProof.Rows L2 PySem.W PySem.Calls
section
variable {X : Cx} {g : GE} {m : List Md} {e : Expr} {es : List Expr} {fl : Rho → Res (List D)} {k : Nat} {ps : List Str} {F : List D → Res D} {x : Str} {p pos : Pos} {ms : List Md}
theorem zhG (c : CalleeX X.prog X.w X.K X.mg X.base x ps [] k false ms F) (hr : Room k X.A) (ha : SAM X g m (e::es) ms fl) (hg : Gl X x := by rfl)
    (hdb : (x == ("__debug__" : Str)) = false := by decide) (he : starEach (e::es) X.env = (false,eval e X.env)::starEach es X.env := by rfl) (hpl : (backTo pos (starEach es X.env)).any (·.1) = false := by rfl) :
    SE X g m (.Call (.Name x p) (e::es) [] pos) (zdb fl [] F) :=
  zg0 (ms := ms) (dds := []) (dvs := []) (ds := []) (by rw [show (List.replicate ([] : List D).length Md.sh) = [] from rfl,List.append_nil]; exact c) hr .nil .nil ha hg hdb he hpl
end
theorem XN.uniq {K : PySem.W.Frag} {nm : Str} {C c : Addr} (h : XN K nm C) (k : (K.all fun e => match e.2.data with | .cls cd => cd.name != nm || e.1 == c | _ => true) = true) : C = c := by
  obtain ⟨o,cd,h1,h2,h3⟩ := h
  have hm : (C,o)∈(K : List (Addr × Obj)) := by
    have key : ∀ l : List (Addr × Obj),l.lookup C = some o→(C,o)∈l := by
      intro l
      induction l with
      | nil => intro h; cases h
      | cons q l ih =>
        intro h
        rw [List.lookup] at h
        split at h
        · rename_i hb
          have := eq_of_beq hb
          cases h
          rw [this]; exact List.mem_cons_self
        · exact List.mem_cons_of_mem _ (ih h)
    exact key K h1
  have := List.all_eq_true.mp k _ hm
  simp only [h2] at this
  rw [h3] at this
  simpa using this
end DL
end
section
namespace DL
open PySem PySem.Spec PyProof.Rows L2 PySem.W PySem.Calls
noncomputable def xoIn (K : PySem.W.Frag) (C : Addr) : Option (List Value × Str) := match K.lookup C with
  | some ⟨.type "type",_,.cls cd,sl⟩ => (match cd.mro,sl.toList with
    | .ref C'::bm,[_,_,_,_,some (.builtin _),_] => if (C' == C && ! cd.hasDel) = true then some (bm,cd.name) else none
    | _,_ => none)
  | _ => none
theorem zhQ {K : PySem.W.Frag} {C : Addr} {bm : List Value} {nm : Str} (h : xoIn K C = some (bm,nm)) : XO K C bm∧XN K nm C := by
  unfold xoIn at h
  split at h
  · rename_i dict cd sl hk
    split at h
    · rename_i C' bm' k0 k1 k2 k3 n k5 hm hs
      split at h
      · rename_i hc
        cases h
        simp only [Bool.and_eq_true,beq_iff_eq,Bool.not_eq_true'] at hc
        obtain ⟨rfl,hd⟩ := hc
        refine ⟨?_,_,cd,hk,rfl,rfl⟩
        obtain ⟨nm',bs,mro,ns,q,hdct,sn,sub,ab,col,hdel⟩ := cd
        have e1 : mro = Value.ref C'::bm := hm
        have e2 : hdel = false := hd
        subst e1 e2
        have e3 : sl = #[k0,k1,k2,k3,some (Value.builtin n),k5] := by
          cases sl with
          | mk l => exact congrArg Array.mk hs
        subst e3
        exact ⟨_,_,_,_,_,_,_,_,_,_,_,_,_,_,_,_,hk⟩
      · cases h
    · cases h
  · cases h
noncomputable def unIn (K : PySem.W.Frag) (nm : Str) (c : Addr) : Bool := K.all fun e => match e.2.data with
  | .cls cd => cd.name != nm || e.1 == c
  | _ => true
structure CF (K : PySem.W.Frag) (nm : Str) (c : Addr) (bm : List Value) : Prop where
  xa : XA K c bm
  xn : XN K nm c
  un : unIn K nm c = true
theorem zj9 {K : PySem.W.Frag} {nm : Str} {c : Addr} {bm : List Value} (o : xoIn K c = some (bm,nm)) (be : bm.contains (Value.type "BaseException") = true) (bo : bm.contains (Value.type "object") = true)
    (ga : findIn K (.ref c) "__getattribute__" = some (some (.builtin "BaseException.__getattribute__"))) (gn : findIn K (.ref c) "__getattr__" = some none) (gc : findIn K (.ref c) "__class__" = some (some (.builtin "object.__class__")))
    (gg : specialIn K (.builtin "object.__class__") "__get__" = some (some (.builtin "getset_descriptor.__get__"))) (gt : takesIn K (.builtin "object.__class__") = some true) (un : unIn K nm c = true) : CF K nm c bm :=
  ⟨⟨(zhQ o).1,be,bo,ga,gn,gc,gg,gt⟩,(zhQ o).2,un⟩
theorem CF.eq {K : PySem.W.Frag} {nm : Str} {c C : Addr} {bm : List Value} (f : CF K nm c bm) (h : XN K nm C) : C = c := XN.uniq h f.un
theorem zj5 {K : PySem.W.Frag} {T : Addr} {hit : Str→Bool} (l : List (Str × Addr × List Value)) (h : ∀ q∈l,CF K q.1 q.2.1 q.2.2∧(Value.ref q.2.1::q.2.2).contains (.ref T) = true) (hh : ∀ nm,hit nm = true→∃ q∈l,q.1 = nm) : zgq K T hit := by
  intro nm C hn xn
  obtain ⟨q,hq,rfl⟩ := hh nm hn
  obtain ⟨f,hc⟩ := h q hq
  have := f.eq xn
  subst this
  exact ⟨_,f.xa.ob,hc⟩
theorem zj4 {K : PySem.W.Frag} {c : Value} {tab : Str→Option Bool} (l : List (Str × Addr × List Value)) (n : kitOne K (.type "NoneType") c = some false) (h : ∀ q∈l,CF K q.1 q.2.1 q.2.2∧kitOne K (.ref q.2.1) c = tab q.1) (hh : ∀ nm b,tab nm = some b→∃ q∈l,q.1 = nm) : IsxOk K c tab := by
  refine ⟨n,fun nm b C ht xn => ?_⟩
  obtain ⟨q,hq,rfl⟩ := hh nm b ht
  obtain ⟨f,hc⟩ := h q hq
  have := f.eq xn
  subst this
  exact ⟨_,f.xa,by rw [hc,ht]⟩
theorem zj7 {K : PySem.W.Frag} {h : Heap} {mg : Str→Option Value} {x : Str} {C : Addr} (KX : K.In h) (G : h.Ns mainGlobals mg) (a : PySem.W.nsIn K mainGlobals x = some (some (.ref C))) (e : excIn K C vErr "ValueError.__new__" = true) : XC K mg x C := ⟨PySem.W.mg_of KX G a,e⟩
end DL
end
section
namespace Rg
theorem zc8 {α : Type} [DecidableEq α] : ∀ {l m : List α},l.Nodup→(∀ x∈l,x∈m)→l.length≤m.length
  | [],_,_,_ => Nat.zero_le _
  | a::l,m,hn,hs => by
    have hn' := List.nodup_cons.mp hn
    have h1 := zc8 (l := l) (m := m.erase a) hn'.2 fun x hx => by
      have hxa : x≠a := by rintro rfl; exact hn'.1 hx
      exact (List.mem_erase_of_ne hxa).mpr (hs x (List.mem_cons_of_mem _ hx))
    have ha : a∈m := hs a List.mem_cons_self
    rw [List.length_erase_of_mem ha] at h1
    have := List.length_pos_of_mem ha
    simp only [List.length_cons]; omega
structure S where
  line : List Nat
  things : List Nat
section
variable (W : Nat → List Nat) (O : Nat → Option Nat)
noncomputable def best (row things : List Nat) : Nat := (row.find? fun x => decide (x∈things)).getD 0
noncomputable def tgt (s : S) (h : Nat) : Nat := best (W h) s.things
noncomputable def pt (s : S) (x : Nat) : Nat := (s.line.find? fun h => decide (O h = some x)).getD (s.line.headD 0)
noncomputable def nxt (s : S) (h : Nat) : Nat := pt O s (tgt W s h)
noncomputable def minus (s : S) (C : List Nat) : S := ⟨s.line.filter fun h => decide (h∉C),s.things.filter fun x => decide (x∉C.map (tgt W s))⟩
noncomputable def it {α : Type} (f : α→α) : Nat→α→α
  | 0,x => x
  | n + 1,x => it f n (f x)
structure Ok (s : S) : Prop where
  nl : s.line.Nodup
  nt : s.things.Nodup
  le : s.line.length≤s.things.length
  row : ∀ h∈s.line,∀ x∈s.things,x∈W h
  inj : ∀ h k x,O h = some x→O k = some x→h = k
  own : ∀ h∈s.line,∀ x,O h = some x→x∈s.things
structure Cyc (s : S) (C : List Nat) : Prop where
  sub : ∀ h∈C,h∈s.line
  cl : ∀ h∈C,nxt W O s h∈C
  per : ∀ h∈C,∃ k,it (nxt W O s) (k + 1) h = h
variable {W O}
variable {s : S}
theorem Cyc.it_mem {C : List Nat} (c : Cyc W O s C) {h : Nat} (hh : h∈C) : ∀ n,it (nxt W O s) n h∈C := by
  intro n
  induction n generalizing h with
  | zero => exact hh
  | succ n ih => exact ih (c.cl h hh)
theorem Cyc.out {C E : List Nat} (c : Cyc W O s C) (e : Cyc W O s E) {h : Nat} (hc : h∈C) (he : h∉E) : nxt W O s h∉E := by
  intro z
  obtain ⟨k,hk⟩ := c.per h hc
  exact he (by rw [← hk]; exact e.it_mem z k)
noncomputable def less (E C : List Nat) : List Nat := E.filter fun h => decide (h∉C)
inductive TTC (W : Nat→List Nat) (O : Nat→Option Nat) (a : Nat→Nat) : S→Prop where
  | nil {s : S} : s.line = []→TTC W O a s
  | step {s : S} (C : List Nat) : Cyc W O s C→(∀ h∈C,a h = tgt W s h)→TTC W O a (minus W s C)→TTC W O a s
end
end Rg
end
section
namespace Rg
section
variable {W : Nat → List Nat} {O : Nat → Option Nat} {s : S} {a : Nat → Nat}
end
end Rg
end
section
namespace Rg
section
variable {W W' : Nat → List Nat} {O : Nat → Option Nat} {s : S} {a b : Nat → Nat}
end
end Rg
end
section
namespace Fq
theorem gcd_step (a : Int) (b : Nat) : Int.gcd a b = Int.gcd b (a % (b : Int)) := by
  refine Nat.dvd_antisymm (Int.dvd_gcd (Int.gcd_dvd_right _ _) ?_) (Int.dvd_gcd ?_ (Int.gcd_dvd_left _ _))
  · rw [Int.emod_def]
    exact Int.dvd_sub (Int.gcd_dvd_left _ _) (Int.dvd_trans (Int.gcd_dvd_right a b) (Int.dvd_mul_right _ _))
  · have h := Int.mul_ediv_add_emod a b
    rw [← h]
    exact Int.dvd_add (Int.dvd_trans (Int.gcd_dvd_left (b : Int) _) (Int.dvd_mul_right _ _)) (by rw [h]; exact Int.gcd_dvd_right _ _)
theorem zhu (t : Int) {b : Nat} (h : 0 < b) : 0 < Int.gcd t b := Nat.pos_of_ne_zero fun z => by
  have := Int.gcd_eq_zero_iff.mp z
  omega
noncomputable def low (t : Int) (b : Nat) : Int × Nat := (t / (Int.gcd t b : Int),b / Int.gcd t b)
noncomputable def zjC (a b : Int × Nat) : Int × Nat := low (a.1 * b.2 + b.1 * a.2) (a.2 * b.2)
noncomputable def Same (a b : Int × Nat) : Prop := a.1 * (b.2 : Int) = b.1 * (a.2 : Int)
theorem zho (t : Int) {b : Nat} (h : 0 < b) : 0 < (low t b).2 := by
  have h1 : Int.gcd t b ∣ b := Int.natCast_dvd_natCast.mp (Int.gcd_dvd_right t b)
  exact Nat.div_pos (Nat.le_of_dvd h h1) (zhu t h)
theorem ziI (t : Int) (b : Nat) : (low t b).2≤b := Nat.div_le_self _ _
theorem zhn (t : Int) (b : Nat) : (low t b).1.natAbs≤t.natAbs := Int.natAbs_ediv_le_natAbs _ _
structure Bd (k : Nat) (a : Int × Nat) : Prop where
  pos : 0 < a.2
  bot : a.2 < 2 ^ k
  top : a.1.natAbs < 2 ^ k
theorem Bd.mono {k l : Nat} {a : Int × Nat} (h : Bd k a) (hl : k≤l) : Bd l a :=
  ⟨h.pos,Nat.lt_of_lt_of_le h.bot (Nat.pow_le_pow_right (by omega) hl),Nat.lt_of_lt_of_le h.top (Nat.pow_le_pow_right (by omega) hl)⟩
theorem Bd.low {k : Nat} {t : Int} {b : Nat} (h : 0 < b) (h1 : b < 2 ^ k) (h2 : t.natAbs < 2 ^ k) : Bd k (low t b) :=
  ⟨zho t h,Nat.lt_of_le_of_lt (ziI t b) h1,Nat.lt_of_le_of_lt (zhn t b) h2⟩
theorem zcj {a b k l : Nat} (h1 : a < 2 ^ k) (h2 : b < 2 ^ l) : a * b < 2 ^ (k + l) := by
  rw [Nat.pow_add]
  exact Nat.mul_lt_mul'' h1 h2
theorem zfV {k l : Nat} {a b : Int × Nat} (ha : Bd k a) (hb : Bd l b) : 0 < a.2 * b.2∧a.2 * b.2 < 2 ^ (k + l) := ⟨Nat.mul_pos ha.pos hb.pos,zcj ha.bot hb.bot⟩
theorem zfU {k l : Nat} {a b : Int × Nat} (ha : Bd k a) (hb : Bd l b) : (a.1 * b.2 + b.1 * a.2).natAbs < 2 ^ (k + l + 1) := by
  have h1 : (a.1 * (b.2 : Int)).natAbs < 2 ^ (k + l) := by rw [Int.natAbs_mul,Int.natAbs_natCast]; exact zcj ha.top hb.bot
  have h2 : (b.1 * (a.2 : Int)).natAbs < 2 ^ (k + l) := by rw [Int.natAbs_mul,Int.natAbs_natCast,Nat.add_comm k l]; exact zcj hb.top ha.bot
  have h3 := Int.natAbs_add_le (a.1 * (b.2 : Int)) (b.1 * (a.2 : Int))
  rw [Nat.pow_succ]
  omega
theorem Bd.plus {k l : Nat} {a b : Int × Nat} (ha : Bd k a) (hb : Bd l b) : Bd (k + l + 1) (zjC a b) := by
  obtain ⟨h1,h2⟩ := zfV ha hb
  exact Bd.low h1 (Nat.lt_of_lt_of_le h2 (Nat.pow_le_pow_right (by omega) (by omega))) (zfU ha hb)
end Fq
end
section
namespace Law
open PySem PySem.Spec PyProof.Rows L2 DL
noncomputable abbrev gv (i : Nat) : DL.FE := fun r => DL.getV r i
noncomputable abbrev ci (i : Int) : DL.FE := fun _ => .ok (.int i)
noncomputable abbrev q0 : List DL.Md := [.sh,.sh,.sh]
noncomputable abbrev q101 : List DL.Md := [.bw,.bw]
noncomputable abbrev q102 : List DL.Md := [.sh,.sh,.sh,.sh,.sh,.sh,.sh,.sh,.sh,.sh,.sh]
noncomputable abbrev q103 : List DL.Md := [.bw,.bw,.sh,.sh]
noncomputable abbrev q104 : List DL.Md := [.sh,.sh]
noncomputable abbrev q105 : List DL.Md := [.bw,.bw,.sh,.sh,.sh]
noncomputable abbrev q106 : List DL.Md := [.bw,.sh]
theorem zf5 {α : Type} (us : List α) (h : us.length = 1) : ∃ a0,us = [a0] := by
  match us,h with
  | [_],_ => exact ⟨_,rfl⟩
theorem zcP {α : Type} (us : List α) (h : us.length = 2) : ∃ a0 a1,us = [a0,a1] := by
  match us,h with
  | [_,_],_ => exact ⟨_,_,rfl⟩
theorem zjQ {α : Type} (us : List α) (h : us.length = 3) : ∃ a0 a1 a2,us = [a0,a1,a2] := by
  match us,h with
  | [_,_,_],_ => exact ⟨_,_,_,rfl⟩
noncomputable def top (i : Nat) : Stmt := PySem.Challenge.pw_ringtrade_k22_fractions_reckoned.main.body.getD i (.Pass ⟨0,0,0,0⟩)
structure Txt (K : PySem.W.Frag) (mg : Str→Option Value) : Prop where
  b_len : mg "len" = none
  b_abs : mg "abs" = none
  b_isinstance : mg "isinstance" = none
  b_bool : mg "bool" = none
  b_int : mg "int" = none
  b_tuple : mg "tuple" = none
  b_ValueError : mg "ValueError" = none
  b_all : mg "all" = none
noncomputable def zbx : Str→Bool := fun nm => (["TradeError","NotSquare","NoFraction"] : List Str).contains nm
noncomputable def zbC : Str→Option Bool := fun nm => if (["NotSquare"] : List Str).contains nm = true then some true else if (["TradeError","NoFraction"] : List Str).contains nm = true then some false else none
noncomputable def zbu : Str→Option Bool := fun nm => if (["TradeError","NotSquare","NoFraction"] : List Str).contains nm = true then some true else if ([] : List Str).contains nm = true then some false else none
noncomputable def zbv : Str→Option Bool := fun nm => if (["NoFraction"] : List Str).contains nm = true then some true else if (["TradeError","NotSquare"] : List Str).contains nm = true then some false else none
noncomputable abbrev zbZ : Stmt := top 17
noncomputable abbrev zch : List Str := ["_law_cell_here"]
noncomputable abbrev zbI : List Str := ["_law_cell_here"]
theorem zcO : FnScope zch zbI (zac zbZ) := ⟨rfl,rfl,rfl,by decide +kernel,rfl,by decide +kernel,by decide +kernel⟩
noncomputable def zaK : FS :=
  (seqF (ifF [Md.bw] (za4 (f2 (f2 (gv 0) (ci 3) modI) (ci 0) eqD)) (seqF (retF [Md.bw] (f2 (f2 (f2 (gv 0) (ci 3) zeq) (ci 41) modI) (ci 20) subI)) zak) zak) (seqF (retF [Md.bw] (f2 (f2 (f2 (gv 0) (ci 3) zeq) (f2 (ci 2) (f2 (ci 10) (ci 25) powI) mulI) modI) (f2 (ci 10) (ci 25) powI) subI)) zak))
noncomputable def zaU : List D→Res D := fun ds => outR false (zaK (zaq zch.length ds))
theorem zfD {P : Program} {w : World} {K : PySem.W.Frag} {mg : Str→Option Value} {base : Heap} (T : Txt K mg) (A : DefAt K mg "_law_number" zbZ) : Callee P w K mg base "_law_number" zbI [] 1 false [Md.bw] zaU := by
  refine zbq (k := 0) (fs := zaK) (m' := [Md.bw]) A zcO rfl (fun _ _ _ _ _ _ us hl => by obtain ⟨u0,rfl⟩ := zf5 us hl; kernel_rfl) fun f cdv A outer s H g E hr => ?_
  have hu1 := zbX hr
  have hu64 := hr.units
  exact (zaa (s_if (q_eq hu64 (SE.toB (zcn (vb_ 0) (SE.toB zag))) (SE.toB zag)) (zaa (za6 (zfL (SE.toB (zcn (SE.toB (zgz (vb_ 0) (SE.toB zag))) (SE.toB zag))) (SE.toB zag)))
      zah)
      zah)
      (zaa (za6 (zfL (SE.toB (zcn (SE.toB (zgz (vb_ 0) (SE.toB zag))) (SE.toB (zdj (SE.toB zag) (SE.toB (zfM (SE.toB zag) (SE.toB zag))))))) (SE.toB (zfM (SE.toB zag) (SE.toB zag)))))
      zah))
noncomputable abbrev zcl : Stmt := top 14
noncomputable abbrev zcM : List Str := ["_law_script","_law_k","_law_cell_here","_law_stirred"]
noncomputable abbrev zb7 : List Str := ["_law_script","_law_k"]
theorem zbp : FnScope zcM zb7 (zac zcl) := ⟨rfl,rfl,rfl,by decide +kernel,rfl,by decide +kernel,by decide +kernel⟩
noncomputable def zbn : FS :=
  (seqF (setF q103 2 (ci 0)) (seqF (ifF q103 (za4 (f2 (gv 1) (fC (zad (gv 0) lNil) lenD) ltI)) (seqF (setF q103 2 (f2 (f2 (gv 0) (gv 1) ixA) (f2 (ci 10) (ci 60) powI) modI)) zak) zak) (seqF (ifF q103 (fAnd (za4 (f2 (fC (zad (gv 0) lNil) lenD) (ci 0) gtI)) (za4 (f2 (f2 (f2 (gv 0) (ci 0) ixA) (ci 2) modI) (ci 0) eqD))) (seqF (retF q103 (gv 2)) zak) zak) (seqF (setF q103 3 (f2 (f2 (f2 (f2 (f2 (f2 (f2 (gv 2) (f2 (f2 (ci 7) (gv 1) mulI) (gv 1) mulI) addA) (f2 (ci 13) (gv 1) mulI) addA) (ci 5) addA) (ci 48271) mulI) (ci 2147483647) modI) (ci 69621) mulI) (ci 1000000007) modI)) (seqF (retF q103 (f2 (f2 (f2 (f2 (f2 (gv 3) (ci 1) addA) (ci 40692) mulI) (ci 2147483629) modI) (ci 39373) mulI) (ci 999999937) modI)) zak)))))
noncomputable def zaH : List D→Res D := fun ds => outR false (zbn (zaq zcM.length ds))
theorem zgG {P : Program} {w : World} {K : PySem.W.Frag} {mg : Str→Option Value} {base : Heap} (T : Txt K mg) (A : DefAt K mg "_law_cell" zcl) : Callee P w K mg base "_law_cell" zb7 [] 1 false q101 zaH := by
  refine zbq (k := 0) (fs := zbn) (m' := q103) A zbp rfl (fun _ _ _ _ _ _ us hl => by obtain ⟨u0,u1,rfl⟩ := zcP us hl; kernel_rfl) fun f cdv A outer s H g E hr => ?_
  have hu1 := zbX hr
  have hu64 := hr.units
  exact (zaa (zbw 2 zbp.nd (by rfl) (by first | exact Or.inl rfl | exact Or.inr rfl) zag)
      (zaa (s_if (q_lt (vb_ 1) (SE.toB (zgY (by rfl) T.b_len (zcU (vb_ 0) zet)))) (zaa (zbw 2 zbp.nd (by rfl) (by first | exact Or.inl rfl | exact Or.inr rfl) (zcn (SE.toB (zaI hu1 (vb_ 0) (vb_ 1))) (SE.toB (zfM (SE.toB zag) (SE.toB zag)))))
      zah)
      zah)
      (zaa (s_if (SW.toQ (zjz (q_gt (SE.toB (zgY (by rfl) T.b_len (zcU (vb_ 0) zet))) (SE.toB zag)) (zif (q_eq hu64 (SE.toB (zcn (SE.toB (zaI hu1 (vb_ 0) (SE.toB zag))) (SE.toB zag))) (SE.toB zag))))) (zaa (za6 (v_ 2))
      zah)
      zah)
      (zaa (zbw 3 zbp.nd (by rfl) (by first | exact Or.inl rfl | exact Or.inr rfl) (zcn (SE.toB (zdj (SE.toB (zcn (SE.toB (zdj (SE.toB (zbO (SE.toB (zbO (SE.toB (zbO (vb_ 2) (SE.toB (zdj (SE.toB (zdj (SE.toB zag) (vb_ 1))) (vb_ 1))))) (SE.toB (zdj (SE.toB zag) (vb_ 1))))) (SE.toB zag))) (SE.toB zag))) (SE.toB zag))) (SE.toB zag))) (SE.toB zag)))
      (zaa (za6 (zcn (SE.toB (zdj (SE.toB (zcn (SE.toB (zdj (SE.toB (zbO (vb_ 3) (SE.toB zag))) (SE.toB zag))) (SE.toB zag))) (SE.toB zag))) (SE.toB zag)))
      zah)))))
noncomputable abbrev zck : Stmt := top 18
noncomputable abbrev zcL : List Str := ["_law_script","_law_at","_law_top","_law_bottom","_law_by"]
noncomputable abbrev zb6 : List Str := ["_law_script","_law_at"]
theorem za2 : FnScope zcL zb6 (zac zck) := ⟨rfl,rfl,rfl,by decide +kernel,rfl,by decide +kernel,by decide +kernel⟩
noncomputable def zbK : FS :=
  (seqF (setF q105 2 (zat (zad (zat (zad (gv 0) (zad (gv 1) lNil)) [] zaH) lNil) [] zaU)) (seqF (setF q105 3 (zat (zad (zat (zad (gv 0) (zad (f2 (gv 1) (ci 1) addA) lNil)) [] zaH) lNil) [] zaU)) (seqF (ifF q105 (za4 (f2 (gv 3) (ci 0) eqD)) (seqF (setF q105 3 (f2 (ci 1) (f2 (zat (zad (gv 0) (zad (gv 1) lNil)) [] zaH) (ci 7) modI) addA)) zak) zak) (seqF (setF q105 4 (f2 (ci 1) (f2 (zat (zad (gv 0) (zad (f2 (gv 1) (ci 2) addA) lNil)) [] zaH) (f2 (mkL (zad (ci 1) (zad (ci 30) (zad (f2 (ci 10) (ci 30) powI) lNil)))) (f2 (zat (zad (gv 0) (zad (f2 (gv 1) (ci 1) addA) lNil)) [] zaH) (ci 3) modI) ixA) modI) addA)) (seqF (retF q105 (mkT (zad (f2 (gv 2) (gv 4) mulW) (zad (f2 (gv 3) (gv 4) mulW) lNil)))) zak)))))
noncomputable def zbm : List D→Res D := fun ds => outR false (zbK (zaq zcL.length ds))
theorem zgF {P : Program} {w : World} {K : PySem.W.Frag} {mg : Str→Option Value} {base : Heap} (T : Txt K mg) (A : DefAt K mg "_law_pair" zck) (c__law_cell : Callee P w K mg base "_law_cell" zb7 [] 1 false q101 zaH) (c__law_number : Callee P w K mg base "_law_number" zbI [] 1 false [Md.bw] zaU) : Callee P w K mg base "_law_pair" zb6 [] 2 false q101 zbm := by
  refine zbq (k := 1) (fs := zbK) (m' := q105) A za2 rfl (fun _ _ _ _ _ _ us hl => by obtain ⟨u0,u1,rfl⟩ := zcP us hl; kernel_rfl) fun f cdv A outer s H g E hr => ?_
  have hu1 := zbX hr
  have hu64 := hr.units
  exact (zaa (zbw 2 za2.nd (by rfl) (by first | exact Or.inl rfl | exact Or.inr rfl) (zap (dds := []) c__law_number (hr.mono (by decide)) (m_bw (SE.toB (zap (dds := []) c__law_cell (hr.mono (by decide)) (m_bw (vb_ 0) (m_bw (vb_ 1) zaJ)))) zaJ)))
      (zaa (zbw 3 za2.nd (by rfl) (by first | exact Or.inl rfl | exact Or.inr rfl) (zap (dds := []) c__law_number (hr.mono (by decide)) (m_bw (SE.toB (zap (dds := []) c__law_cell (hr.mono (by decide)) (m_bw (vb_ 0) (m_bw (SE.toB (zbO (vb_ 1) (SE.toB zag))) zaJ)))) zaJ)))
      (zaa (s_if (q_eq hu64 (vb_ 3) (SE.toB zag)) (zaa (zbw 3 za2.nd (by rfl) (by first | exact Or.inl rfl | exact Or.inr rfl) (zbO (SE.toB zag) (SE.toB (zcn (SE.toB (zap (dds := []) c__law_cell (hr.mono (by decide)) (m_bw (vb_ 0) (m_bw (vb_ 1) zaJ)))) (SE.toB zag)))))
      zah)
      zah)
      (zaa (zbw 4 za2.nd (by rfl) (by first | exact Or.inl rfl | exact Or.inr rfl) (zbO (SE.toB zag) (SE.toB (zcn (SE.toB (zap (dds := []) c__law_cell (hr.mono (by decide)) (m_bw (vb_ 0) (m_bw (SE.toB (zbO (vb_ 1) (SE.toB zag))) zaJ)))) (SE.toB (zaI hu1 (SO.toB (zeS (zaB zag (zaB zag (zaB (zfM (SE.toB zag) (SE.toB zag)) zcK))))) (SE.toB (zcn (SE.toB (zap (dds := []) c__law_cell (hr.mono (by decide)) (m_bw (vb_ 0) (m_bw (SE.toB (zbO (vb_ 1) (SE.toB zag))) zaJ)))) (SE.toB zag)))))))))
      (zaa (za6 (zeH (zaB (zav (vb_ 2) (vb_ 4)) (zaB (zav (vb_ 3) (vb_ 4)) zcK))))
      zah)))))
noncomputable abbrev zbg : Stmt := top 7
noncomputable abbrev zbs : List Str := ["one","other","rest"]
noncomputable abbrev zaC : List Str := ["one","other"]
theorem zaw : FnScope zbs zaC (zac zbg) := ⟨rfl,rfl,rfl,by decide +kernel,rfl,by decide +kernel,by decide +kernel⟩
noncomputable abbrev za8 : FQ :=
  (za4 (f2 (gv 1) (ci 0) neD))
noncomputable abbrev za9 : FS :=
  (seqF (setF q0 2 (f2 (gv 0) (gv 1) modV)) (seqF (setF q0 0 (gv 1)) (seqF (setF q0 1 (gv 2)) zak)))
noncomputable def zaE : FS :=
  (seqF (zaW q0 za8 za9 1000) (seqF (retF q0 (fC (zad (gv 0) lNil) absD)) zak))
noncomputable def zan : List D→Res D := fun ds => outR false (zaE (zaq zbs.length ds))
theorem zdG {P : Program} {w : World} {K : PySem.W.Frag} {mg : Str→Option Value} {base : Heap} (T : Txt K mg) (A : DefAt K mg "greatest_divisor" zbg) : Callee P w K mg base "greatest_divisor" zaC [] 1 false q104 zan := by
  refine zbq (k := 0) (fs := zaE) (m' := q0) A zaw rfl (fun _ _ _ _ _ _ us hl => by obtain ⟨u0,u1,rfl⟩ := zcP us hl; kernel_rfl) fun f cdv A outer s H g E hr => ?_
  have hu1 := zbX hr
  have hu64 := hr.units
  exact (zaa (zeG 1000 PassesOwn.never (q_ne hu64 (vb_ 1) (SE.toB zag)) (zaa (zbw 2 zaw.nd (by rfl) (by first | exact Or.inl rfl | exact Or.inr rfl) (zgx (vb_ 0) (vb_ 1)))
      (zaa (zbw 0 zaw.nd (by rfl) (by first | exact Or.inl rfl | exact Or.inr rfl) (v_ 1))
      (zaa (zbw 1 zaw.nd (by rfl) (by first | exact Or.inl rfl | exact Or.inr rfl) (v_ 2))
      zah))))
      (zaa (za6 (zh8 (by rfl) T.b_abs (zcU (vb_ 0) zet)))
      zah))
noncomputable abbrev zcu : Stmt := top 5
noncomputable abbrev zcV : List Str := ["value"]
noncomputable abbrev zbV : List Str := ["value"]
theorem zdE : FnScope zcV zbV (zac zcu) := ⟨rfl,rfl,rfl,by decide +kernel,rfl,by decide +kernel,by decide +kernel⟩
noncomputable def zcY : FS :=
  (seqF (retF [Md.bw] (vAnd (f1 (gv 0) (isiD "int")) (vNot (f1 (gv 0) (isiD "bool"))))) zak)
noncomputable def zaO : List D→Res D := fun ds => outR false (zcY (zaq zcV.length ds))
theorem zhj {P : Program} {w : World} {K : PySem.W.Frag} {mg : Str→Option Value} {base : Heap} (T : Txt K mg) (A : DefAt K mg "is_whole" zcu) : Callee P w K mg base "is_whole" zbV [] 1 false [Md.bw] zaO := by
  refine zbq (k := 0) (fs := zcY) (m' := [Md.bw]) A zdE rfl (fun _ _ _ _ _ _ us hl => by obtain ⟨u0,rfl⟩ := zf5 us hl; kernel_rfl) fun f cdv A outer s H g E hr => ?_
  have hu1 := zbX hr
  have hu64 := hr.units
  exact (zaa (za6 (zek (zej "int" "int" rfl (ze1 _) (by rfl) T.b_isinstance (by rfl) T.b_int (vb_ 0)) (zeI (zh1 (zej "bool" "bool" rfl (zc9 _) (by rfl) T.b_isinstance (by rfl) T.b_bool (vb_ 0))))))
      zah)
noncomputable abbrev zcv : Stmt := top 8
noncomputable abbrev zcW : List Str := ["top","bottom","divisor"]
noncomputable abbrev zbf : List Str := ["top","bottom"]
theorem zb5 : FnScope zcW zbf (zac zcv) := ⟨rfl,rfl,rfl,by decide +kernel,rfl,by decide +kernel,by decide +kernel⟩
noncomputable def zbW : FS :=
  (seqF (ifF q0 (fOr (fNot (fTru (zat (zad (gv 0) lNil) [] zaO))) (fOr (fNot (fTru (zat (zad (gv 1) lNil) [] zaO))) (za4 (f2 (gv 1) (ci 0) eqD)))) (seqF (fun _ => Out.stuck) zak) zak) (seqF (setF q0 2 (zat (zad (gv 0) (zad (gv 1) lNil)) [] zan)) (seqF (ifF q0 (za4 (f2 (gv 1) (ci 0) ltI)) (seqF (setF q0 2 (f1 (gv 2) negI)) zak) zak) (seqF (retF q0 (mkT (zad (f2 (gv 0) (gv 2) zdM) (zad (f2 (gv 1) (gv 2) zdM) lNil)))) zak))))
noncomputable def zau : List D→Res D := fun ds => outR false (zbW (zaq zcW.length ds))
theorem zhk {P : Program} {w : World} {K : PySem.W.Frag} {mg : Str→Option Value} {base : Heap} (T : Txt K mg) (A : DefAt K mg "fraction" zcv) (c_is_whole : Callee P w K mg base "is_whole" zbV [] 1 false [Md.bw] zaO) (c_greatest_divisor : Callee P w K mg base "greatest_divisor" zaC [] 1 false q104 zan) : Callee P w K mg base "fraction" zbf [] 2 false q104 zau := by
  refine zbq (k := 1) (fs := zbW) (m' := q0) A zb5 rfl (fun _ _ _ _ _ _ us hl => by obtain ⟨u0,u1,rfl⟩ := zcP us hl; kernel_rfl) fun f cdv A outer s H g E hr => ?_
  have hu1 := zbX hr
  have hu64 := hr.units
  exact (zaa (s_if (SW.toQ (q_or (zcx (zco (SE.toB (zap (dds := []) c_is_whole (hr.mono (by decide)) (m_bw (vb_ 0) zaJ))))) (q_or (zcx (zco (SE.toB (zap (dds := []) c_is_whole (hr.mono (by decide)) (m_bw (vb_ 1) zaJ))))) (zeL (q_eq hu64 (vb_ 1) (SE.toB zag)))))) (zaa zgX
      zah)
      zah)
      (zaa (zbw 2 zb5.nd (by rfl) (by first | exact Or.inl rfl | exact Or.inr rfl) (zap (dds := []) c_greatest_divisor (hr.mono (by decide)) (m_sh (v_ 0) (m_sh (v_ 1) zaJ))))
      (zaa (s_if (q_lt (vb_ 1) (SE.toB zag)) (zaa (zbw 2 zb5.nd (by rfl) (by first | exact Or.inl rfl | exact Or.inr rfl) (zh2 (vb_ 2)))
      zah)
      zah)
      (zaa (za6 (zeH (zaB (zc1 (vb_ 0) (vb_ 2)) (zaB (zc1 (vb_ 1) (vb_ 2)) zcK))))
      zah))))
noncomputable abbrev zb9 : Stmt := top 8
noncomputable abbrev zcm : List Str := ["top","bottom","divisor"]
noncomputable abbrev zbS : List Str := ["top","bottom"]
theorem zbD : FnScope zcm zbS (zac zb9) := ⟨rfl,rfl,rfl,by decide +kernel,rfl,by decide +kernel,by decide +kernel⟩
noncomputable def za5 : FS :=
  (seqF (ifF q0 (fOr (fNot (fTru (zat (zad (gv 0) lNil) [] zaO))) (fOr (fNot (fTru (zat (zad (gv 1) lNil) [] zaO))) (za4 (f2 (gv 1) (ci 0) eqD)))) (seqF (raiF q0 "NoFraction" (zad (fun _ => Res.ok (D.str "a fraction is made of two whole numbers, the second not 0")) lNil)) zak) zak) (seqF (setF q0 2 (zat (zad (gv 0) (zad (gv 1) lNil)) [] zan)) (seqF (ifF q0 (za4 (f2 (gv 1) (ci 0) ltI)) (seqF (setF q0 2 (f1 (gv 2) negI)) zak) zak) (seqF (retF q0 (mkT (zad (f2 (gv 0) (gv 2) zdM) (zad (f2 (gv 1) (gv 2) zdM) lNil)))) zak))))
noncomputable def zaG : List D→Res D := fun ds => outR false (za5 (zaq zcm.length ds))
theorem zf2 {P : Program} {w : World} {K : PySem.W.Frag} {mg : Str→Option Value} {base : Heap} (T : Txt K mg) (A : DefAt K mg "fraction" zb9) (c_is_whole : Callee P w K mg base "is_whole" zbV [] 1 false [Md.bw] zaO) (c_greatest_divisor : Callee P w K mg base "greatest_divisor" zaC [] 1 false q104 zan) {C_NoFraction : Addr} (xc_NoFraction : XC K mg "NoFraction" C_NoFraction) (xn_NoFraction : XN K "NoFraction" C_NoFraction) : CalleeX P w K mg base "fraction" zbS [] 2 false q104 zaG := by
  refine zhm (k := 1) (fs := za5) (m' := q0) A zbD rfl (fun _ _ _ _ _ _ us hl => by obtain ⟨u0,u1,rfl⟩ := zcP us hl; kernel_rfl) fun f cdv A outer s H g E hr => ?_
  have hu1 := zbX hr
  have hu64 := hr.units
  exact (zaa (s_if (SW.toQ (q_or (zcx (zco (SE.toB (zap (dds := []) c_is_whole (hr.mono (by decide)) (m_bw (vb_ 0) zaJ))))) (q_or (zcx (zco (SE.toB (zap (dds := []) c_is_whole (hr.mono (by decide)) (m_bw (vb_ 1) zaJ))))) (zeL (q_eq hu64 (vb_ 1) (SE.toB zag)))))) (zaa (zgV rfl xc_NoFraction xn_NoFraction (by rfl) (zaB zjv zcK))
      zah)
      zah)
      (zaa (zbw 2 zbD.nd (by rfl) (by first | exact Or.inl rfl | exact Or.inr rfl) (zap (dds := []) c_greatest_divisor (hr.mono (by decide)) (m_sh (v_ 0) (m_sh (v_ 1) zaJ))))
      (zaa (s_if (q_lt (vb_ 1) (SE.toB zag)) (zaa (zbw 2 zbD.nd (by rfl) (by first | exact Or.inl rfl | exact Or.inr rfl) (zh2 (vb_ 2)))
      zah)
      zah)
      (zaa (za6 (zeH (zaB (zc1 (vb_ 0) (vb_ 2)) (zaB (zc1 (vb_ 1) (vb_ 2)) zcK))))
      zah))))
noncomputable abbrev zb0 : Stmt := top 15
noncomputable abbrev zci : List Str := ["_law_one","_law_other","_law_rest"]
noncomputable abbrev zbJ : List Str := ["_law_one","_law_other"]
theorem zaZ : FnScope zci zbJ (zac zb0) := ⟨rfl,rfl,rfl,by decide +kernel,rfl,by decide +kernel,by decide +kernel⟩
noncomputable abbrev zbR : FQ :=
  (za4 (f2 (gv 1) (ci 0) neD))
noncomputable abbrev zbT : FS :=
  (seqF (setF q0 2 (f2 (gv 0) (gv 1) modV)) (seqF (setF q0 0 (gv 1)) (seqF (setF q0 1 (gv 2)) zak)))
noncomputable def zbd : FS :=
  (seqF (zaW q0 zbR zbT 1000) (seqF (retF q0 (fC (zad (gv 0) lNil) absD)) zak))
noncomputable def zbb : List D→Res D := fun ds => outR false (zbd (zaq zci.length ds))
theorem zfE {P : Program} {w : World} {K : PySem.W.Frag} {mg : Str→Option Value} {base : Heap} (T : Txt K mg) (A : DefAt K mg "_law_common" zb0) : Callee P w K mg base "_law_common" zbJ [] 1 false q104 zbb := by
  refine zbq (k := 0) (fs := zbd) (m' := q0) A zaZ rfl (fun _ _ _ _ _ _ us hl => by obtain ⟨u0,u1,rfl⟩ := zcP us hl; kernel_rfl) fun f cdv A outer s H g E hr => ?_
  have hu1 := zbX hr
  have hu64 := hr.units
  exact (zaa (zeG 1000 PassesOwn.never (q_ne hu64 (vb_ 1) (SE.toB zag)) (zaa (zbw 2 zaZ.nd (by rfl) (by first | exact Or.inl rfl | exact Or.inr rfl) (zgx (vb_ 0) (vb_ 1)))
      (zaa (zbw 0 zaZ.nd (by rfl) (by first | exact Or.inl rfl | exact Or.inr rfl) (v_ 1))
      (zaa (zbw 1 zaZ.nd (by rfl) (by first | exact Or.inl rfl | exact Or.inr rfl) (v_ 2))
      zah))))
      (zaa (za6 (zh8 (by rfl) T.b_abs (zcU (vb_ 0) zet)))
      zah))
noncomputable abbrev zbh : Stmt := top 16
noncomputable abbrev zbt : List Str := ["_law_found","_law_one"]
noncomputable abbrev zaT : List Str := ["_law_found"]
theorem zbi : FnScope zbt zaT (zac zbh) := ⟨rfl,rfl,rfl,by decide +kernel,rfl,by decide +kernel,by decide +kernel⟩
noncomputable abbrev zba : FS :=
  (seqF (ifF q106 (fOr (fNot (fTru (f1 (gv 1) (isiD "int")))) (fTru (f1 (gv 1) (isiD "bool")))) (seqF (retF q106 (fun _ => Res.ok (D.bl false))) zak) zak) zak)
noncomputable def zaF : FS :=
  (seqF (ifF q106 (fOr (fNot (fTru (f1 (gv 0) (isiD "tuple")))) (za4 (f2 (fC (zad (gv 0) lNil) lenD) (ci 2) neD))) (seqF (retF q106 (fun _ => Res.ok (D.bl false))) zak) zak) (seqF (zdK q106 (fSeq zcI (gv 0)) (ftN 1) zba) (seqF (retF q106 (vAnd (f2 (f2 (gv 0) (ci 1) ixA) (ci 0) gtI) (f2 (zat (zad (f2 (gv 0) (ci 0) ixA) (zad (f2 (gv 0) (ci 1) ixA) lNil)) [] zbb) (ci 1) eqD))) zak)))
noncomputable def zaD : List D→Res D := fun ds => outR false (zaF (zaq zbt.length ds))
theorem zdH {P : Program} {w : World} {K : PySem.W.Frag} {mg : Str→Option Value} {base : Heap} (T : Txt K mg) (A : DefAt K mg "_law_is_fraction" zbh) (c__law_common : Callee P w K mg base "_law_common" zbJ [] 1 false q104 zbb) : Callee P w K mg base "_law_is_fraction" zaT [] 2 false [Md.bw] zaD := by
  refine zbq (k := 1) (fs := zaF) (m' := q106) A zbi rfl (fun _ _ _ _ _ _ us hl => by obtain ⟨u0,rfl⟩ := zf5 us hl; kernel_rfl) fun f cdv A outer s H g E hr => ?_
  have hu1 := zbX hr
  have hu64 := hr.units
  exact (zaa (s_if (SW.toQ (q_or (zcx (zco (SE.toB (zej "tuple" "tuple" rfl (ze0 _) (by rfl) T.b_isinstance (by rfl) T.b_tuple (vb_ 0))))) (zeL (q_ne hu64 (SE.toB (zgY (by rfl) T.b_len (zcU (vb_ 0) zet))) (SE.toB zag))))) (zaa (za6 s_bl)
      zah)
      zah)
      (zaa (zh5 PassesOwn.never rfl (ze5 (vb_ 0)) (fun _ => (zbM 1 zbi.nd (by rfl) (by first | exact Or.inl rfl | exact Or.inr rfl))) (fun _ => (zaa (s_if (SW.toQ (q_or (zcx (zco (SE.toB (zej "int" "int" rfl (ze1 _) (by rfl) T.b_isinstance (by rfl) T.b_int (vb_ 1))))) (zeL (zco (SE.toB (zej "bool" "bool" rfl (zc9 _) (by rfl) T.b_isinstance (by rfl) T.b_bool (vb_ 1))))))) (zaa (za6 s_bl)
      zah)
      zah)
      zah)))
      (zaa (za6 (zek (s_gt (SE.toB (zaI hu1 (vb_ 0) (SE.toB zag))) (SE.toB zag)) (zeI (s_eq hu64 (SE.toB (zap (dds := []) c__law_common (hr.mono (by decide)) (m_sh (zaI hu1 (vb_ 0) (SE.toB zag)) (m_sh (zaI hu1 (vb_ 0) (SE.toB zag)) zaJ)))) (SE.toB zag)))))
      zah)))
noncomputable abbrev zbY : Stmt := top 19
noncomputable abbrev zcg : List Str := ["_law_found","_law_top","_law_bottom"]
noncomputable abbrev zbH : List Str := ["_law_found","_law_top","_law_bottom"]
theorem zcN : FnScope zcg zbH (zac zbY) := ⟨rfl,rfl,rfl,by decide +kernel,rfl,by decide +kernel,by decide +kernel⟩
noncomputable def zbc : FS :=
  (seqF (retF [.bw,.bw,.bw] (vAnd (zat (zad (gv 0) lNil) [] zaD) (f2 (f2 (f2 (gv 0) (ci 0) ixA) (gv 2) mulW) (f2 (gv 1) (f2 (gv 0) (ci 1) ixA) mulW) eqD))) zak)
noncomputable def zay : List D→Res D := fun ds => outR false (zbc (zaq zcg.length ds))
theorem zfC {P : Program} {w : World} {K : PySem.W.Frag} {mg : Str→Option Value} {base : Heap} (T : Txt K mg) (A : DefAt K mg "_law_stands" zbY) (c__law_is_fraction : Callee P w K mg base "_law_is_fraction" zaT [] 2 false [Md.bw] zaD) : Callee P w K mg base "_law_stands" zbH [] 3 false [.bw,.bw,.bw] zay := by
  refine zbq (k := 2) (fs := zbc) (m' := [.bw,.bw,.bw]) A zcN rfl (fun _ _ _ _ _ _ us hl => by obtain ⟨u0,u1,u2,rfl⟩ := zjQ us hl; kernel_rfl) fun f cdv A outer s H g E hr => ?_
  have hu1 := zbX hr
  have hu64 := hr.units
  exact (zaa (za6 (zek (zap (dds := []) c__law_is_fraction (hr.mono (by decide)) (m_bw (vb_ 0) zaJ)) (zeI (s_eq hu64 (SE.toB (zav (SE.toB (zaI hu1 (vb_ 0) (SE.toB zag))) (vb_ 2))) (SE.toB (zav (vb_ 1) (SE.toB (zaI hu1 (vb_ 0) (SE.toB zag)))))))))
      zah)
noncomputable abbrev zeD : Stmt := top 12
noncomputable abbrev zgO : List Str := ["a","b"]
noncomputable abbrev zfz : List Str := ["a","b"]
theorem zgU : FnScope zgO zfz (zac zeD) := ⟨rfl,rfl,rfl,by decide +kernel,rfl,by decide +kernel,by decide +kernel⟩
noncomputable def zef : FS :=
  (seqF (retF q101 (f2 (f2 (f2 (gv 0) (ci 0) ixA) (f2 (gv 1) (ci 1) ixA) mulW) (f2 (f2 (gv 1) (ci 0) ixA) (f2 (gv 0) (ci 1) ixA) mulW) ltI)) zak)
noncomputable def zcX : List D→Res D := fun ds => outR false (zef (zaq zgO.length ds))
theorem zjK {P : Program} {w : World} {K : PySem.W.Frag} {mg : Str→Option Value} {base : Heap} (T : Txt K mg) (A : DefAt K mg "less" zeD) : Callee P w K mg base "less" zfz [] 1 false q101 zcX := by
  refine zbq (k := 0) (fs := zef) (m' := q101) A zgU rfl (fun _ _ _ _ _ _ us hl => by obtain ⟨u0,u1,rfl⟩ := zcP us hl; kernel_rfl) fun f cdv A outer s H g E hr => ?_
  have hu1 := zbX hr
  have hu64 := hr.units
  exact (zaa (za6 (s_lt (SE.toB (zav (SE.toB (zaI hu1 (vb_ 0) (SE.toB zag))) (SE.toB (zaI hu1 (vb_ 1) (SE.toB zag))))) (SE.toB (zav (SE.toB (zaI hu1 (vb_ 1) (SE.toB zag))) (SE.toB (zaI hu1 (vb_ 0) (SE.toB zag)))))))
      zah)
noncomputable abbrev zbN : Stmt := top 20
noncomputable abbrev zb4 : List Str := ["_law_top","_law_caught","e"]
noncomputable abbrev zby : List Str := ["_law_top"]
theorem zaQ : FnScope zb4 zby (zac zbN) := ⟨rfl,rfl,rfl,by decide +kernel,rfl,by decide +kernel,by decide +kernel⟩
noncomputable def za0 : FS :=
  (seqF (setF q0 1 (fun _ => Res.ok D.non)) (seqF (tryF q0 2 zbx (seqF (zfi q0 (zdb (zad (gv 0) (zad (ci 0) lNil)) [] zaG)) zak) (seqF (setF q0 1 (gv 2)) zak)) (seqF (retF q0 (vAnd (f1 (gv 1) (isxD zbv)) (vAnd (f1 (gv 1) (isxD zbu)) (vNot (f1 (gv 1) (isxD zbC)))))) zak)))
noncomputable def zaL : List D→Res D := fun ds => outR false (za0 (zaq zb4.length ds))
theorem zeQ {P : Program} {w : World} {K : PySem.W.Frag} {mg : Str→Option Value} {base : Heap} (T : Txt K mg) (A : DefAt K mg "_law_refused" zbN) (c_fraction_x : CalleeX P w K mg base "fraction" zbS [] 2 false q104 zaG) {C_TradeError : Addr} {bm_TradeError : List Value} (xa_TradeError : XA K C_TradeError bm_TradeError) (xb_TradeError : mg "TradeError" = some (.ref C_TradeError)) (hk_TradeError : zgq K C_TradeError zbx) {C_NotSquare : Addr} (xb_NotSquare : mg "NotSquare" = some (.ref C_NotSquare)) (ix_NotSquare : IsxOk K (.ref C_NotSquare) zbC) (ix_ValueError : IsxOk K (.type "ValueError") zbu) {C_NoFraction : Addr} (xb_NoFraction : mg "NoFraction" = some (.ref C_NoFraction)) (ix_NoFraction : IsxOk K (.ref C_NoFraction) zbv) : Callee P w K mg base "_law_refused" zby [] 3 false [Md.sh] zaL := by
  refine zbq (k := 2) (fs := za0) (m' := q0) A zaQ rfl (fun _ _ _ _ _ _ us hl => by obtain ⟨u0,rfl⟩ := zf5 us hl; kernel_rfl) fun f cdv A outer s H g E hr => ?_
  have hu1 := zbX hr
  have hu64 := hr.units
  exact (zaa (zbw 1 zaQ.nd (by rfl) (by first | exact Or.inl rfl | exact Or.inr rfl) zjw)
      (zaa (zju (bmT := bm_TradeError) (m1 := q0) 2 rfl rfl rfl xb_TradeError xa_TradeError.ob xa_TradeError.be hk_TradeError (by rfl) zaQ.nd (by rfl) (by rfl) (by rfl) (fun _ _ => (zaa (zh6 (zhG c_fraction_x (hr.mono (by decide)) (m_sh (v_ 0) (m_sh zag zaJ))))
      zah)) (fun _ => (zaa (zbw 1 zaQ.nd (by rfl) (by first | exact Or.inl rfl | exact Or.inr rfl) (v_ 2))
      zah)))
      (zaa (za6 (zek (zh4 xb_NoFraction ix_NoFraction (by rfl) (by rfl) T.b_isinstance (vb_ 1)) (zek (zh3 (x := "ValueError") rfl T.b_ValueError ix_ValueError (by rfl) (by rfl) T.b_isinstance (vb_ 1)) (zeI (zh1 (zh4 xb_NotSquare ix_NotSquare (by rfl) (by rfl) T.b_isinstance (vb_ 1)))))))
      zah)))
noncomputable abbrev zdX : Stmt := top 10
noncomputable abbrev zfB : List Str := ["a","b"]
noncomputable abbrev zdT : List Str := ["a","b"]
theorem zfK : FnScope zfB zdT (zac zdX) := ⟨rfl,rfl,rfl,by decide +kernel,rfl,by decide +kernel,by decide +kernel⟩
noncomputable def zdf : FS :=
  (seqF (retF q101 (zat (zad (f2 (f2 (f2 (gv 0) (ci 0) ixA) (f2 (gv 1) (ci 1) ixA) mulW) (f2 (f2 (gv 1) (ci 0) ixA) (f2 (gv 0) (ci 1) ixA) mulW) subI) (zad (f2 (f2 (gv 0) (ci 1) ixA) (f2 (gv 1) (ci 1) ixA) mulW) lNil)) [] zau)) zak)
noncomputable def zdd : List D→Res D := fun ds => outR false (zdf (zaq zfB.length ds))
theorem zjj {P : Program} {w : World} {K : PySem.W.Frag} {mg : Str→Option Value} {base : Heap} (T : Txt K mg) (A : DefAt K mg "minus" zdX) (c_fraction : Callee P w K mg base "fraction" zbf [] 2 false q104 zau) : Callee P w K mg base "minus" zdT [] 3 false q101 zdd := by
  refine zbq (k := 2) (fs := zdf) (m' := q101) A zfK rfl (fun _ _ _ _ _ _ us hl => by obtain ⟨u0,u1,rfl⟩ := zcP us hl; kernel_rfl) fun f cdv A outer s H g E hr => ?_
  have hu1 := zbX hr
  have hu64 := hr.units
  exact (zaa (za6 (zap (dds := []) c_fraction (hr.mono (by decide)) (m_sh (zfL (SE.toB (zav (SE.toB (zaI hu1 (vb_ 0) (SE.toB zag))) (SE.toB (zaI hu1 (vb_ 1) (SE.toB zag))))) (SE.toB (zav (SE.toB (zaI hu1 (vb_ 1) (SE.toB zag))) (SE.toB (zaI hu1 (vb_ 0) (SE.toB zag)))))) (m_sh (zav (SE.toB (zaI hu1 (vb_ 0) (SE.toB zag))) (SE.toB (zaI hu1 (vb_ 1) (SE.toB zag)))) zaJ))))
      zah)
noncomputable abbrev zeC : Stmt := top 9
noncomputable abbrev zgN : List Str := ["a","b"]
noncomputable abbrev zfy : List Str := ["a","b"]
theorem zgT : FnScope zgN zfy (zac zeC) := ⟨rfl,rfl,rfl,by decide +kernel,rfl,by decide +kernel,by decide +kernel⟩
noncomputable def zee : FS :=
  (seqF (retF q101 (zat (zad (f2 (f2 (f2 (gv 0) (ci 0) ixA) (f2 (gv 1) (ci 1) ixA) mulW) (f2 (f2 (gv 1) (ci 0) ixA) (f2 (gv 0) (ci 1) ixA) mulW) addA) (zad (f2 (f2 (gv 0) (ci 1) ixA) (f2 (gv 1) (ci 1) ixA) mulW) lNil)) [] zau)) zak)
noncomputable def zed : List D→Res D := fun ds => outR false (zee (zaq zgN.length ds))
theorem zjJ {P : Program} {w : World} {K : PySem.W.Frag} {mg : Str→Option Value} {base : Heap} (T : Txt K mg) (A : DefAt K mg "plus" zeC) (c_fraction : Callee P w K mg base "fraction" zbf [] 2 false q104 zau) : Callee P w K mg base "plus" zfy [] 3 false q101 zed := by
  refine zbq (k := 2) (fs := zee) (m' := q101) A zgT rfl (fun _ _ _ _ _ _ us hl => by obtain ⟨u0,u1,rfl⟩ := zcP us hl; kernel_rfl) fun f cdv A outer s H g E hr => ?_
  have hu1 := zbX hr
  have hu64 := hr.units
  exact (zaa (za6 (zap (dds := []) c_fraction (hr.mono (by decide)) (m_sh (zbO (SE.toB (zav (SE.toB (zaI hu1 (vb_ 0) (SE.toB zag))) (SE.toB (zaI hu1 (vb_ 1) (SE.toB zag))))) (SE.toB (zav (SE.toB (zaI hu1 (vb_ 1) (SE.toB zag))) (SE.toB (zaI hu1 (vb_ 0) (SE.toB zag)))))) (m_sh (zav (SE.toB (zaI hu1 (vb_ 0) (SE.toB zag))) (SE.toB (zaI hu1 (vb_ 1) (SE.toB zag)))) zaJ))))
      zah)
noncomputable abbrev zdW : Stmt := top 11
noncomputable abbrev zfA : List Str := ["a","b"]
noncomputable abbrev zdS : List Str := ["a","b"]
theorem zfJ : FnScope zfA zdS (zac zdW) := ⟨rfl,rfl,rfl,by decide +kernel,rfl,by decide +kernel,by decide +kernel⟩
noncomputable def zde : FS :=
  (seqF (retF q101 (zat (zad (f2 (f2 (gv 0) (ci 0) ixA) (f2 (gv 1) (ci 0) ixA) mulW) (zad (f2 (f2 (gv 0) (ci 1) ixA) (f2 (gv 1) (ci 1) ixA) mulW) lNil)) [] zau)) zak)
noncomputable def zdc : List D→Res D := fun ds => outR false (zde (zaq zfA.length ds))
theorem zji {P : Program} {w : World} {K : PySem.W.Frag} {mg : Str→Option Value} {base : Heap} (T : Txt K mg) (A : DefAt K mg "times" zdW) (c_fraction : Callee P w K mg base "fraction" zbf [] 2 false q104 zau) : Callee P w K mg base "times" zdS [] 3 false q101 zdc := by
  refine zbq (k := 2) (fs := zde) (m' := q101) A zfJ rfl (fun _ _ _ _ _ _ us hl => by obtain ⟨u0,u1,rfl⟩ := zcP us hl; kernel_rfl) fun f cdv A outer s H g E hr => ?_
  have hu1 := zbX hr
  have hu64 := hr.units
  exact (zaa (za6 (zap (dds := []) c_fraction (hr.mono (by decide)) (m_sh (zav (SE.toB (zaI hu1 (vb_ 0) (SE.toB zag))) (SE.toB (zaI hu1 (vb_ 1) (SE.toB zag)))) (m_sh (zav (SE.toB (zaI hu1 (vb_ 0) (SE.toB zag))) (SE.toB (zaI hu1 (vb_ 1) (SE.toB zag)))) zaJ))))
      zah)
noncomputable abbrev zcR : Stmt := top 21
noncomputable abbrev zev : List Str := ["_law_script","_law_pairs","_law_one","_law_other","_law_found","_law_pair_here","_law_a","_law_b","_law_c","_law_d","_law_told"]
noncomputable abbrev zjg : List Str := ["_law_script"]
theorem zbz : FnScope zev zjg (zac zcR) := ⟨rfl,rfl,rfl,by decide +kernel,rfl,by decide +kernel,by decide +kernel⟩
noncomputable abbrev zhN : FS :=
  (seqF (ifF q102 (fNot (fTru (zat (zad (gv 4) (zad (f2 (gv 5) (ci 0) ixA) (zad (f2 (gv 5) (ci 1) ixA) lNil))) [] zay))) (seqF (retF q102 (fun _ => Res.ok (D.bl false))) zak) zak) zak)
noncomputable def zgu : FS :=
  (seqF (setF q102 1 (mkL (zad (zat (zad (gv 0) (zad (ci 1) lNil)) [] zbm) (zad (zat (zad (gv 0) (zad (ci 4) lNil)) [] zbm) lNil)))) (seqF (asgF q102 (zdN 2 [] (fSeq zcI (gv 1)) (ftT (zbr (ftN 0) (zbr (ftN 1) zdt))) (fun _ => Res.ok true) (zat (zad (gv 0) (zad (gv 1) lNil)) [] zau)) (ftT (zbr (ftN 2) (zbr (ftN 3) zdt)))) (seqF (zdK q102 (fSeq zcI (mkL (zad (mkT (zad (gv 2) (zad (f2 (gv 1) (ci 0) ixA) lNil))) (zad (mkT (zad (gv 3) (zad (f2 (gv 1) (ci 1) ixA) lNil))) lNil)))) (ftT (zbr (ftN 4) (zbr (ftN 5) zdt))) zhN) (seqF (asgF q102 (gv 2) (ftT (zbr (ftN 6) (zbr (ftN 7) zdt)))) (seqF (asgF q102 (gv 3) (ftT (zbr (ftN 8) (zbr (ftN 9) zdt)))) (seqF (ifF q102 (fOr (fNot (fTru (zat (zad (zat (zad (gv 2) (zad (gv 3) lNil)) [] zed) (zad (f2 (f2 (gv 6) (gv 9) mulW) (f2 (gv 8) (gv 7) mulW) addA) (zad (f2 (gv 7) (gv 9) mulW) lNil))) [] zay))) (fNot (fTru (zat (zad (zat (zad (gv 2) (zad (gv 3) lNil)) [] zdc) (zad (f2 (gv 6) (gv 8) mulW) (zad (f2 (gv 7) (gv 9) mulW) lNil))) [] zay)))) (seqF (retF q102 (fun _ => Res.ok (D.bl false))) zak) zak) (seqF (ifF q102 (fNot (fTru (zat (zad (zat (zad (gv 2) (zad (gv 3) lNil)) [] zdd) (zad (f2 (f2 (gv 6) (gv 9) mulW) (f2 (gv 8) (gv 7) mulW) subI) (zad (f2 (gv 7) (gv 9) mulW) lNil))) [] zay))) (seqF (retF q102 (fun _ => Res.ok (D.bl false))) zak) zak) (seqF (setF q102 10 (mkL (zad (zat (zad (gv 2) (zad (gv 3) lNil)) [] zcX) (zad (zat (zad (gv 3) (zad (gv 2) lNil)) [] zcX) (zad (zat (zad (gv 2) (zad (gv 2) lNil)) [] zcX) lNil))))) (seqF (ifF q102 (fNot (fTru (fC (zad (zdN 1 [] (fSeq zcI (gv 10)) (ftN 0) (fun _ => Res.ok true) (f1 (gv 0) (isiD "bool"))) lNil) allD))) (seqF (retF q102 (fun _ => Res.ok (D.bl false))) zak) zak) (seqF (ifF q102 (za4 (f2 (gv 10) (mkL (zad (f2 (f2 (gv 6) (gv 9) mulW) (f2 (gv 8) (gv 7) mulW) ltI) (zad (f2 (f2 (gv 8) (gv 7) mulW) (f2 (gv 6) (gv 9) mulW) ltI) (zad (fun _ => Res.ok (D.bl false)) lNil)))) neD)) (seqF (retF q102 (fun _ => Res.ok (D.bl false))) zak) zak) (seqF (retF q102 (vAnd (zat (zad (f2 (f2 (gv 1) (ci 0) ixA) (ci 0) ixA) lNil) [] zaL) (zat (zad (ci 0) lNil) [] zaL))) zak)))))))))))
noncomputable def zhO : List D→Res D := fun ds => outR false (zgu (zaq zev.length ds))
theorem zj2 {P : Program} {w : World} {K : PySem.W.Frag} {mg : Str→Option Value} {base : Heap} (T : Txt K mg) {fa : Addr} {fd : FuncData} (A : Fun K "law" "law" zcR fa fd) (c__law_pair : Callee P w K mg base "_law_pair" zb6 [] 2 false q101 zbm) (c_fraction : Callee P w K mg base "fraction" zbf [] 2 false q104 zau) (c__law_stands : Callee P w K mg base "_law_stands" zbH [] 3 false [.bw,.bw,.bw] zay) (c_times : Callee P w K mg base "times" zdS [] 3 false q101 zdc) (c_plus : Callee P w K mg base "plus" zfy [] 3 false q101 zed) (c_minus : Callee P w K mg base "minus" zdT [] 3 false q101 zdd) (c_less : Callee P w K mg base "less" zfz [] 1 false q101 zcX) (c__law_refused : Callee P w K mg base "_law_refused" zby [] 3 false [Md.sh] zaL) : FnOk P w K mg base CX0 4 fa fd zjg (spM K false [Md.sh] zhO) := by
  refine zgM (k := 3) (fs := zgu) (m' := q102) A zbz rfl fun cdv A outer s H g E hr => ?_
  have hu1 := zbX hr
  have hu64 := hr.units
  exact (zaa (zbw 1 zbz.nd (by rfl) (by first | exact Or.inl rfl | exact Or.inr rfl) (SO.toE (zeS (zaB (zap (dds := []) c__law_pair (hr.mono (by decide)) (m_bw (vb_ 0) (m_bw (SE.toB zag) zaJ))) (zaB (zap (dds := []) c__law_pair (hr.mono (by decide)) (m_bw (vb_ 0) (m_bw (SE.toB zag) zaJ))) zcK)))))
      (zaa (zg1 (SO.toE (zgH (X := (cxOf CX0 P w K mg base zev "law" (zac zcR) fa cdv A outer s H E).nox) (N' := ["_law_top","_law_bottom"]) (nl := 2) (cap := []) zbz.nd rfl (zdv (osc := (zac zcR)) (ON := zev) rfl rfl (by decide +kernel)) (ze5 (vb_ 1)) (fun _ _ _ _ _ _ => (ze8 rfl (zb3 (zbM 0 (show List.Nodup (["_law_top","_law_bottom"] : List Str) by decide +kernel) (by rfl) (by first | exact Or.inl rfl | exact Or.inr rfl)) (zb3 (zbM 1 (show List.Nodup (["_law_top","_law_bottom"] : List Str) by decide +kernel) (by rfl) (by first | exact Or.inl rfl | exact Or.inr rfl)) ze9)))) (zi3 (zdu (zfb (by decide)) (zdu (zfb (by decide)) zgb))) (fun _ _ _ _ _ _ => zgA) (fun _ _ _ _ _ _ => (zap (dds := []) c_fraction (hr.mono (by decide)) (m_sh (v_ 0) (m_sh (v_ 1) zaJ)))))) (ze8 rfl (zb3 (zbM 2 zbz.nd (by rfl) (by first | exact Or.inl rfl | exact Or.inr rfl)) (zb3 (zbM 3 zbz.nd (by rfl) (by first | exact Or.inl rfl | exact Or.inr rfl)) ze9))))
      (zaa (zjx PassesOwn.never rfl (zjR (SO.toE (zeS (zaB (zeH (zaB (v_ 2) (zaB (zaI hu1 (vb_ 1) (SE.toB zag)) zcK))) (zaB (zeH (zaB (v_ 3) (zaB (zaI hu1 (vb_ 1) (SE.toB zag)) zcK))) zcK))))) (ze8 rfl (zb3 (zbM 4 zbz.nd (by rfl) (by first | exact Or.inl rfl | exact Or.inr rfl)) (zb3 (zbM 5 zbz.nd (by rfl) (by first | exact Or.inl rfl | exact Or.inr rfl)) ze9))) (zaa (s_if (zcx (zco (SE.toB (zap (dds := []) c__law_stands (hr.mono (by decide)) (m_bw (vb_ 4) (m_bw (SE.toB (zaI hu1 (vb_ 5) (SE.toB zag))) (m_bw (SE.toB (zaI hu1 (vb_ 5) (SE.toB zag))) zaJ))))))) (zaa (za6 s_bl)
      zah)
      zah)
      zah))
      (zaa (zg1 (v_ 2) (ze8 rfl (zb3 (zbM 6 zbz.nd (by rfl) (by first | exact Or.inl rfl | exact Or.inr rfl)) (zb3 (zbM 7 zbz.nd (by rfl) (by first | exact Or.inl rfl | exact Or.inr rfl)) ze9))))
      (zaa (zg1 (v_ 3) (ze8 rfl (zb3 (zbM 8 zbz.nd (by rfl) (by first | exact Or.inl rfl | exact Or.inr rfl)) (zb3 (zbM 9 zbz.nd (by rfl) (by first | exact Or.inl rfl | exact Or.inr rfl)) ze9))))
      (zaa (s_if (SW.toQ (q_or (zcx (zco (SE.toB (zap (dds := []) c__law_stands (hr.mono (by decide)) (m_bw (SE.toB (zap (dds := []) c_plus (hr.mono (by decide)) (m_bw (vb_ 2) (m_bw (vb_ 3) zaJ)))) (m_bw (SE.toB (zbO (SE.toB (zav (vb_ 6) (vb_ 9))) (SE.toB (zav (vb_ 8) (vb_ 7))))) (m_bw (SE.toB (zav (vb_ 7) (vb_ 9))) zaJ))))))) (zeL (zcx (zco (SE.toB (zap (dds := []) c__law_stands (hr.mono (by decide)) (m_bw (SE.toB (zap (dds := []) c_times (hr.mono (by decide)) (m_bw (vb_ 2) (m_bw (vb_ 3) zaJ)))) (m_bw (SE.toB (zav (vb_ 6) (vb_ 8))) (m_bw (SE.toB (zav (vb_ 7) (vb_ 9))) zaJ)))))))))) (zaa (za6 s_bl)
      zah)
      zah)
      (zaa (s_if (zcx (zco (SE.toB (zap (dds := []) c__law_stands (hr.mono (by decide)) (m_bw (SE.toB (zap (dds := []) c_minus (hr.mono (by decide)) (m_bw (vb_ 2) (m_bw (vb_ 3) zaJ)))) (m_bw (SE.toB (zfL (SE.toB (zav (vb_ 6) (vb_ 9))) (SE.toB (zav (vb_ 8) (vb_ 7))))) (m_bw (SE.toB (zav (vb_ 7) (vb_ 9))) zaJ))))))) (zaa (za6 s_bl)
      zah)
      zah)
      (zaa (zbw 10 zbz.nd (by rfl) (by first | exact Or.inl rfl | exact Or.inr rfl) (SO.toE (zeS (zaB (zap (dds := []) c_less (hr.mono (by decide)) (m_bw (vb_ 2) (m_bw (vb_ 3) zaJ))) (zaB (zap (dds := []) c_less (hr.mono (by decide)) (m_bw (vb_ 3) (m_bw (vb_ 2) zaJ))) (zaB (zap (dds := []) c_less (hr.mono (by decide)) (m_bw (vb_ 2) (m_bw (vb_ 2) zaJ))) zcK))))))
      (zaa (s_if (zcx (zco (SE.toB (zjy rfl (by rfl) T.b_all (zcU (SO.toB (zgH (X := (cxOf CX0 P w K mg base zev "law" (zac zcR) fa cdv A outer s H E).nox) (N' := ["_law_truth"]) (nl := 1) (cap := []) zbz.nd rfl (zdv (osc := (zac zcR)) (ON := zev) rfl rfl (by decide +kernel)) (ze5 (vb_ 10)) (fun _ _ _ _ _ _ => (zbM 0 (show List.Nodup (["_law_truth"] : List Str) by decide +kernel) (by rfl) (by first | exact Or.inl rfl | exact Or.inr rfl))) (zfb (by decide)) (fun _ _ _ _ _ _ => zgA) (fun _ _ _ _ _ _ => (zej "bool" "bool" rfl (zc9 _) (by rfl) T.b_isinstance (by rfl) T.b_bool (vb_ 0))))) zet))))) (zaa (za6 s_bl)
      zah)
      zah)
      (zaa (s_if (q_ne hu64 (vb_ 10) (SO.toB (zeS (zaB (s_lt (SE.toB (zav (vb_ 6) (vb_ 9))) (SE.toB (zav (vb_ 8) (vb_ 7)))) (zaB (s_lt (SE.toB (zav (vb_ 8) (vb_ 7))) (SE.toB (zav (vb_ 6) (vb_ 9)))) (zaB s_bl zcK)))))) (zaa (za6 s_bl)
      zah)
      zah)
      (zaa (za6 (zek (zap (dds := []) c__law_refused (hr.mono (by decide)) (m_sh (zaI hu1 (SE.toB (zaI hu1 (vb_ 1) (SE.toB zag))) (SE.toB zag)) zaJ)) (zeI (zap (dds := []) c__law_refused (hr.mono (by decide)) (m_sh zag zaJ)))))
      zah)))))))))))
end Law
end
section
namespace Law
open PySem L2 DL
noncomputable abbrev nD (k : Nat) : D := .int (k : Int)
theorem szOk {ds : List D} (h : ds.length≤1000) : sz ds = some ds := zjs (Nat.le_trans h (by rw [sizeLine_eq]; decide))
@[simp] theorem addA_int (a b : Int) : addA (.int a) (.int b) = some (.int (a + b)) := rfl
theorem zeU {a b : Int} (h : CMul a b) : mulI (.int a) (.int b) = some (.int (a * b)) := by rw [mulI,intsC_int,if_pos h]
theorem zeX {a b : Int} (h : 0 < b) : modI (.int a) (.int b) = some (.int (a % b)) := by rw [modI,intsC_int,if_pos h]
theorem zgc {a b : Int} (h : CDiv a b) : zeq (.int a) (.int b) = some (.int (a / b)) := by rw [zeq,intsC_int,if_pos h]
theorem zal {s1 s2 : FS} {r r' : Rho} (h : s1 r = .nx r') : seqF s1 s2 r = s2 r' := by unfold seqF; rw [h]
theorem zaX {s1 s2 : FS} {r : Rho} {d : D} (h : s1 r = .rt d) : seqF s1 s2 r = .rt d := by unfold seqF; rw [h]
theorem za1 {m : List Md} {i : Nat} {f : FE} {r : Rho} {d : D} (h : f r = .ok d) : setF m i f r = .nx (r.set i (some d)) := by unfold setF; rw [h]; rfl
theorem za7 {m : List Md} {f : FE} {r : Rho} {d : D} (h : f r = .ok d) : retF m f r = .rt d := by unfold retF; rw [h]; rfl
theorem ziX {m : List Md} {p : FQ} {s1 s2 : FS} {r : Rho} {b : Bool} (h : p r = .ok b) : ifF m p s1 s2 r = if b = true then s1 r else s2 r := by unfold ifF; rw [h]; rfl
theorem if_t {m : List Md} {p : FQ} {s1 s2 : FS} {r : Rho} (h : p r = .ok true) : ifF m p s1 s2 r = s1 r := by rw [ziX h,if_pos rfl]
theorem if_f {m : List Md} {p : FQ} {s1 s2 : FS} {r : Rho} (h : p r = .ok false) : ifF m p s1 s2 r = s2 r := by rw [ziX h,if_neg Bool.false_ne_true]
theorem zd2 {fl : Rho→Res (List D)} {r : Rho} {ds : List D} (h : fl r = .ok ds) (hl : ds.length≤1000) : mkT fl r = .ok (.tup ds) := by unfold mkT; rw [h,bind_ok,szOk hl]; rfl
theorem zdo {fl : Rho→Res (List D)} {r : Rho} {ds : List D} (h : fl r = .ok ds) (hl : ds.length≤1000) : mkL fl r = .ok (.lst ds) := by unfold mkL; rw [h,bind_ok,szOk hl]; rfl
theorem zaj {fl : Rho→Res (List D)} {dds zs : List D} {F : List D→Res D} {r : Rho} {d : D} (h1 : fl r = .ok zs) (h2 : F (zs++dds) = .ok d) : zat fl dds F r = .ok d := by unfold zat; rw [h1,bind_ok,h2]; rfl
theorem zab {f f' : FE} {k : D→D→Option D} {r : Rho} {a b d : D} (h1 : f r = .ok a) (h2 : f' r = .ok b) (h3 : k a b = some d) : f2 f f' k r = .ok d := by unfold f2; rw [h1,bind_ok,h2,bind_ok,h3]; rfl
theorem zfh {fl : Rho→Res (List D)} {k : List D→Option D} {r : Rho} {ds : List D} {d : D} (h1 : fl r = .ok ds) (h2 : k ds = some d) : fC fl k r = .ok d := by unfold fC; rw [h1,bind_ok,h2]; rfl
theorem zae {f : FE} {fl : Rho→Res (List D)} {r : Rho} {d : D} {ds : List D} (h1 : f r = .ok d) (h2 : fl r = .ok ds) : zad f fl r = .ok (d::ds) := by unfold zad; rw [h1,bind_ok,h2]; rfl
theorem zao {r : Rho} : lNil r = .ok [] := rfl
theorem zaM {f : FE} {r : Rho} {b : Bool} (h : f r = .ok (.bl b)) : za4 f r = .ok b := by unfold za4; rw [h]; rfl
theorem zaY {f : FE} {r : Rho} {d : D} {b : Bool} (h : f r = .ok d) (h2 : truD d = some b) : fTru f r = .ok b := by unfold fTru; rw [h,bind_ok,h2]; rfl
theorem zbL {p : FQ} {r : Rho} {b : Bool} (h : p r = .ok b) : fNot p r = .ok (! b) := by unfold fNot; rw [h]; rfl
theorem zjZ {p q : FQ} {r : Rho} (h : p r = .ok true) : fAnd p q r = q r := by unfold fAnd; rw [h]; rfl
theorem zj0 {p q : FQ} {r : Rho} (h : p r = .ok false) : fAnd p q r = .ok false := by unfold fAnd; rw [h]; rfl
theorem or_f {p q : FQ} {r : Rho} (h : p r = .ok false) : fOr p q r = q r := by unfold fOr; rw [h]; rfl
theorem zdg {f f' : FE} {r : Rho} (h : f r = .ok (.bl true)) : vAnd f f' r = f' r := by unfold vAnd; rw [h]; rfl
theorem zeZ {m : List Md} {fi : FI} {ft : FT} {b : FS} {r : Rho} {ds : List D} (h : fi r = .ok ds) : zdK m fi ft b r = forF ft b ds r := by unfold zdK; rw [h]; rfl
theorem zhZ {f : FE} {r : Rho} {d : D} {ds : List D} (h : f r = .ok d) (h2 : zcI d = some ds) : fSeq zcI f r = .ok ds := by unfold fSeq; rw [h,bind_ok,h2]; rfl
theorem zfc {ft : FT} {b : FS} {r : Rho} : forF ft b [] r = .nx r := by unfold forF; rfl
theorem zd6 {ft : FT} {b : FS} {r r1 r' : Rho} {d : D} {ds : List D} (h1 : ft d r = some r1) (h2 : b r1 = .nx r') : forF ft b (d::ds) r = forF ft b ds r' := by
  conv => lhs; unfold forF
  simp only [h1,h2]
theorem zey {m : List Md} {p : FQ} {b : FS} {n : Nat} {r : Rho} (h : p r = .ok false) : zaW m p b (n + 1) r = .nx r := by unfold zaW; rw [h]; rfl
theorem zex {m : List Md} {p : FQ} {b : FS} {n : Nat} {r r' : Rho} (h : p r = .ok true) (h2 : b r = .nx r') : zaW m p b (n + 1) r = zaW m p b n r' := by
  conv => lhs; unfold zaW
  rw [h,onE_ok,if_pos rfl,h2]
theorem zfo {ft : FT} {q : FQ} {fe : FE} {r0 : Rho} : zcf ft q fe r0 [] = .ok [] := by unfold zcf; rfl
theorem zdw {ft : FT} {q : FQ} {fe : FE} {r0 : Rho} {α : Type} (e : α→D) (keep : α→Bool) (g : α→D) : ∀ (l : List α),(∀ a∈l,∃ r1,ft (e a) r0 = some r1∧q r1 = .ok (keep a)∧(keep a = true→fe r1 = .ok (g a)))→zcf ft q fe r0 (l.map e) = .ok ((l.filter keep).map g)
  | [],_ => zfo
  | a::l,h => by
    obtain ⟨r1,h1,h2,h3⟩ := h a List.mem_cons_self
    have ih := zdw (ft := ft) (q := q) (fe := fe) (r0 := r0) e keep g l fun b hb => h b (List.mem_cons_of_mem _ hb)
    rw [List.map_cons]
    conv => lhs; unfold zcf
    rw [h1,opt_some,bind_ok,h2,bind_ok]
    cases k : keep a with
    | true => rw [if_pos rfl,h3 k,bind_ok,ih,bind_ok,List.filter_cons,if_pos k]; rfl
    | false => rw [if_neg Bool.false_ne_true,ih,List.filter_cons,if_neg (by rw [k]; exact Bool.false_ne_true)]
theorem zhC {nl : Nat} {cap : List Nat} {fi : FI} {ft : FT} {q : FQ} {fe : FE} {r : Rho} {α : Type} {l : List α} (e : α→D) (keep : α→Bool) (g : α→D) (h1 : fi r = .ok (l.map e)) (hl : l.length≤1000)
    (h : ∀ a∈l,∃ r1,ft (e a) (capR nl cap r) = some r1∧q r1 = .ok (keep a)∧(keep a = true→fe r1 = .ok (g a))) : zdN nl cap fi ft q fe r = .ok (.lst ((l.filter keep).map g)) := by
  unfold zdN
  rw [h1,bind_ok,szOk (by simpa using hl),opt_some,bind_ok,zdw e keep g l h,noXL_ok,bind_ok]
theorem zjO (a b : Nat) : ltI (nD a) (nD b) = some (.bl (decide (a < b))) := by
  show some (D.bl (decide ((a : Int) < (b : Int)))) = _
  simp only [Int.ofNat_lt]
theorem zjS (a b : Nat) : gtI (nD a) (nD b) = some (.bl (decide (b < a))) := by
  show some (D.bl (decide ((b : Int) < (a : Int)))) = _
  simp only [Int.ofNat_lt]
theorem zhA (a b : Nat) : eqD (nD a) (nD b) = some (.bl (decide (a = b))) := by
  unfold eqD
  rw [eqB_int]
  show some (D.bl ((a : Int) == (b : Int))) = _
  have : ((a : Int) == (b : Int)) = decide (a = b) := by rw [Bool.eq_iff_iff,beq_iff_eq,decide_eq_true_iff]; exact Int.ofNat_inj
  rw [this]
theorem zjM (a b : Nat) : neD (nD a) (nD b) = some (.bl (! decide (a = b))) := by
  unfold neD
  rw [eqB_int]
  show some (D.bl (!((a : Int) == (b : Int)))) = _
  have : ((a : Int) == (b : Int)) = decide (a = b) := by rw [Bool.eq_iff_iff,beq_iff_eq,decide_eq_true_iff]; exact Int.ofNat_inj
  rw [this]
theorem zbj {B : FS} {n : Nat} {ds : List D} {d : D} (h : B (zaq n ds) = .rt d) : outR false (B (zaq n ds)) = .ok d := by rw [h]; rfl
@[simp] theorem e_seq (s1 s2 : FS) (r : Rho) : seqF s1 s2 r = (match s1 r with | .nx r' => s2 r' | o => o) := rfl
@[simp] theorem e_skip (r : Rho) : zak r = .nx r := rfl
@[simp] theorem e_set (m : List Md) (i : Nat) (f : FE) (r : Rho) : setF m i f r = onE m r (f r) fun d => .nx (r.set i (some d)) := rfl
@[simp] theorem e_ret (m : List Md) (f : FE) (r : Rho) : retF m f r = onE m r (f r) fun d => .rt d := rfl
@[simp] theorem e_if (m : List Md) (p : FQ) (s1 s2 : FS) (r : Rho) : ifF m p s1 s2 r = onE m r (p r) fun c => if c = true then s1 r else s2 r := rfl
@[simp] theorem e_getV (r : Rho) (i : Nat) : getV r i = (match r[i]? with | some (some d) => .ok d | _ => .stuck) := rfl
@[simp] theorem e_f1 (f : FE) (k : D→Option D) (r : Rho) : f1 f k r = (f r).bind fun d => opt (k d) := rfl
@[simp] theorem e_f2 (f f' : FE) (k : D→D→Option D) (r : Rho) : f2 f f' k r = (f r).bind fun a => (f' r).bind fun b => opt (k a b) := rfl
@[simp] theorem e_fC (fl : Rho→Res (List D)) (k : List D→Option D) (r : Rho) : fC fl k r = (fl r).bind fun ds => opt (k ds) := rfl
@[simp] theorem e_lN (r : Rho) : lNil r = .ok [] := rfl
@[simp] theorem e_lC (f : FE) (fl : Rho→Res (List D)) (r : Rho) : zad f fl r = (f r).bind fun d => (fl r).bind fun ds => .ok (d::ds) := rfl
@[simp] theorem e_test (f : FE) (r : Rho) : za4 f r = (f r).bind fun d => opt (asB d) := rfl
@[simp] theorem e_tru (f : FE) (r : Rho) : fTru f r = (f r).bind fun d => opt (truD d) := rfl
@[simp] theorem e_not (p : FQ) (r : Rho) : fNot p r = (p r).bind fun c => .ok (! c) := rfl
@[simp] theorem e_and (p q : FQ) (r : Rho) : fAnd p q r = (p r).bind fun c => if c = true then q r else .ok false := rfl
@[simp] theorem e_or (p q : FQ) (r : Rho) : fOr p q r = (p r).bind fun c => if c = true then .ok true else q r := rfl
@[simp] theorem e_vand (f f' : FE) (r : Rho) : vAnd f f' r = (f r).bind fun d => (opt (asB d)).bind fun c => if c = true then f' r else .ok (.bl false) := rfl
@[simp] theorem e_vor (f f' : FE) (r : Rho) : vOr f f' r = (f r).bind fun d => (opt (asB d)).bind fun c => if c = true then .ok (.bl true) else f' r := rfl
@[simp] theorem e_vnot (f : FE) (r : Rho) : vNot f r = (f r).bind fun d => (opt (asB d)).bind fun c => .ok (.bl (! c)) := rfl
@[simp] theorem e_fIf (p : FQ) (f f' : FE) (r : Rho) : fIf p f f' r = (p r).bind fun c => if c = true then f r else f' r := rfl
@[simp] theorem e_call (fl : Rho→Res (List D)) (dds : List D) (F : List D→Res D) (r : Rho) : zat fl dds F r = (fl r).bind fun ds => noX (F (ds++dds)) := rfl
@[simp] theorem e_asB (b : Bool) : asB (.bl b) = some b := rfl
@[simp] theorem e_truB (b : Bool) : truD (.bl b) = some b := rfl
@[simp] theorem e_truL (ds : List D) : truD (.lst ds) = some (! ds.isEmpty) := rfl
@[simp] theorem e_loop (m : List Md) (fi : FI) (ft : FT) (b : FS) (r : Rho) : zdK m fi ft b r = onE m r (fi r) fun ds => forF ft b ds r := rfl
@[simp] theorem e_fSeq (k : D→Option (List D)) (f : FE) (r : Rho) : fSeq k f r = (f r).bind fun d => opt (k d) := rfl
@[simp] theorem e_asL (ds : List D) : zcI (.lst ds) = some ds := rfl
@[simp] theorem e_asT (ds : List D) : zcI (.tup ds) = some ds := rfl
@[simp] theorem e_mkT (fl : Rho→Res (List D)) (r : Rho) : mkT fl r = (fl r).bind fun ds => (opt (sz ds)).bind fun ds => .ok (.tup ds) := rfl
@[simp] theorem e_mkL (fl : Rho→Res (List D)) (r : Rho) : mkL fl r = (fl r).bind fun ds => (opt (sz ds)).bind fun ds => .ok (.lst ds) := rfl
@[simp] theorem e_lenL (ds : List D) : lenD [.lst ds] = some (.int ds.length) := rfl
@[simp] theorem e_lenT (ds : List D) : lenD [.tup ds] = some (.int ds.length) := rfl
@[simp] theorem e_lenK (ds : List (Key × D)) : lenD [.dic ds] = some (.int ds.length) := rfl
@[simp] theorem e_tupL (ds : List D) : tupD [.lst ds] = some (.tup ds) := rfl
@[simp] theorem e_listL (ds : List D) : ziJ [.lst ds] = some (.lst ds) := rfl
@[simp] theorem e_listT (ds : List D) : ziJ [.tup ds] = some (.lst ds) := rfl
@[simp] theorem e_isNN : isD .non .non = some (.bl true) := rfl
@[simp] theorem e_isLN (ds : List D) : isD (.lst ds) .non = some (.bl false) := rfl
@[simp] theorem e_isn1 : isnD .non .non = some (.bl false) := rfl
@[simp] theorem e_isn2 (i : Int) : isnD (.int i) .non = some (.bl true) := rfl
@[simp] theorem e_isn3 (ds : List D) : isnD (.tup ds) .non = some (.bl true) := rfl
@[simp] theorem e_valsD (kvs : List (Key × D)) : zjk (.dic kvs) = some (.lst (kvs.map (·.2))) := rfl
theorem ziW {ds : List D} {i : Nat} {d : D} (h : ds[i]? = some d) : ixA (.tup ds) (nD i) = some d := by
  have hl : i < ds.length := (List.getElem?_eq_some_iff.mp h).1
  show atI ds (i : Int) = some d
  unfold atI ixN
  rw [if_pos (Int.natCast_nonneg i),if_pos (by omega)]
  simpa using h
theorem zen {ds : List D} {i : Nat} {d : D} (h : ds[i]? = some d) : ixA (.lst ds) (nD i) = some d := by
  have hl : i < ds.length := (List.getElem?_eq_some_iff.mp h).1
  show atI ds (i : Int) = some d
  unfold atI ixN
  rw [if_pos (Int.natCast_nonneg i),if_pos (by omega)]
  simpa using h
@[simp] theorem ixA_L0 (d : D) (ds : List D) : ixA (.lst (d::ds)) (.int 0) = some d := zen (i := 0) rfl
@[simp] theorem ixA_T0 (d : D) (ds : List D) : ixA (.tup (d::ds)) (.int 0) = some d := ziW (i := 0) rfl
end Law
end
section
namespace Law
open PySem L2 DL
theorem zd4 {α : Type} (f : α→D) (l : List α) : lenD [.lst (l.map f)] = some (nD l.length) := by
  show some (D.int ((l.map f).length : Int)) = _
  rw [List.length_map]
theorem zda (n : Nat) : eqD (nD n) (nD n) = some (.bl true) := by
  have e := zhA n n
  rw [decide_eq_true rfl] at e; exact e
noncomputable def own (owns : List (Option Nat)) (h : Nat) : Option Nat := (owns[h]?).join
end Law
end
section
namespace Law
open PySem L2 DL
structure GI (t : Nat→Nat) (kvs : List (Nat × Nat)) (L : List Nat) : Prop where
  nd : (kvs.map (·.1)).Nodup
  val : ∀ p∈kvs,p.2 = t p.1
  key : ∀ h,h∈kvs.map (·.1)↔h∈L
theorem GI.len {t : Nat→Nat} {kvs : List (Nat × Nat)} {L line : List Nat} (g : GI t kvs L) (hs : ∀ h∈L,h∈line) : kvs.length≤line.length := by
  have := Rg.zc8 (m := line) g.nd fun h hh => hs h ((g.key h).mp hh)
  simpa using this
theorem GI.mem {t : Nat→Nat} {kvs : List (Nat × Nat)} {L M : List Nat} (g : GI t kvs L) (h : ∀ x,x∈L↔x∈M) : GI t kvs M := ⟨g.nd,g.val,fun x => (g.key x).trans (h x)⟩
theorem GI.nil (t : Nat→Nat) : GI t [] [] := ⟨by simp,fun _ hp => (nomatch hp),fun h => by simp⟩
end Law
end
section
namespace Law
open PySem L2 DL
theorem zcA {a b : Nat} (h : 0 < b) : modI (nD a) (nD b) = some (nD (a % b)) := by
  rw [zeX (by omega : (0 : Int) < (b : Int))]
  show some (D.int _) = some (D.int _)
  rw [Int.natCast_emod]
theorem zff {a b : Nat} (h : 0 < b) (h2 : b < 1000) : zeq (nD a) (nD b) = some (nD (a / b)) := by
  rw [zgc (⟨by omega,by omega⟩ : CDiv (a : Int) (b : Int))]
  show some (D.int _) = some (D.int _)
  rw [Int.natCast_ediv]
theorem zeb (a b : Nat) : addA (nD a) (nD b) = some (nD (a + b)) := by
  rw [addA_int]
  show some (D.int _) = some (D.int _)
  rw [Int.natCast_add]
section
variable {f f' : FE} {r : Rho}
theorem zer {b : Int} (h : ∃ i : Int,f r = .ok (.int i)) (h' : f' r = .ok (.int b)) (hb : 0 < b) : ∃ c : Nat,f2 f f' modI r = .ok (nD c) := by
  obtain ⟨i,hi⟩ := h
  refine ⟨(i % b).toNat,zab hi h' ?_⟩
  rw [zeX hb]
  show some (D.int _) = some (D.int _)
  rw [Int.toNat_of_nonneg (Int.emod_nonneg _ (by omega))]
theorem exN (h : ∃ c : Nat,f r = .ok (nD c)) : ∃ i : Int,f r = .ok (.int i) := let ⟨c,e⟩ := h; ⟨c,e⟩
theorem zcG {b : Int} (h : ∃ i : Int,f r = .ok (.int i)) (h' : f' r = .ok (.int b)) (hb : -(2 ^ 64) < b∧b < 2 ^ 64) : ∃ i : Int,f2 f f' mulI r = .ok (.int i) := by
  obtain ⟨i,hi⟩ := h
  exact ⟨i * b,zab hi h' (zeU (.inr hb))⟩
theorem zgd (h : ∃ i : Int,f r = .ok (.int i)) (h' : ∃ i : Int,f' r = .ok (.int i)) : ∃ i : Int,f2 f f' addA r = .ok (.int i) := by
  obtain ⟨i,hi⟩ := h
  obtain ⟨j,hj⟩ := h'
  exact ⟨i + j,zab hi hj rfl⟩
end
theorem zi7 {m : List Md} {i : Nat} {f : FE} {s2 : FS} {r : Rho} (h : ∃ c : Nat,f r = .ok (nD c)) (k : ∀ c : Nat,∃ d : Nat,s2 (r.set i (some (nD c))) = .rt (nD d)) : ∃ d : Nat,seqF (setF m i f) s2 r = .rt (nD d) := by
  obtain ⟨c,hc⟩ := h
  obtain ⟨d,hd⟩ := k c
  exact ⟨d,(zal (za1 hc)).trans hd⟩
noncomputable abbrev IN (ns : List Int) : D := .lst (ns.map .int)
theorem zc5 (ns : List Int) (k : Nat) (hk : k≤1000) : ∃ c : Nat,zaH [IN ns,nD k] = .ok (nD c) := by
  suffices h : ∃ c : Nat,zbn (zaq 4 [IN ns,nD k]) = .rt (nD c) by
    obtain ⟨c,hc⟩ := h
    exact ⟨c,zbj (B := zbn) (n := 4) hc⟩
  unfold zbn
  have st : seqF (setF q103 2 (ci 0)) = seqF (setF q103 2 (fun _ => Res.ok (nD 0))) := rfl
  rw [st]
  refine zi7 ⟨0,rfl⟩ fun c1 => ?_
  show ∃ d : Nat,seqF _ _ [some (IN ns),some (nD k),some (nD c1),none] = _
  have key : ∃ c2 : Nat,(ifF q103 (za4 (f2 (gv 1) (fC (zad (gv 0) lNil) lenD) ltI)) (seqF (setF q103 2 (f2 (f2 (gv 0) (gv 1) ixA) (f2 (ci 10) (ci 60) powI) modI)) zak) zak) [some (IN ns),some (nD k),some (nD c1),none] = .nx [some (IN ns),some (nD k),some (nD c2),none] := by
    have t := zaM (zab (f := gv 1) (r := [some (IN ns),some (nD k),some (nD c1),none]) (a := nD k) rfl (zfh (zae (f := gv 0) (d := IN ns) rfl zao) (zd4 _ _)) (zjO k ns.length))
    by_cases hlt : k < ns.length
    · rw [decide_eq_true hlt] at t
      have hx : (ns.map D.int)[k]? = some (.int ns[k]) := by rw [List.getElem?_map,List.getElem?_eq_getElem hlt]; rfl
      have hp : powI (.int 10) (.int 60) = some (.int (10 ^ 60)) := by
        show zcE CPow _ _ _ = _
        rw [intsC_int,if_pos (by unfold CPow; decide)]
        rfl
      obtain ⟨c2,h2⟩ := zer (f := f2 (gv 0) (gv 1) ixA) (f' := f2 (ci 10) (ci 60) powI) (r := [some (IN ns),some (nD k),some (nD c1),none]) ⟨ns[k],zab (a := IN ns) (b := nD k) rfl rfl (zen hx)⟩ (zab rfl rfl hp) (by decide)
      exact ⟨c2,(if_t t).trans ((zal (za1 h2)).trans rfl)⟩
    · rw [decide_eq_false hlt] at t
      exact ⟨c1,(if_f t).trans rfl⟩
  obtain ⟨c2,h2⟩ := key
  rw [zal h2]
  have kq : ∃ b,(fAnd (za4 (f2 (fC (zad (gv 0) lNil) lenD) (ci 0) gtI)) (za4 (f2 (f2 (f2 (gv 0) (ci 0) ixA) (ci 2) modI) (ci 0) eqD))) [some (IN ns),some (nD k),some (nD c2),none] = .ok b := by
    have t := zaM (zab (f := fC (zad (gv 0) lNil) lenD) (f' := fun _ => Res.ok (D.int 0)) (r := [some (IN ns),some (nD k),some (nD c2),none]) (b := nD 0) (zfh (zae (d := IN ns) rfl zao) (zd4 _ _)) rfl (zjS ns.length 0))
    cases ns with
    | nil => exact ⟨false,zj0 t⟩
    | cons a ns =>
      rw [decide_eq_true (by simp)] at t
      obtain ⟨c3,h3⟩ := zer (f := f2 (gv 0) (ci 0) ixA) (f' := fun _ => Res.ok (D.int 2)) (r := [some (IN (a::ns)),some (nD k),some (nD c2),none]) ⟨a,zab (a := IN (a::ns)) (b := .int 0) rfl rfl (ixA_L0 _ _)⟩ rfl (by decide)
      exact ⟨_,(zjZ t).trans (zaM (zab h3 (b := nD 0) rfl (zhA c3 0)))⟩
  obtain ⟨b,hb⟩ := kq
  cases b with
  | true => exact ⟨c2,zaX ((if_t hb).trans (zaX (za7 (d := nD c2) rfl)))⟩
  | false =>
    rw [zal ((if_f (s2 := zak) hb).trans (e_skip _))]
    refine zi7 (zer (zcG (exN (zer (zcG (zgd (zgd (zgd ⟨(c2 : Int),rfl⟩ (zcG (b := (k : Int)) (zcG (b := (k : Int)) ⟨7,rfl⟩ rfl (by omega)) rfl (by omega))) (zcG (b := (k : Int)) ⟨13,rfl⟩ rfl (by omega))) ⟨5,rfl⟩) rfl (by decide)) rfl (by decide))) rfl (by decide)) rfl (by decide)) fun c3 => ?_
    obtain ⟨c4,h4⟩ := zer (f := (f2 (f2 (f2 (f2 (gv 3) (ci 1) addA) (ci 40692) mulI) (ci 2147483629) modI) (ci 39373) mulI)) (f' := fun _ => Res.ok (D.int 999999937)) (r := [some (IN ns),some (nD k),some (nD c2),some (nD c3)]) (zcG (exN (zer (zcG (zgd ⟨(c3 : Int),rfl⟩ ⟨1,rfl⟩) rfl (by decide)) rfl (by decide))) rfl (by decide)) rfl (by decide)
    exact ⟨c4,zaX (za7 h4)⟩
end Law
end
section
namespace Law
open PySem PyProof.Rows L2 DL
section
variable {a : Nat → Nat} {n : Nat}
end
end Law
end
section
namespace Law
open PySem PyProof.Rows L2 DL
end Law
end
section
namespace Law
open PySem PyProof.Rows L2 DL
theorem zgI (b : Int) : neD (.int b) (.int 0) = some (.bl (! decide (b = 0))) := by
  unfold neD
  rw [zce rfl]
  show some (D.bl (!(b == 0))) = _
  by_cases h : b = 0 <;> simp [h]
theorem zeW {a b : Int} (h : b≠0) : modV (.int a) (.int b) = some (.int (a.fmod b)) := by
  rw [modV,intsC_int,if_pos h]
theorem zi5 {s : Int} (hs : s = 1∨s = -1) (x y : Nat) (hy : 0 < y) : (s * (x : Int)).fmod (s * (y : Int)) = s * ((x % y : Nat) : Int) := by
  rcases hs with rfl | rfl
  · rw [Int.one_mul,Int.one_mul,Int.one_mul,Int.fmod_eq_emod_of_nonneg _ (by omega)]; rfl
  · rw [Int.neg_one_mul,Int.neg_one_mul,Int.neg_one_mul,Int.neg_fmod_neg,Int.fmod_eq_emod_of_nonneg _ (by omega)]; rfl
theorem zhx (a b : Int) (hb : b≠0) : ∃ (s : Int) (y r : Nat),(s = 1∨s = -1)∧b = s * (y : Int)∧a.fmod b = s * (r : Int)∧r < y∧Nat.gcd y r = Int.gcd a b := by
  have key : ∀ (a : Int) (y : Nat),0 < y→∃ r : Nat,a.fmod (y : Int) = (r : Int)∧r < y∧Nat.gcd y r = Int.gcd a y := by
    intro a y hy
    have h1 := Int.emod_nonneg a (show (y : Int)≠0 by omega)
    have h2 := Int.emod_lt_of_pos a (show (0 : Int) < y by omega)
    refine ⟨(a % (y : Int)).toNat,?_,by omega,?_⟩
    · rw [Int.fmod_eq_emod_of_nonneg _ (by omega),Int.toNat_of_nonneg h1]
    · have e := Fq.gcd_step a y
      rw [e]
      unfold Int.gcd
      congr 1
      omega
  rcases Int.lt_or_gt_of_ne hb with h | h
  · obtain ⟨r,r1,r2,r3⟩ := key (-a) (-b).toNat (by omega)
    have hy : (((-b).toNat : Nat) : Int) = -b := by omega
    rw [hy] at r1 r3
    refine ⟨-1,(-b).toNat,r,.inr rfl,by omega,?_,r2,?_⟩
    · have := Int.neg_fmod_neg (-a) (-b)
      rw [Int.neg_neg,Int.neg_neg] at this
      rw [this,r1,Int.neg_one_mul]
    · rw [r3,Int.gcd_neg,Int.neg_gcd]
  · obtain ⟨r,r1,r2,r3⟩ := key a b.toNat (by omega)
    have hy : ((b.toNat : Nat) : Int) = b := by omega
    rw [hy] at r1 r3
    exact ⟨1,b.toNat,r,.inl rfl,by omega,by rw [r1,Int.one_mul],r2,r3⟩
section
variable {m : List Md} {Q : FQ} {L : FS} (hq : ∀ (a b : Int) (x : Option D), Q [some (.int a), some (.int b), x] = .ok (! decide (b = 0))) (hl : ∀ (a b : Int) (x : Option D), b ≠ 0 → L [some (.int a), some (.int b), x] = .nx [some (.int b), some (.int (a.fmod b)), some (.int (a.fmod b))])
include hq hl
theorem ze7 {s : Int} (hs : s = 1∨s = -1) : ∀ (k n : Nat) (x y : Nat) (z : Option D),y < 2 ^ k→2 * k + 1≤n →
    ∃ (a' : Int) (z' : Option D),zaW m Q L n [some (.int (s * (x : Int))),some (.int (s * (y : Int))),z] = .nx [some (.int a'),some (.int 0),z']∧a'.natAbs = Nat.gcd x y := by
  have hs0 : s≠0 := by rcases hs with rfl | rfl <;> decide
  have hsa : ∀ x : Nat,(s * (x : Int)).natAbs = x := fun x => by rcases hs with rfl | rfl <;> omega
  have z0 : ∀ (n x : Nat) (z : Option D),1≤n→∃ (a' : Int) (z' : Option D),zaW m Q L n [some (.int (s * (x : Int))),some (.int (s * ((0 : Nat) : Int))),z] = .nx [some (.int a'),some (.int 0),z']∧a'.natAbs = Nat.gcd x 0 := by
    intro n x z hn
    obtain ⟨n,rfl⟩ : ∃ k,n = k + 1 := ⟨n - 1,by omega⟩
    refine ⟨s * x,z,?_,by rw [hsa]; simp⟩
    rw [show s * ((0 : Nat) : Int) = 0 by simp]
    refine zey ?_
    rw [hq]; rfl
  have st : ∀ (n x y : Nat) (z : Option D),0 < y→zaW m Q L (n + 1) [some (.int (s * (x : Int))),some (.int (s * (y : Int))),z] = zaW m Q L n [some (.int (s * (y : Int))),some (.int (s * ((x % y : Nat) : Int))),some (.int (s * ((x % y : Nat) : Int)))] := by
    intro n x y z hy
    have hb : s * (y : Int)≠0 := by
      intro e
      have := hsa y
      rw [e] at this
      simp at this
      omega
    refine zex ?_ ?_
    · rw [hq,decide_eq_false hb]; rfl
    · rw [hl _ _ _ hb,zi5 hs x y hy]
  intro k
  induction k with
  | zero =>
    intro n x y z hy hn
    have : y = 0 := by
      have : (2 : Nat) ^ 0 = 1 := rfl
      omega
    subst this
    exact z0 n x z (by omega)
  | succ k ih =>
    intro n x y z hy hn
    by_cases h0 : y = 0
    · subst h0; exact z0 n x z (by omega)
    · have hyp : 0 < y := by omega
      obtain ⟨n,rfl⟩ : ∃ j,n = j + 2 := ⟨n - 2,by omega⟩
      rw [st (n + 1) x y z hyp]
      by_cases h1 : x % y = 0
      · obtain ⟨a',z',e1,e2⟩ := z0 (n + 1) y (some (.int (s * ((x % y : Nat) : Int)))) (by omega)
        rw [h1] at e1 ⊢
        exact ⟨a',z',e1,by rw [e2,Nat.gcd_comm x y,Nat.gcd_rec y x,h1]; simp⟩
      · have hr : 0 < x % y := by omega
        have hlt := Nat.mod_lt x hyp
        rw [st n y (x % y) _ hr]
        have hhalf : y % (x % y) < 2 ^ k := by
          have h2 := Nat.mod_lt y hr
          have h3 : x % y + y % (x % y)≤y := by
            have := Nat.div_add_mod y (x % y)
            have h4 : 1≤y / (x % y) := Nat.div_pos (by omega) hr
            have h5 : x % y * 1≤x % y * (y / (x % y)) := Nat.mul_le_mul_left _ h4
            omega
          have h6 : 2 ^ (k + 1) = 2 * 2 ^ k := by rw [Nat.pow_succ]; omega
          omega
        obtain ⟨a',z',e1,e2⟩ := ih n (x % y) (y % (x % y)) (some (.int (s * ((y % (x % y) : Nat) : Int)))) hhalf (by omega)
        refine ⟨a',z',e1,?_⟩
        rw [e2,Nat.gcd_comm x y,Nat.gcd_rec y x,Nat.gcd_rec (x % y) y,Nat.gcd_comm (y % (x % y))]
end
end Law
end
section
namespace Law
open PySem PyProof.Rows L2 DL
theorem zds {m : List Md} {Q : FQ} {L : FS} (hq : ∀ (a b : Int) (x : Option D),Q [some (.int a),some (.int b),x] = .ok (! decide (b = 0))) (hl : ∀ (a b : Int) (x : Option D),b≠0→L [some (.int a),some (.int b),x] = .nx [some (.int b),some (.int (a.fmod b)),some (.int (a.fmod b))])
    {k : Nat} (a b : Int) (z : Option D) (hb : b.natAbs < 2 ^ k) (hk : k≤498) : ∃ (a' : Int) (z' : Option D),zaW m Q L 1000 [some (.int a),some (.int b),z] = .nx [some (.int a'),some (.int 0),z']∧a'.natAbs = Int.gcd a b := by
  by_cases h0 : b = 0
  · subst h0
    refine ⟨a,z,zey ?_,by simp⟩
    rw [hq]; rfl
  · obtain ⟨s,y,r,hs,e1,e2,e3,e4⟩ := zhx a b h0
    have hy : y < 2 ^ k := by
      have : b.natAbs = y := by rw [e1]; rcases hs with rfl | rfl <;> omega
      omega
    obtain ⟨a',z',w1,w2⟩ := ze7 (m := m) hq hl hs k 999 y r (some (.int (a.fmod b))) (by omega) (by omega)
    refine ⟨a',z',(zex ?_ (hl a b z h0)).trans ?_,by rw [w2,e4]⟩
    · rw [hq,decide_eq_false h0]; rfl
    · rw [e2] at w1 ⊢
      rw [e1]
      exact w1
theorem zfv (a : Int) : absD [.int a] = some (nD a.natAbs) := by
  show some (D.int _) = some (D.int _)
  congr 2
  omega
theorem zh9 {a b : Int} {k : Nat} (hb : b.natAbs < 2 ^ k) (hk : k≤498) : zan [.int a,.int b] = .ok (nD (Int.gcd a b)) := by
  obtain ⟨a',z',h1,h2⟩ := zds (m := q0) (Q := za8) (L := za9) (fun a b x => zaM (zab (a := .int b) (b := .int 0) rfl rfl (zgI b)))
    (fun a b x h => (zal (za1 (zab (a := .int a) (b := .int b) rfl rfl (zeW h)))).trans ((zal (za1 (d := .int b) rfl)).trans (zal (za1 (d := .int (a.fmod b)) rfl)))) a b none hb hk
  refine zbj (B := zaE) (n := 3) ?_
  unfold zaE
  refine (zal h1).trans ?_
  refine zaX (za7 (zfh (zae (d := .int a') rfl zao) ?_))
  rw [zfv,h2]
theorem zdF {a b : Int} {k : Nat} (hb : b.natAbs < 2 ^ k) (hk : k≤498) : zbb [.int a,.int b] = .ok (nD (Int.gcd a b)) := by
  obtain ⟨a',z',h1,h2⟩ := zds (m := q0) (Q := zbR) (L := zbT) (fun a b x => zaM (zab (a := .int b) (b := .int 0) rfl rfl (zgI b)))
    (fun a b x h => (zal (za1 (zab (a := .int a) (b := .int b) rfl rfl (zeW h)))).trans ((zal (za1 (d := .int b) rfl)).trans (zal (za1 (d := .int (a.fmod b)) rfl)))) a b none hb hk
  refine zbj (B := zbd) (n := 3) ?_
  unfold zbd
  refine (zal h1).trans ?_
  refine zaX (za7 (zfh (zae (d := .int a') rfl zao) ?_))
  rw [zfv,h2]
theorem zdD {s1 s2 : FS} {r r' : Rho} {x : D} (h : s1 r = .exc x r') : seqF s1 s2 r = .exc x r' := by unfold seqF; rw [h]
theorem zcb (t : Int) : zaO [.int t] = .ok (.bl true) := rfl
theorem zia (t : Int) : zaG [.int t,.int 0] = .exc (xD "NoFraction" []) := by
  have h : za5 [some (.int t),some (.int 0),none] = .exc (xD "NoFraction" []) [some (.int t),some (.int 0),none] := by
    unfold za5
    refine zdD ((if_t ?_).trans (zdD ?_))
    · rw [or_f (zbL (b := true) (zaY (zaj (zae (d := .int t) rfl zao) (zcb t)) rfl)),or_f (zbL (b := true) (zaY (zaj (zae (d := .int 0) rfl zao) (zcb 0)) rfl))]
      exact zaM (zab (a := .int 0) (b := .int 0) rfl rfl (zda _))
    · unfold raiF
      rw [zae (d := .str _) rfl zao,onE_ok]
      rfl
  show outR false (za5 [some (.int t),some (.int 0),none]) = _
  rw [h]; rfl
theorem zcw (t : Int) : zaL [.int t] = .ok (.bl true) := by
  refine zbj (B := za0) (n := 3) ?_
  unfold za0
  refine (zal (za1 (d := .non) rfl)).trans ?_
  have hb : (seqF (zfi q0 (zdb (zad (gv 0) (zad (ci 0) lNil)) [] zaG)) zak) [some (.int t),some .non,none] = .exc (xD "NoFraction" []) [some (.int t),some .non,none] := by
    refine zdD ?_
    unfold zfi zdb
    rw [zae (d := .int t) rfl (zae (d := .int 0) rfl zao),bind_ok]
    show onE _ _ (zaG [.int t,.int 0]) _ = _
    rw [zia]; rfl
  refine (zal (r' := [some (.int t),some (xD "NoFraction" []),none]) ?_).trans ?_
  · unfold tryF
    show (match (seqF (zfi q0 (zdb (zad (gv 0) (zad (ci 0) lNil)) [] zaG)) zak) [some (.int t),some .non,none] with
      | .nx r' => Out.nx (forget q0 r')
      | .rt d => .rt d
      | .exc x r' => _
      | _ => .stuck) = _
    rw [hb]
    rfl
  refine zaX (za7 ?_)
  rw [zdg (by rfl),zdg (by rfl)]
  rfl
end Law
end
section
set_option exponentiation.threshold 3000
namespace Law
open PySem PyProof.Rows L2 DL
theorem zd8 {a b : Int} {k : Nat} (h0 : b≠0) (h1 : b.natAbs < 2 ^ k) (hk : k≤2000) : zdM (.int a) (.int b) = some (.int (a.fdiv b)) := by
  rw [zdM,intsC_int,if_pos ⟨h0,Nat.lt_of_lt_of_le h1 (by show _≤2 ^ 2000; exact Nat.pow_le_pow_right (by omega) hk)⟩]
theorem zeY (a b : Int) : ltI (.int a) (.int b) = some (.bl (decide (a < b))) := rfl
structure Lo (t b p q : Int) : Prop where
  pos : 0 < q
  gcd : Int.gcd p q = 1
  eq : p * b = t * q
  top : p.natAbs≤t.natAbs
  bot : q.natAbs≤b.natAbs
theorem zjP {t b d : Int} (hb : b≠0) (hd : d.natAbs = Int.gcd t b) (hs : (d < 0↔b < 0)) : Lo t b (t.fdiv d) (b.fdiv d) := by
  have hg : 0 < Int.gcd t b := Nat.pos_of_ne_zero fun z => hb (Int.gcd_eq_zero_iff.mp z).2
  have hd0 : d≠0 := by intro e; rw [e] at hd; simp at hd; omega
  have hdt : d ∣ t := by rw [← Int.natAbs_dvd,hd]; exact Int.gcd_dvd_left _ _
  have hdb : d ∣ b := by rw [← Int.natAbs_dvd,hd]; exact Int.gcd_dvd_right _ _
  obtain ⟨p,rfl⟩ := hdt
  obtain ⟨q,rfl⟩ := hdb
  rw [Int.mul_fdiv_cancel_left _ hd0,Int.mul_fdiv_cancel_left _ hd0]
  have hq0 : q≠0 := fun e => hb (by rw [e,Int.mul_zero])
  have hdn : 0 < d.natAbs := by omega
  refine ⟨?_,?_,by rw [Int.mul_left_comm,Int.mul_assoc],?_,?_⟩
  · rcases Int.lt_trichotomy q 0 with h | h | h
    · rcases Int.lt_or_gt_of_ne hd0 with h2 | h2
      · have := Int.mul_pos_of_neg_of_neg h2 h
        have := hs.mp h2
        omega
      · have := Int.mul_neg_of_pos_of_neg h2 h
        have := hs.mpr this
        omega
    · exact absurd h hq0
    · exact h
  · rw [Int.gcd_mul_left] at hd
    have : d.natAbs * 1 = d.natAbs * Int.gcd p q := by omega
    exact (Nat.eq_of_mul_eq_mul_left hdn this).symm
  · rw [Int.natAbs_mul]; exact Nat.le_mul_of_pos_left _ hdn
  · rw [Int.natAbs_mul]; exact Nat.le_mul_of_pos_left _ hdn
theorem za3 {t b : Int} {k : Nat} (hb0 : b≠0) (hb : b.natAbs < 2 ^ k) (hk : k≤498) : ∃ p q : Int,zau [.int t,.int b] = .ok (.tup [.int p,.int q])∧Lo t b p q := by
  have hg : Int.gcd t b < 2 ^ k := by
    have h1 : Int.gcd t b ∣ b.natAbs := Int.gcd_dvd_natAbs_right _ _
    exact Nat.lt_of_le_of_lt (Nat.le_of_dvd (by omega) h1) hb
  have hgp : 0 < Int.gcd t b := Nat.pos_of_ne_zero fun z => hb0 (Int.gcd_eq_zero_iff.mp z).2
  generalize hd : (if b < 0 then -((Int.gcd t b : Nat) : Int) else ((Int.gcd t b : Nat) : Int)) = d
  have hda : d.natAbs = Int.gcd t b := by rw [← hd]; split <;> omega
  have hds : d < 0↔b < 0 := by rw [← hd]; split <;> omega
  refine ⟨_,_,?_,zjP hb0 hda hds⟩
  refine zbj (B := zbW) (n := 3) ?_
  unfold zbW
  refine (zal ((if_f ?_).trans (e_skip _))).trans ?_
  · rw [or_f (zbL (b := true) (zaY (zaj (zae (d := .int t) rfl zao) (zcb t)) rfl)),or_f (zbL (b := true) (zaY (zaj (zae (d := .int b) rfl zao) (zcb b)) rfl))]
    refine zaM (zab (a := .int b) (b := .int 0) rfl rfl (d := .bl false) ?_)
    unfold eqD
    rw [zce rfl]
    show some (D.bl (b == 0)) = _
    rw [beq_eq_false_iff_ne.mpr hb0]
  refine (zal (za1 (d := nD (Int.gcd t b)) (zaj (zae (d := .int t) rfl (zae (d := .int b) rfl zao)) (zh9 hb hk)))).trans ?_
  refine (zal (r' := [some (.int t),some (.int b),some (.int d)]) ?_).trans ?_
  · by_cases h : b < 0
    · refine (if_t (zaM (zab (a := .int b) (b := .int 0) rfl rfl (by rw [zeY,decide_eq_true h])))).trans (zal (za1 (d := .int d) ?_))
      rw [if_pos h] at hd
      unfold f1
      rw [← hd]; rfl
    · refine (if_f (zaM (zab (a := .int b) (b := .int 0) rfl rfl (by rw [zeY,decide_eq_false h])))).trans ?_
      rw [if_neg h] at hd
      rw [← hd]; rfl
  have hd0 : d≠0 := by omega
  exact zaX (za7 (zd2 (zae (zab (a := .int t) (b := .int d) rfl rfl (zd8 hd0 (by rw [hda]; exact hg) (by omega))) (zae (zab (a := .int b) (b := .int d) rfl rfl (zd8 hd0 (by rw [hda]; exact hg) (by omega))) zao)) (by simp)))
end Law
end
section
set_option exponentiation.threshold 3000
namespace Law
open PySem PyProof.Rows L2 DL
theorem zgC {a : Int} {b : Nat} (h : a.natAbs < 2 ^ 64) (hb : b≤1000) : powI (.int a) (nD b) = some (.int (a ^ b)) := by
  have hc : CPow a (b : Int) := ⟨by omega,by omega,h⟩
  rw [powI,intsC_int,if_pos hc,Int.toNat_natCast]
theorem zcS (c : Nat) : ∃ v : Int,zaU [nD c] = .ok (.int v)∧v.natAbs≤10 ^ 25 := by
  by_cases h : c % 3 = 0
  · refine ⟨((c / 3 % 41 : Nat) : Int) - 20,zbj (B := zaK) (n := 1) ?_,?_⟩
    · unfold zaK
      refine zaX ((if_t (zaM (zab (a := nD (c % 3)) (b := nD 0) (zab (a := nD c) (b := nD 3) rfl rfl (zcA (by omega))) rfl (by rw [h]; exact zda _)))).trans (zaX (za7 (zab (a := nD (c / 3 % 41)) (b := .int 20) (zab (a := nD (c / 3)) (b := nD 41) (zab (a := nD c) (b := nD 3) rfl rfl (zff (by omega) (by omega))) rfl (zcA (by omega))) rfl rfl))))
    · have := Nat.mod_lt (c / 3) (show 0 < 41 by omega)
      omega
  · refine ⟨((c / 3 % (2 * 10 ^ 25) : Nat) : Int) - 10 ^ 25,zbj (B := zaK) (n := 1) ?_,?_⟩
    · unfold zaK
      refine (zal ((if_f (zaM (zab (a := nD (c % 3)) (b := nD 0) (zab (a := nD c) (b := nD 3) rfl rfl (zcA (by omega))) rfl (d := .bl false) ?_))).trans (e_skip _))).trans ?_
      · rw [zhA,decide_eq_false h]
      have p25 : (f2 (ci 10) (ci 25) powI) [some (nD c)] = .ok (.int (10 ^ 25)) := zab (a := .int 10) (b := nD 25) rfl rfl (zgC (by decide) (by omega))
      refine zaX (za7 (zab (a := nD (c / 3 % (2 * 10 ^ 25))) (b := .int (10 ^ 25)) (zab (a := nD (c / 3)) (b := nD (2 * 10 ^ 25)) (zab (a := nD c) (b := nD 3) rfl rfl (zff (by omega) (by omega))) (zab (a := .int 2) (b := .int (10 ^ 25)) rfl p25 (zeU (.inl ⟨by decide,by decide⟩))) (zcA (by decide))) p25 rfl))
    · have := Nat.mod_lt (c / 3) (show 0 < 2 * 10 ^ 25 by decide)
      omega
end Law
end
section
set_option exponentiation.threshold 3000
namespace Law
open PySem PyProof.Rows L2 DL
theorem zaz {a b : Int} {k l : Nat} (h1 : a.natAbs < 2 ^ k) (h2 : b.natAbs < 2 ^ l) (hk : k≤2000) (hl : l≤2000) : mulW (.int a) (.int b) = some (.int (a * b)) := by
  have e : ∀ {n k : Nat},n < 2 ^ k→k≤2000→n < BIG := fun h hk => Nat.lt_of_lt_of_le h (by show _≤2 ^ 2000; exact Nat.pow_le_pow_right (by omega) hk)
  have hc : zdU a b := ⟨e h1 hk,e h2 hl⟩
  rw [mulW,intsC_int,if_pos hc]
theorem zcc {a b : Int} {k l : Nat} (h1 : a.natAbs < 2 ^ k) (h2 : b.natAbs < 2 ^ l) : (a * b).natAbs < 2 ^ (k + l) := by
  rw [Int.natAbs_mul,Nat.pow_add]
  exact Nat.mul_lt_mul'' h1 h2
theorem zdZ (ns : List Int) (k : Nat) (hk : k≤900) : ∃ t b : Int,zbm [IN ns,nD k] = .ok (.tup [.int t,.int b])∧b≠0∧t.natAbs < 2 ^ 200∧b.natAbs < 2 ^ 200 := by
  obtain ⟨c0,h0⟩ := zc5 ns k (by omega)
  obtain ⟨c1,h1⟩ := zc5 ns (k + 1) (by omega)
  obtain ⟨c2,h2⟩ := zc5 ns (k + 2) (by omega)
  obtain ⟨v,hv,bv⟩ := zcS c0
  obtain ⟨w,hw,bw⟩ := zcS c1
  have l25 : (10 : Nat) ^ 25 < 2 ^ 90 := by decide
  have l30 : (10 : Nat) ^ 30 < 2 ^ 105 := by decide
  generalize hb' : (if w = 0 then 1 + ((c0 % 7 : Nat) : Int) else w) = b
  have hb0 : b≠0 := by rw [← hb']; split <;> omega
  have hbb : b.natAbs < 2 ^ 90 := by rw [← hb']; split <;> omega
  obtain ⟨m,hm,hm0,hm1⟩ : ∃ m : Nat,([D.int 1,D.int 30,D.int (10 ^ 30)] : List D)[c1 % 3]? = some (nD m)∧0 < m∧m≤10 ^ 30 := by
    have := Nat.mod_lt c1 (show 0 < 3 by omega)
    rcases (show c1 % 3 = 0∨c1 % 3 = 1∨c1 % 3 = 2 by omega) with e | e | e <;> rw [e]
    · exact ⟨1,rfl,by omega,by decide⟩
    · exact ⟨30,rfl,by omega,by decide⟩
    · exact ⟨10 ^ 30,rfl,by decide,by omega⟩
  generalize hby : 1 + c2 % m = by'
  have hy0 : 0 < by' := by omega
  have hy1 : by' < 2 ^ 106 := by
    have := Nat.mod_lt c2 hm0
    have e : (2 : Nat) ^ 106 = 2 * 2 ^ 105 := by decide
    omega
  refine ⟨v * by',b * by',zbj (B := zbK) (n := 5) ?_,?_,?_,?_⟩
  · unfold zbK
    refine (zal (za1 (d := .int v) (zaj (zae (zaj (zae (d := IN ns) rfl (zae (d := nD k) rfl zao)) h0) zao) hv))).trans ?_
    refine (zal (za1 (d := .int w) (zaj (zae (zaj (zae (d := IN ns) rfl (zae (zab (a := nD k) (b := nD 1) rfl rfl (zeb k 1)) zao)) h1) zao) hw))).trans ?_
    refine (zal (r' := [some (IN ns),some (nD k),some (.int v),some (.int b),none]) ?_).trans ?_
    · have he : eqD (.int w) (.int 0) = some (.bl (decide (w = 0))) := by
        unfold eqD
        rw [zce rfl]
        show some (D.bl (w == 0)) = _
        by_cases h : w = 0 <;> simp [h]
      by_cases h : w = 0
      · rw [decide_eq_true h] at he
        rw [if_pos h] at hb'
        refine (if_t (zaM (zab (a := .int w) (b := .int 0) rfl rfl he))).trans (zal (za1 (d := .int b) ?_))
        rw [← hb']
        exact zab (a := .int 1) (b := nD (c0 % 7)) rfl (zab (a := nD c0) (b := nD 7) (zaj (zae (d := IN ns) rfl (zae (d := nD k) rfl zao)) h0) rfl (zcA (by omega))) rfl
      · rw [decide_eq_false h] at he
        rw [if_neg h] at hb'
        subst hb'
        exact (if_f (zaM (zab (a := .int w) (b := .int 0) rfl rfl he))).trans rfl
    refine (zal (za1 (d := nD by') ?_)).trans ?_
    · rw [← hby]
      refine zab (a := nD 1) (b := nD (c2 % m)) rfl (zab (a := nD c2) (b := nD m) (zaj (zae (d := IN ns) rfl (zae (zab (a := nD k) (b := nD 2) rfl rfl (zeb k 2)) zao)) h2) (zab (a := .lst [D.int 1,D.int 30,D.int (10 ^ 30)]) (b := nD (c1 % 3)) (zdo (zae (d := .int 1) rfl (zae (d := .int 30) rfl (zae (zab (a := .int 10) (b := nD 30) rfl rfl (zgC (by decide) (by omega))) zao))) (by simp)) (zab (a := nD c1) (b := nD 3) (zaj (zae (d := IN ns) rfl (zae (zab (a := nD k) (b := nD 1) rfl rfl (zeb k 1)) zao)) h1) rfl (zcA (by omega))) (zen hm)) (zcA hm0)) (zeb 1 (c2 % m))
    exact zaX (za7 (zd2 (zae (zab (a := .int v) (b := nD by') rfl rfl (zaz (k := 90) (l := 106) (by omega) (by rw [Int.natAbs_natCast]; exact hy1) (by omega) (by omega))) (zae (zab (a := .int b) (b := nD by') rfl rfl (zaz (k := 90) (l := 106) hbb (by rw [Int.natAbs_natCast]; exact hy1) (by omega) (by omega))) zao)) (by simp)))
  · exact Int.mul_ne_zero hb0 (by omega)
  · have := zcc (a := v) (b := (by' : Int)) (k := 90) (l := 106) (by omega) (by rw [Int.natAbs_natCast]; exact hy1)
    exact Nat.lt_of_lt_of_le this (Nat.pow_le_pow_right (by omega) (by omega))
  · have := zcc (a := b) (b := (by' : Int)) (k := 90) (l := 106) hbb (by rw [Int.natAbs_natCast]; exact hy1)
    exact Nat.lt_of_lt_of_le this (Nat.pow_le_pow_right (by omega) (by omega))
end Law
end
section
set_option exponentiation.threshold 3000
namespace Law
open PySem PyProof.Rows L2 DL
noncomputable abbrev FI (p q : Int) : D := .tup [.int p,.int q]
theorem zjW (a b : Int) : eqD (.int a) (.int b) = some (.bl (decide (a = b))) := by
  unfold eqD
  rw [zce rfl]
  show some (D.bl (a == b)) = _
  by_cases h : a = b <;> simp [h]
theorem ix0 (p q : Int) : ixA (FI p q) (.int 0) = some (.int p) := ixA_T0 _ _
theorem ix1 (p q : Int) : ixA (FI p q) (.int 1) = some (.int q) := ziW (i := 1) rfl
theorem zg2 {p q : Int} {k : Nat} (h0 : 0 < q) (hg : Int.gcd p q = 1) (hq : q.natAbs < 2 ^ k) (hk : k≤498) : zaD [FI p q] = .ok (.bl true) := by
  refine zbj (B := zaF) (n := 2) ?_
  unfold zaF
  refine (zal ((if_f ?_).trans (e_skip _))).trans ?_
  · rw [or_f (zbL (b := true) (zaY (d := .bl true) rfl rfl))]
    exact zaM (zab (b := nD 2) (zfh (zae (d := FI p q) rfl zao) (show lenD [FI p q] = some (nD 2) from rfl)) rfl (zjM 2 2))
  have st : ∀ (i : Int) (x : D),zba [some x,some (.int i)] = .nx [some x,some (.int i)] := fun i x => by
    refine zal ((if_f ?_).trans (e_skip _))
    rw [or_f (zbL (b := true) (zaY (d := .bl true) rfl rfl))]
    exact zaY (d := .bl false) rfl rfl
  refine (zal (r' := [some (FI p q),some (.int q)]) ((zeZ (ds := [.int p,.int q]) rfl).trans ((zd6 (r1 := [some (FI p q),some (.int p)]) rfl (st p _)).trans ((zd6 (r1 := [some (FI p q),some (.int q)]) rfl (st q _)).trans zfc)))).trans ?_
  refine zaX (za7 ?_)
  rw [zdg (zab (a := .int q) (b := .int 0) (zab (a := FI p q) (b := .int 1) rfl rfl (ix1 p q)) rfl (show gtI (.int q) (.int 0) = some (.bl true) by show some (D.bl (decide ((0 : Int) < q))) = _; rw [decide_eq_true h0]))]
  refine zab (a := nD (Int.gcd p q)) (b := nD 1) (zaj (zae (zab (a := FI p q) (b := .int 0) rfl rfl (ix0 p q)) (zae (zab (a := FI p q) (b := .int 1) rfl rfl (ix1 p q)) zao)) (zdF hq hk)) rfl ?_
  rw [hg]; exact zda _
theorem zbA {p q t b : Int} {k : Nat} (l : Lo t b p q) (ht : t.natAbs < 2 ^ k) (hb : b.natAbs < 2 ^ k) (hk : k≤498) : zay [FI p q,.int t,.int b] = .ok (.bl true) := by
  refine zbj (B := zbc) (n := 3) ?_
  unfold zbc
  have hq : q.natAbs < 2 ^ k := Nat.lt_of_le_of_lt l.bot hb
  have hp : p.natAbs < 2 ^ k := Nat.lt_of_le_of_lt l.top ht
  refine zaX (za7 ?_)
  rw [zdg (zaj (zae (d := FI p q) rfl zao) (zg2 l.pos l.gcd hq hk))]
  refine zab (a := .int (p * b)) (b := .int (t * q)) (zab (a := .int p) (b := .int b) (zab (a := FI p q) (b := .int 0) rfl rfl (ix0 p q)) rfl (zaz hp hb (by omega) (by omega))) (zab (a := .int t) (b := .int q) rfl (zab (a := FI p q) (b := .int 1) rfl rfl (ix1 p q)) (zaz ht hq (by omega) (by omega))) ?_
  rw [zjW,decide_eq_true l.eq]
end Law
end
section
set_option exponentiation.threshold 3000
namespace Law
open PySem PyProof.Rows L2 DL
section
variable {a b c d : Int} (ha : a.natAbs < 2 ^ 200) (hb : b.natAbs < 2 ^ 200) (hc : c.natAbs < 2 ^ 200) (hd : d.natAbs < 2 ^ 200) (b0 : 0 < b) (d0 : 0 < d)
include ha hb hc hd b0 d0
theorem zfN : ∃ p q : Int,zed [FI a b,FI c d] = .ok (FI p q)∧Lo (a * d + c * b) (b * d) p q := by
  obtain ⟨p,q,h1,h2⟩ := za3 (t := a * d + c * b) (b := b * d) (k := 400) (Int.mul_ne_zero (by omega) (by omega)) (zcc hb hd) (by omega)
  refine ⟨p,q,zbj (B := zee) (n := 2) ?_,h2⟩
  unfold zee
  exact zaX (za7 (zaj (zae (zab (a := .int (a * d)) (b := .int (c * b)) (zab (zab (a := FI a b) (b := .int 0) rfl rfl (ix0 a b)) (zab (a := FI c d) (b := .int 1) rfl rfl (ix1 c d)) (zaz ha hd (by omega) (by omega))) (zab (zab (a := FI c d) (b := .int 0) rfl rfl (ix0 c d)) (zab (a := FI a b) (b := .int 1) rfl rfl (ix1 a b)) (zaz hc hb (by omega) (by omega))) rfl) (zae (zab (zab (a := FI a b) (b := .int 1) rfl rfl (ix1 a b)) (zab (a := FI c d) (b := .int 1) rfl rfl (ix1 c d)) (zaz hb hd (by omega) (by omega))) zao)) h1))
theorem zeK : ∃ p q : Int,zdd [FI a b,FI c d] = .ok (FI p q)∧Lo (a * d - c * b) (b * d) p q := by
  obtain ⟨p,q,h1,h2⟩ := za3 (t := a * d - c * b) (b := b * d) (k := 400) (Int.mul_ne_zero (by omega) (by omega)) (zcc hb hd) (by omega)
  refine ⟨p,q,zbj (B := zdf) (n := 2) ?_,h2⟩
  unfold zdf
  exact zaX (za7 (zaj (zae (zab (a := .int (a * d)) (b := .int (c * b)) (zab (zab (a := FI a b) (b := .int 0) rfl rfl (ix0 a b)) (zab (a := FI c d) (b := .int 1) rfl rfl (ix1 c d)) (zaz ha hd (by omega) (by omega))) (zab (zab (a := FI c d) (b := .int 0) rfl rfl (ix0 c d)) (zab (a := FI a b) (b := .int 1) rfl rfl (ix1 a b)) (zaz hc hb (by omega) (by omega))) rfl) (zae (zab (zab (a := FI a b) (b := .int 1) rfl rfl (ix1 a b)) (zab (a := FI c d) (b := .int 1) rfl rfl (ix1 c d)) (zaz hb hd (by omega) (by omega))) zao)) h1))
theorem zeJ : ∃ p q : Int,zdc [FI a b,FI c d] = .ok (FI p q)∧Lo (a * c) (b * d) p q := by
  obtain ⟨p,q,h1,h2⟩ := za3 (t := a * c) (b := b * d) (k := 400) (Int.mul_ne_zero (by omega) (by omega)) (zcc hb hd) (by omega)
  refine ⟨p,q,zbj (B := zde) (n := 2) ?_,h2⟩
  unfold zde
  exact zaX (za7 (zaj (zae (zab (zab (a := FI a b) (b := .int 0) rfl rfl (ix0 a b)) (zab (a := FI c d) (b := .int 0) rfl rfl (ix0 c d)) (zaz ha hc (by omega) (by omega))) (zae (zab (zab (a := FI a b) (b := .int 1) rfl rfl (ix1 a b)) (zab (a := FI c d) (b := .int 1) rfl rfl (ix1 c d)) (zaz hb hd (by omega) (by omega))) zao)) h1))
theorem zc4 : zcX [FI a b,FI c d] = .ok (.bl (decide (a * d < c * b))) := by
  refine zbj (B := zef) (n := 2) ?_
  unfold zef
  exact zaX (za7 (zab (a := .int (a * d)) (b := .int (c * b)) (zab (zab (a := FI a b) (b := .int 0) rfl rfl (ix0 a b)) (zab (a := FI c d) (b := .int 1) rfl rfl (ix1 c d)) (zaz ha hd (by omega) (by omega))) (zab (zab (a := FI c d) (b := .int 0) rfl rfl (ix0 c d)) (zab (a := FI a b) (b := .int 1) rfl rfl (ix1 a b)) (zaz hc hb (by omega) (by omega))) (zeY _ _)))
end
end Law
end
section
set_option exponentiation.threshold 3000
namespace Law
open PySem PyProof.Rows L2 DL
theorem zhz (x y z : Bool) : eqB (.lst [.bl x,.bl y,.bl z]) (.lst [.bl x,.bl y,.bl z]) = some true := by
  have hs : Shp 60 (.lst [.bl x,.bl y,.bl z]) := zdB.mpr fun d hd => by
    simp only [List.mem_cons,List.not_mem_nil,or_false] at hd
    rcases hd with rfl | rfl | rfl <;> trivial
  rw [zge rfl hs hs]
  unfold eqb
  cases x <;> cases y <;> cases z <;> rfl
theorem zft {mm : List Md} {f : FE} {ft : FT} {r r' : Rho} {d : D} (h : f r = .ok d) (h2 : ft d r = some r') : asgF mm f ft r = .nx r' := by
  unfold asgF; rw [h,onE_ok]; simp only [h2]
theorem zjN (ns : List Int) : zhO [IN ns] = .ok (.bl true) := by
  obtain ⟨t1,b1,hp1,n1,k1,m1⟩ := zdZ ns 1 (by omega)
  obtain ⟨t2,b2,hp2,n2,k2,m2⟩ := zdZ ns 4 (by omega)
  obtain ⟨a,b,hf1,l1⟩ := za3 (t := t1) (k := 200) n1 m1 (by omega)
  obtain ⟨c,d,hf2,l2⟩ := za3 (t := t2) (k := 200) n2 m2 (by omega)
  have ha := Nat.lt_of_le_of_lt l1.top k1
  have hb := Nat.lt_of_le_of_lt l1.bot m1
  have hc := Nat.lt_of_le_of_lt l2.top k2
  have hd := Nat.lt_of_le_of_lt l2.bot m2
  obtain ⟨p1,q1,r1,s1⟩ := zfN ha hb hc hd l1.pos l2.pos
  obtain ⟨p2,q2,r2,s2⟩ := zeK ha hb hc hd l1.pos l2.pos
  obtain ⟨p3,q3,r3,s3⟩ := zeJ ha hb hc hd l1.pos l2.pos
  have hbd := zcc hb hd
  have had := zcc ha hd
  have hcb := zcc hc hb
  have hac := zcc ha hc
  have up : ∀ {n : Nat},n < 2 ^ (200 + 200)→n < 2 ^ 401 := fun h => Nat.lt_of_lt_of_le h (Nat.pow_le_pow_right (by omega) (by omega))
  have h401 : (2 : Nat) ^ 401 = 2 ^ (200 + 200) + 2 ^ (200 + 200) := by decide
  have hsum : (a * d + c * b).natAbs < 2 ^ 401 := by have := Int.natAbs_add_le (a * d) (c * b); omega
  have hdif : (a * d - c * b).natAbs < 2 ^ 401 := by have := Int.natAbs_sub_le (a * d) (c * b); omega
  have w1 := zbA s1 hsum (up hbd) (by omega)
  have w2 := zbA s2 hdif (up hbd) (by omega)
  have w3 := zbA s3 (up hac) (up hbd) (by omega)
  have v1 := zbA l1 k1 m1 (by omega)
  have v2 := zbA l2 k2 m2 (by omega)
  have mad := zaz ha hd (by omega) (by omega)
  have mcb := zaz hc hb (by omega) (by omega)
  have mbd := zaz hb hd (by omega) (by omega)
  have mac := zaz ha hc (by omega) (by omega)
  refine zbj (B := zgu) (n := 11) ?_
  unfold zgu
  refine (zal (za1 (d := .lst [FI t1 b1,FI t2 b2]) (zdo (zae (zaj (zae (d := IN ns) rfl (zae (d := nD 1) rfl zao)) hp1) (zae (zaj (zae (d := IN ns) rfl (zae (d := nD 4) rfl zao)) hp2) zao)) (by simp)))).trans ?_
  refine (zal (zft (d := .lst [FI a b,FI c d]) (r' := [some (IN ns),some (.lst [FI t1 b1,FI t2 b2]),some (FI a b),some (FI c d),none,none,none,none,none,none,none]) ?_ rfl)).trans ?_
  · have := zhC (nl := 2) (cap := []) (fi := fSeq zcI (gv 1)) (ft := ftT (zbr (ftN 0) (zbr (ftN 1) zdt))) (q := fun _ => Res.ok true) (fe := zat (zad (gv 0) (zad (gv 1) lNil)) [] zau) (r := [some (IN ns),some (.lst [FI t1 b1,FI t2 b2]),none,none,none,none,none,none,none,none,none]) (l := [((t1,b1),(a,b)),((t2,b2),(c,d))]) (fun x => FI x.1.1 x.1.2) (fun _ => true) (fun x => FI x.2.1 x.2.2) rfl (by simp) (fun x hx => by
      simp only [List.mem_cons,List.not_mem_nil,or_false] at hx
      rcases hx with rfl | rfl
      · exact ⟨[some (.int t1),some (.int b1)],rfl,rfl,fun _ => zaj (zae (d := .int t1) rfl (zae (d := .int b1) rfl zao)) hf1⟩
      · exact ⟨[some (.int t2),some (.int b2)],rfl,rfl,fun _ => zaj (zae (d := .int t2) rfl (zae (d := .int b2) rfl zao)) hf2⟩)
    exact this
  refine (zal (r' := [some (IN ns),some (.lst [FI t1 b1,FI t2 b2]),some (FI a b),some (FI c d),some (FI c d),some (FI t2 b2),none,none,none,none,none]) ((zeZ (ds := [.tup [FI a b,FI t1 b1],.tup [FI c d,FI t2 b2]]) (zhZ (zdo (zae (zd2 (zae (d := FI a b) rfl (zae (zab (a := .lst [FI t1 b1,FI t2 b2]) (b := nD 0) rfl rfl (zen rfl)) zao)) (by simp)) (zae (zd2 (zae (d := FI c d) rfl (zae (zab (a := .lst [FI t1 b1,FI t2 b2]) (b := nD 1) rfl rfl (zen rfl)) zao)) (by simp)) zao)) (by simp)) rfl)).trans ?_)).trans ?_
  · refine (zd6 (r1 := [some (IN ns),some (.lst [FI t1 b1,FI t2 b2]),some (FI a b),some (FI c d),some (FI a b),some (FI t1 b1),none,none,none,none,none]) rfl (zal ((if_f (zbL (b := true) (zaY (zaj (zae (d := FI a b) rfl (zae (zab (a := FI t1 b1) (b := .int 0) rfl rfl (ix0 _ _)) (zae (zab (a := FI t1 b1) (b := .int 1) rfl rfl (ix1 _ _)) zao))) v1) rfl))).trans (e_skip _)))).trans ?_
    exact (zd6 (r1 := [some (IN ns),some (.lst [FI t1 b1,FI t2 b2]),some (FI a b),some (FI c d),some (FI c d),some (FI t2 b2),none,none,none,none,none]) rfl (zal ((if_f (zbL (b := true) (zaY (zaj (zae (d := FI c d) rfl (zae (zab (a := FI t2 b2) (b := .int 0) rfl rfl (ix0 _ _)) (zae (zab (a := FI t2 b2) (b := .int 1) rfl rfl (ix1 _ _)) zao))) v2) rfl))).trans (e_skip _)))).trans zfc
  refine (zal (zft (d := FI a b) rfl rfl)).trans ?_
  refine (zal (zft (d := FI c d) rfl rfl)).trans ?_
  refine (zal ((if_f ?_).trans (e_skip _))).trans ?_
  · rw [or_f (zbL (b := true) (zaY (zaj (zae (zaj (zae (d := FI a b) rfl (zae (d := FI c d) rfl zao)) r1) (zae (zab (a := .int (a * d)) (b := .int (c * b)) (zab (a := .int a) (b := .int d) rfl rfl mad) (zab (a := .int c) (b := .int b) rfl rfl mcb) rfl) (zae (zab (a := .int b) (b := .int d) rfl rfl mbd) zao))) w1) rfl))]
    exact zbL (b := true) (zaY (zaj (zae (zaj (zae (d := FI a b) rfl (zae (d := FI c d) rfl zao)) r3) (zae (zab (a := .int a) (b := .int c) rfl rfl mac) (zae (zab (a := .int b) (b := .int d) rfl rfl mbd) zao))) w3) rfl)
  refine (zal ((if_f (zbL (b := true) (zaY (zaj (zae (zaj (zae (d := FI a b) rfl (zae (d := FI c d) rfl zao)) r2) (zae (zab (a := .int (a * d)) (b := .int (c * b)) (zab (a := .int a) (b := .int d) rfl rfl mad) (zab (a := .int c) (b := .int b) rfl rfl mcb) rfl) (zae (zab (a := .int b) (b := .int d) rfl rfl mbd) zao))) w2) rfl))).trans (e_skip _))).trans ?_
  have e3 : decide (a * b < a * b) = false := decide_eq_false (by omega)
  have u3 := zc4 ha hb ha hb l1.pos l1.pos
  rw [e3] at u3
  refine (zal (za1 (d := .lst [.bl (decide (a * d < c * b)),.bl (decide (c * b < a * d)),.bl false]) (zdo (zae (zaj (zae (d := FI a b) rfl (zae (d := FI c d) rfl zao)) (zc4 ha hb hc hd l1.pos l2.pos)) (zae (zaj (zae (d := FI c d) rfl (zae (d := FI a b) rfl zao)) (zc4 hc hd ha hb l2.pos l1.pos)) (zae (zaj (zae (d := FI a b) rfl (zae (d := FI a b) rfl zao)) u3) zao))) (by simp)))).trans ?_
  refine (zal ((if_f (zbL (b := true) (zaY (d := .bl true) rfl rfl))).trans (e_skip _))).trans ?_
  refine (zal ((if_f (zaM (zab (a := .lst [.bl (decide (a * d < c * b)),.bl (decide (c * b < a * d)),.bl false]) (b := .lst [.bl (decide (a * d < c * b)),.bl (decide (c * b < a * d)),.bl false]) rfl (zdo (zae (zab (a := .int (a * d)) (b := .int (c * b)) (zab (a := .int a) (b := .int d) rfl rfl mad) (zab (a := .int c) (b := .int b) rfl rfl mcb) (zeY _ _)) (zae (zab (a := .int (c * b)) (b := .int (a * d)) (zab (a := .int c) (b := .int b) rfl rfl mcb) (zab (a := .int a) (b := .int d) rfl rfl mad) (zeY _ _)) (zae (d := .bl false) rfl zao))) (by simp)) (d := .bl false) (by unfold neD; rw [zhz]; rfl)))).trans (e_skip _))).trans ?_
  refine zaX (za7 ?_)
  rw [zdg (zaj (zae (zab (a := FI t1 b1) (b := .int 0) (zab (a := .lst [FI t1 b1,FI t2 b2]) (b := nD 0) rfl rfl (zen rfl)) rfl (ix0 _ _)) zao) (zcw t1))]
  exact zaj (zae (d := .int 0) rfl zao) (zcw 0)
theorem main (ns : List Int) (_ : ns.length≤63) : zhO [.lst (ns.map .int)] = .ok (.bl true) := zjN ns
end Law
end
open PySem PySem.W PyProof.Rows
namespace Law
open PySem PySem.Spec PyProof.Rows L2 DL
theorem pack {K : PySem.W.Frag} {h : Heap} {mg : Str→Option Value} (KX : K.In h) (G : h.Ns mainGlobals mg) {c_TradeError : Addr} {c_NotSquare : Addr} {c_NoFraction : Addr} {b_TradeError : List Value} {b_NotSquare : List Value} {b_NoFraction : List Value}
    (a_TradeError : PySem.W.nsIn K mainGlobals "TradeError" = some (some (.ref c_TradeError)))
    (a_NotSquare : PySem.W.nsIn K mainGlobals "NotSquare" = some (some (.ref c_NotSquare)))
    (a_NoFraction : PySem.W.nsIn K mainGlobals "NoFraction" = some (some (.ref c_NoFraction)))
    (o_TradeError : DL.xoIn K c_TradeError = some (b_TradeError,(Str.ofString "TradeError")))
    (be_TradeError : b_TradeError.contains (Value.type "BaseException") = true)
    (bo_TradeError : b_TradeError.contains (Value.type "object") = true)
    (ga_TradeError : PySem.W.findIn K (.ref c_TradeError) "__getattribute__" = some (some (.builtin "BaseException.__getattribute__")))
    (gn_TradeError : PySem.W.findIn K (.ref c_TradeError) "__getattr__" = some (none))
    (gc_TradeError : PySem.W.findIn K (.ref c_TradeError) "__class__" = some (some (.builtin "object.__class__")))
    (un_TradeError : DL.unIn K "TradeError" c_TradeError = true)
    (o_NotSquare : DL.xoIn K c_NotSquare = some (b_NotSquare,(Str.ofString "NotSquare")))
    (be_NotSquare : b_NotSquare.contains (Value.type "BaseException") = true)
    (bo_NotSquare : b_NotSquare.contains (Value.type "object") = true)
    (ga_NotSquare : PySem.W.findIn K (.ref c_NotSquare) "__getattribute__" = some (some (.builtin "BaseException.__getattribute__")))
    (gn_NotSquare : PySem.W.findIn K (.ref c_NotSquare) "__getattr__" = some (none))
    (gc_NotSquare : PySem.W.findIn K (.ref c_NotSquare) "__class__" = some (some (.builtin "object.__class__")))
    (un_NotSquare : DL.unIn K "NotSquare" c_NotSquare = true)
    (o_NoFraction : DL.xoIn K c_NoFraction = some (b_NoFraction,(Str.ofString "NoFraction")))
    (be_NoFraction : b_NoFraction.contains (Value.type "BaseException") = true)
    (bo_NoFraction : b_NoFraction.contains (Value.type "object") = true)
    (ga_NoFraction : PySem.W.findIn K (.ref c_NoFraction) "__getattribute__" = some (some (.builtin "BaseException.__getattribute__")))
    (gn_NoFraction : PySem.W.findIn K (.ref c_NoFraction) "__getattr__" = some (none))
    (gc_NoFraction : PySem.W.findIn K (.ref c_NoFraction) "__class__" = some (some (.builtin "object.__class__")))
    (un_NoFraction : DL.unIn K "NoFraction" c_NoFraction = true)
    (gg : PySem.W.specialIn K (.builtin "object.__class__") "__get__" = some (some (.builtin "getset_descriptor.__get__")))
    (gt : PySem.W.takesIn K (.builtin "object.__class__") = some true)
    (e_NoFraction : PySem.W.excIn K c_NoFraction DL.vErr "ValueError.__new__" = true)
    (h_TradeError_TradeError : (Value.ref c_TradeError::b_TradeError).contains (.ref c_TradeError) = true)
    (h_TradeError_NotSquare : (Value.ref c_NotSquare::b_NotSquare).contains (.ref c_TradeError) = true)
    (h_TradeError_NoFraction : (Value.ref c_NoFraction::b_NoFraction).contains (.ref c_TradeError) = true)
    (n_NotSquare : PySem.W.kitOne K (.type "NoneType") (.ref c_NotSquare) = some false)
    (k_NotSquare_TradeError : PySem.W.kitOne K (.ref c_TradeError) (.ref c_NotSquare) = Law.zbC "TradeError")
    (k_NotSquare_NotSquare : PySem.W.kitOne K (.ref c_NotSquare) (.ref c_NotSquare) = Law.zbC "NotSquare")
    (k_NotSquare_NoFraction : PySem.W.kitOne K (.ref c_NoFraction) (.ref c_NotSquare) = Law.zbC "NoFraction")
    (n_ValueError : PySem.W.kitOne K (.type "NoneType") (.type "ValueError") = some false)
    (k_ValueError_TradeError : PySem.W.kitOne K (.ref c_TradeError) (.type "ValueError") = Law.zbu "TradeError")
    (k_ValueError_NotSquare : PySem.W.kitOne K (.ref c_NotSquare) (.type "ValueError") = Law.zbu "NotSquare")
    (k_ValueError_NoFraction : PySem.W.kitOne K (.ref c_NoFraction) (.type "ValueError") = Law.zbu "NoFraction")
    (n_NoFraction : PySem.W.kitOne K (.type "NoneType") (.ref c_NoFraction) = some false)
    (k_NoFraction_TradeError : PySem.W.kitOne K (.ref c_TradeError) (.ref c_NoFraction) = Law.zbv "TradeError")
    (k_NoFraction_NotSquare : PySem.W.kitOne K (.ref c_NotSquare) (.ref c_NoFraction) = Law.zbv "NotSquare")
    (k_NoFraction_NoFraction : PySem.W.kitOne K (.ref c_NoFraction) (.ref c_NoFraction) = Law.zbv "NoFraction") : ∃ (C_TradeError : Addr) (C_NotSquare : Addr) (C_NoFraction : Addr) (bm_TradeError : List Value) (bm_NotSquare : List Value) (bm_NoFraction : List Value),(XC K mg "NoFraction" C_NoFraction)∧(XN K "NoFraction" C_NoFraction)∧(XA K C_TradeError bm_TradeError)∧(mg "TradeError" = some (.ref C_TradeError))∧(zgq K C_TradeError zbx)∧(mg "NotSquare" = some (.ref C_NotSquare))∧(IsxOk K (.ref C_NotSquare) zbC)∧(IsxOk K (.type "ValueError") zbu)∧(mg "NoFraction" = some (.ref C_NoFraction))∧(IsxOk K (.ref C_NoFraction) zbv) :=
  ⟨c_TradeError,c_NotSquare,c_NoFraction,b_TradeError,b_NotSquare,b_NoFraction,DL.zj7 KX G a_NoFraction e_NoFraction,
    (DL.zj9 o_NoFraction be_NoFraction bo_NoFraction ga_NoFraction gn_NoFraction gc_NoFraction gg gt un_NoFraction).xn,
    (DL.zj9 o_TradeError be_TradeError bo_TradeError ga_TradeError gn_TradeError gc_TradeError gg gt un_TradeError).xa,
    PySem.W.mg_of KX G a_TradeError,
    DL.zj5 [((Str.ofString "TradeError"),c_TradeError,b_TradeError),((Str.ofString "NotSquare"),c_NotSquare,b_NotSquare),((Str.ofString "NoFraction"),c_NoFraction,b_NoFraction)] (by intro q hq; simp only [List.mem_cons,List.not_mem_nil,or_false] at hq; rcases hq with rfl | rfl | rfl <;> first | exact ⟨(DL.zj9 o_TradeError be_TradeError bo_TradeError ga_TradeError gn_TradeError gc_TradeError gg gt un_TradeError),h_TradeError_TradeError⟩ | exact ⟨(DL.zj9 o_NotSquare be_NotSquare bo_NotSquare ga_NotSquare gn_NotSquare gc_NotSquare gg gt un_NotSquare),h_TradeError_NotSquare⟩ | exact ⟨(DL.zj9 o_NoFraction be_NoFraction bo_NoFraction ga_NoFraction gn_NoFraction gc_NoFraction gg gt un_NoFraction),h_TradeError_NoFraction⟩) (fun nm h => by
      have h2 := List.contains_iff_mem.mp h
      simp only [List.mem_cons,List.not_mem_nil,or_false] at h2
      rcases h2 with rfl | rfl | rfl <;> simp),
    PySem.W.mg_of KX G a_NotSquare,
    DL.zj4 [((Str.ofString "TradeError"),c_TradeError,b_TradeError),((Str.ofString "NotSquare"),c_NotSquare,b_NotSquare),((Str.ofString "NoFraction"),c_NoFraction,b_NoFraction)] n_NotSquare (by intro q hq; simp only [List.mem_cons,List.not_mem_nil,or_false] at hq; rcases hq with rfl | rfl | rfl <;> first | exact ⟨(DL.zj9 o_TradeError be_TradeError bo_TradeError ga_TradeError gn_TradeError gc_TradeError gg gt un_TradeError),k_NotSquare_TradeError⟩ | exact ⟨(DL.zj9 o_NotSquare be_NotSquare bo_NotSquare ga_NotSquare gn_NotSquare gc_NotSquare gg gt un_NotSquare),k_NotSquare_NotSquare⟩ | exact ⟨(DL.zj9 o_NoFraction be_NoFraction bo_NoFraction ga_NoFraction gn_NoFraction gc_NoFraction gg gt un_NoFraction),k_NotSquare_NoFraction⟩) (fun nm b h => by
      unfold Law.zbC at h
      have h2 : nm∈([(Str.ofString "TradeError"),(Str.ofString "NotSquare"),(Str.ofString "NoFraction")] : List Str) := by
        split at h
        · rename_i z; have z := List.contains_iff_mem.mp z; simp only [List.mem_cons,List.not_mem_nil,or_false] at z ⊢; rcases z with rfl <;> simp
        · split at h
          · rename_i z; have z := List.contains_iff_mem.mp z; simp only [List.mem_cons,List.not_mem_nil,or_false] at z ⊢; rcases z with rfl | rfl <;> simp
          · cases h
      simp only [List.mem_cons,List.not_mem_nil,or_false] at h2
      rcases h2 with rfl | rfl | rfl <;> simp),
    DL.zj4 [((Str.ofString "TradeError"),c_TradeError,b_TradeError),((Str.ofString "NotSquare"),c_NotSquare,b_NotSquare),((Str.ofString "NoFraction"),c_NoFraction,b_NoFraction)] n_ValueError (by intro q hq; simp only [List.mem_cons,List.not_mem_nil,or_false] at hq; rcases hq with rfl | rfl | rfl <;> first | exact ⟨(DL.zj9 o_TradeError be_TradeError bo_TradeError ga_TradeError gn_TradeError gc_TradeError gg gt un_TradeError),k_ValueError_TradeError⟩ | exact ⟨(DL.zj9 o_NotSquare be_NotSquare bo_NotSquare ga_NotSquare gn_NotSquare gc_NotSquare gg gt un_NotSquare),k_ValueError_NotSquare⟩ | exact ⟨(DL.zj9 o_NoFraction be_NoFraction bo_NoFraction ga_NoFraction gn_NoFraction gc_NoFraction gg gt un_NoFraction),k_ValueError_NoFraction⟩) (fun nm b h => by
      unfold Law.zbu at h
      have h2 : nm∈([(Str.ofString "TradeError"),(Str.ofString "NotSquare"),(Str.ofString "NoFraction")] : List Str) := by
        split at h
        · rename_i z; have z := List.contains_iff_mem.mp z; simp only [List.mem_cons,List.not_mem_nil,or_false] at z ⊢; rcases z with rfl | rfl | rfl <;> simp
        · split at h
          · rename_i z; simp at z
          · cases h
      simp only [List.mem_cons,List.not_mem_nil,or_false] at h2
      rcases h2 with rfl | rfl | rfl <;> simp),
    PySem.W.mg_of KX G a_NoFraction,
    DL.zj4 [((Str.ofString "TradeError"),c_TradeError,b_TradeError),((Str.ofString "NotSquare"),c_NotSquare,b_NotSquare),((Str.ofString "NoFraction"),c_NoFraction,b_NoFraction)] n_NoFraction (by intro q hq; simp only [List.mem_cons,List.not_mem_nil,or_false] at hq; rcases hq with rfl | rfl | rfl <;> first | exact ⟨(DL.zj9 o_TradeError be_TradeError bo_TradeError ga_TradeError gn_TradeError gc_TradeError gg gt un_TradeError),k_NoFraction_TradeError⟩ | exact ⟨(DL.zj9 o_NotSquare be_NotSquare bo_NotSquare ga_NotSquare gn_NotSquare gc_NotSquare gg gt un_NotSquare),k_NoFraction_NotSquare⟩ | exact ⟨(DL.zj9 o_NoFraction be_NoFraction bo_NoFraction ga_NoFraction gn_NoFraction gc_NoFraction gg gt un_NoFraction),k_NoFraction_NoFraction⟩) (fun nm b h => by
      unfold Law.zbv at h
      have h2 : nm∈([(Str.ofString "TradeError"),(Str.ofString "NotSquare"),(Str.ofString "NoFraction")] : List Str) := by
        split at h
        · rename_i z; have z := List.contains_iff_mem.mp z; simp only [List.mem_cons,List.not_mem_nil,or_false] at z ⊢; rcases z with rfl <;> simp
        · split at h
          · rename_i z; have z := List.contains_iff_mem.mp z; simp only [List.mem_cons,List.not_mem_nil,or_false] at z ⊢; rcases z with rfl | rfl <;> simp
          · cases h
      simp only [List.mem_cons,List.not_mem_nil,or_false] at h2
      rcases h2 with rfl | rfl | rfl <;> simp)⟩
end Law
set_option maxRecDepth 100000 in
set_option maxHeartbeats 0 in
theorem PySem.Challenge.cw_ringtrade_k22_fractions_reckoned_holds : PySem.Challenge.rw_ringtrade_k22_fractions_reckoned.Holds := by
  w_on; o_law; k_head; (case hw => w_witness2)
  k_fill
  refine DL.zj8 (l := PySem.Challenge.rw_ringtrade_k22_fractions_reckoned) (k := 4) (x := "_law_script") (F := Law.zhO) rfl rfl ⟨rfl,by decide,by decide⟩ (fun w h Y => PySem.W.kIn_of Y) Law.main ?C
  intro w mg fa h KX G hmg
  have T : Law.Txt (L2.KOf KX) mg := by
    dsimp only [L2.KOf]
    refine ⟨?b_len,?b_abs,?b_isinstance,?b_bool,?b_int,?b_tuple,?b_ValueError,?b_all⟩
    case b_len => (refine' PySem.W.mg_none_of KX G ?z_b_len; k_is)
    case b_abs => (refine' PySem.W.mg_none_of KX G ?z_b_abs; k_is)
    case b_isinstance => (refine' PySem.W.mg_none_of KX G ?z_b_isinstance; k_is)
    case b_bool => (refine' PySem.W.mg_none_of KX G ?z_b_bool; k_is)
    case b_int => (refine' PySem.W.mg_none_of KX G ?z_b_int; k_is)
    case b_tuple => (refine' PySem.W.mg_none_of KX G ?z_b_tuple; k_is)
    case b_ValueError => (refine' PySem.W.mg_none_of KX G ?z_b_ValueError; k_is)
    case b_all => (refine' PySem.W.mg_none_of KX G ?z_b_all; k_is)
  obtain ⟨C_TradeError,C_NotSquare,C_NoFraction,bm_TradeError,bm_NotSquare,bm_NoFraction,xc_NoFraction,xn_NoFraction,xa_TradeError,xb_TradeError,hk_TradeError,xb_NotSquare,ix_NotSquare,ix_ValueError,xb_NoFraction,ix_NoFraction⟩ : ∃ (C_TradeError : Addr) (C_NotSquare : Addr) (C_NoFraction : Addr) (bm_TradeError : List Value) (bm_NotSquare : List Value) (bm_NoFraction : List Value),(DL.XC (L2.KOf KX) mg "NoFraction" C_NoFraction)∧(DL.XN (L2.KOf KX) "NoFraction" C_NoFraction)∧(DL.XA (L2.KOf KX) C_TradeError bm_TradeError)∧(mg "TradeError" = some (.ref C_TradeError))∧(DL.zgq (L2.KOf KX) C_TradeError Law.zbx)∧(mg "NotSquare" = some (.ref C_NotSquare))∧(DL.IsxOk (L2.KOf KX) (.ref C_NotSquare) Law.zbC)∧(DL.IsxOk (L2.KOf KX) (.type "ValueError") Law.zbu)∧(mg "NoFraction" = some (.ref C_NoFraction))∧(DL.IsxOk (L2.KOf KX) (.ref C_NoFraction) Law.zbv) := by
    dsimp only [L2.KOf]
    refine' Law.pack KX G ?a_TradeError ?a_NotSquare ?a_NoFraction ?o_TradeError ?be_TradeError ?bo_TradeError ?ga_TradeError ?gn_TradeError ?gc_TradeError ?un_TradeError ?o_NotSquare ?be_NotSquare ?bo_NotSquare ?ga_NotSquare ?gn_NotSquare ?gc_NotSquare ?un_NotSquare ?o_NoFraction ?be_NoFraction ?bo_NoFraction ?ga_NoFraction ?gn_NoFraction ?gc_NoFraction ?un_NoFraction ?gg ?gt ?e_NoFraction ?h_TradeError_TradeError ?h_TradeError_NotSquare ?h_TradeError_NoFraction ?n_NotSquare ?k_NotSquare_TradeError ?k_NotSquare_NotSquare ?k_NotSquare_NoFraction ?n_ValueError ?k_ValueError_TradeError ?k_ValueError_NotSquare ?k_ValueError_NoFraction ?n_NoFraction ?k_NoFraction_TradeError ?k_NoFraction_NotSquare ?k_NoFraction_NoFraction
    (case a_TradeError => k_is)
    (case a_NotSquare => k_is)
    (case a_NoFraction => k_is)
    (case o_TradeError => exact rfl)
    (case be_TradeError => decide +kernel)
    (case bo_TradeError => decide +kernel)
    (case ga_TradeError => k_is)
    (case gn_TradeError => k_is)
    (case gc_TradeError => k_is)
    (case un_TradeError => kernel_rfl)
    (case o_NotSquare => exact rfl)
    (case be_NotSquare => decide +kernel)
    (case bo_NotSquare => decide +kernel)
    (case ga_NotSquare => k_is)
    (case gn_NotSquare => k_is)
    (case gc_NotSquare => k_is)
    (case un_NotSquare => kernel_rfl)
    (case o_NoFraction => exact rfl)
    (case be_NoFraction => decide +kernel)
    (case bo_NoFraction => decide +kernel)
    (case ga_NoFraction => k_is)
    (case gn_NoFraction => k_is)
    (case gc_NoFraction => k_is)
    (case un_NoFraction => kernel_rfl)
    (case gg => k_is)
    (case gt => k_is)
    (case e_NoFraction => kernel_rfl)
    (case h_TradeError_TradeError => decide +kernel)
    (case h_TradeError_NotSquare => decide +kernel)
    (case h_TradeError_NoFraction => decide +kernel)
    (case n_NotSquare => kernel_rfl)
    (case k_NotSquare_TradeError => kernel_rfl)
    (case k_NotSquare_NotSquare => kernel_rfl)
    (case k_NotSquare_NoFraction => kernel_rfl)
    (case n_ValueError => kernel_rfl)
    (case k_ValueError_TradeError => kernel_rfl)
    (case k_ValueError_NotSquare => kernel_rfl)
    (case k_ValueError_NoFraction => kernel_rfl)
    (case n_NoFraction => kernel_rfl)
    (case k_NoFraction_TradeError => kernel_rfl)
    (case k_NoFraction_NotSquare => kernel_rfl)
    (case k_NoFraction_NoFraction => kernel_rfl)
  have A__law_number : DL.DefAt (L2.KOf KX) mg "_law_number" Law.zbZ := by
    dsimp only [L2.KOf]
    refine' DL.zj6 KX G ?a ?l ?c ?k
    (case a => k_is)
    (case l => k_is)
    (case c => k_is)
    (case k => k_is)
  have A__law_cell : DL.DefAt (L2.KOf KX) mg "_law_cell" Law.zcl := by
    dsimp only [L2.KOf]
    refine' DL.zj6 KX G ?a ?l ?c ?k
    (case a => k_is)
    (case l => k_is)
    (case c => k_is)
    (case k => k_is)
  have A__law_pair : DL.DefAt (L2.KOf KX) mg "_law_pair" Law.zck := by
    dsimp only [L2.KOf]
    refine' DL.zj6 KX G ?a ?l ?c ?k
    (case a => k_is)
    (case l => k_is)
    (case c => k_is)
    (case k => k_is)
  have A_greatest_divisor : DL.DefAt (L2.KOf KX) mg "greatest_divisor" Law.zbg := by
    dsimp only [L2.KOf]
    refine' DL.zj6 KX G ?a ?l ?c ?k
    (case a => k_is)
    (case l => k_is)
    (case c => k_is)
    (case k => k_is)
  have A_is_whole : DL.DefAt (L2.KOf KX) mg "is_whole" Law.zcu := by
    dsimp only [L2.KOf]
    refine' DL.zj6 KX G ?a ?l ?c ?k
    (case a => k_is)
    (case l => k_is)
    (case c => k_is)
    (case k => k_is)
  have A_fraction : DL.DefAt (L2.KOf KX) mg "fraction" Law.zcv := by
    dsimp only [L2.KOf]
    refine' DL.zj6 KX G ?a ?l ?c ?k
    (case a => k_is)
    (case l => k_is)
    (case c => k_is)
    (case k => k_is)
  have A_fraction_x : DL.DefAt (L2.KOf KX) mg "fraction" Law.zb9 := by
    dsimp only [L2.KOf]
    refine' DL.zj6 KX G ?a ?l ?c ?k
    (case a => k_is)
    (case l => k_is)
    (case c => k_is)
    (case k => k_is)
  have A__law_common : DL.DefAt (L2.KOf KX) mg "_law_common" Law.zb0 := by
    dsimp only [L2.KOf]
    refine' DL.zj6 KX G ?a ?l ?c ?k
    (case a => k_is)
    (case l => k_is)
    (case c => k_is)
    (case k => k_is)
  have A__law_is_fraction : DL.DefAt (L2.KOf KX) mg "_law_is_fraction" Law.zbh := by
    dsimp only [L2.KOf]
    refine' DL.zj6 KX G ?a ?l ?c ?k
    (case a => k_is)
    (case l => k_is)
    (case c => k_is)
    (case k => k_is)
  have A__law_stands : DL.DefAt (L2.KOf KX) mg "_law_stands" Law.zbY := by
    dsimp only [L2.KOf]
    refine' DL.zj6 KX G ?a ?l ?c ?k
    (case a => k_is)
    (case l => k_is)
    (case c => k_is)
    (case k => k_is)
  have A_less : DL.DefAt (L2.KOf KX) mg "less" Law.zeD := by
    dsimp only [L2.KOf]
    refine' DL.zj6 KX G ?a ?l ?c ?k
    (case a => k_is)
    (case l => k_is)
    (case c => k_is)
    (case k => k_is)
  have A__law_refused : DL.DefAt (L2.KOf KX) mg "_law_refused" Law.zbN := by
    dsimp only [L2.KOf]
    refine' DL.zj6 KX G ?a ?l ?c ?k
    (case a => k_is)
    (case l => k_is)
    (case c => k_is)
    (case k => k_is)
  have A_minus : DL.DefAt (L2.KOf KX) mg "minus" Law.zdX := by
    dsimp only [L2.KOf]
    refine' DL.zj6 KX G ?a ?l ?c ?k
    (case a => k_is)
    (case l => k_is)
    (case c => k_is)
    (case k => k_is)
  have A_plus : DL.DefAt (L2.KOf KX) mg "plus" Law.zeC := by
    dsimp only [L2.KOf]
    refine' DL.zj6 KX G ?a ?l ?c ?k
    (case a => k_is)
    (case l => k_is)
    (case c => k_is)
    (case k => k_is)
  have A_times : DL.DefAt (L2.KOf KX) mg "times" Law.zdW := by
    dsimp only [L2.KOf]
    refine' DL.zj6 KX G ?a ?l ?c ?k
    (case a => k_is)
    (case l => k_is)
    (case c => k_is)
    (case k => k_is)
  have A_law : DL.DefAt (L2.KOf KX) mg "law" Law.zcR := by
    dsimp only [L2.KOf]
    refine' DL.zj6 KX G ?a ?l ?c ?k
    (case a => k_is)
    (case l => k_is)
    (case c => k_is)
    (case k => k_is)
  refine DL.zj3 hmg A_law (fun _ _ _ _ _ _ us hl => match us,hl with | [_],_ => rfl) fun f fd Fn base => ?_
  have C__law_number := Law.zfD (P := PySem.Challenge.rw_ringtrade_k22_fractions_reckoned.prog) (w := w) (base := base) T A__law_number
  have C__law_cell := Law.zgG (P := PySem.Challenge.rw_ringtrade_k22_fractions_reckoned.prog) (w := w) (base := base) T A__law_cell
  have C__law_pair := Law.zgF (P := PySem.Challenge.rw_ringtrade_k22_fractions_reckoned.prog) (w := w) (base := base) T A__law_pair C__law_cell C__law_number
  have C_greatest_divisor := Law.zdG (P := PySem.Challenge.rw_ringtrade_k22_fractions_reckoned.prog) (w := w) (base := base) T A_greatest_divisor
  have C_is_whole := Law.zhj (P := PySem.Challenge.rw_ringtrade_k22_fractions_reckoned.prog) (w := w) (base := base) T A_is_whole
  have C_fraction := Law.zhk (P := PySem.Challenge.rw_ringtrade_k22_fractions_reckoned.prog) (w := w) (base := base) T A_fraction C_is_whole C_greatest_divisor
  have C_fraction_x := Law.zf2 (P := PySem.Challenge.rw_ringtrade_k22_fractions_reckoned.prog) (w := w) (base := base) T A_fraction_x C_is_whole C_greatest_divisor xc_NoFraction xn_NoFraction
  have C__law_common := Law.zfE (P := PySem.Challenge.rw_ringtrade_k22_fractions_reckoned.prog) (w := w) (base := base) T A__law_common
  have C__law_is_fraction := Law.zdH (P := PySem.Challenge.rw_ringtrade_k22_fractions_reckoned.prog) (w := w) (base := base) T A__law_is_fraction C__law_common
  have C__law_stands := Law.zfC (P := PySem.Challenge.rw_ringtrade_k22_fractions_reckoned.prog) (w := w) (base := base) T A__law_stands C__law_is_fraction
  have C_less := Law.zjK (P := PySem.Challenge.rw_ringtrade_k22_fractions_reckoned.prog) (w := w) (base := base) T A_less
  have C__law_refused := Law.zeQ (P := PySem.Challenge.rw_ringtrade_k22_fractions_reckoned.prog) (w := w) (base := base) T A__law_refused C_fraction_x xa_TradeError xb_TradeError hk_TradeError xb_NotSquare ix_NotSquare ix_ValueError xb_NoFraction ix_NoFraction
  have C_minus := Law.zjj (P := PySem.Challenge.rw_ringtrade_k22_fractions_reckoned.prog) (w := w) (base := base) T A_minus C_fraction
  have C_plus := Law.zjJ (P := PySem.Challenge.rw_ringtrade_k22_fractions_reckoned.prog) (w := w) (base := base) T A_plus C_fraction
  have C_times := Law.zji (P := PySem.Challenge.rw_ringtrade_k22_fractions_reckoned.prog) (w := w) (base := base) T A_times C_fraction
  exact Law.zj2 T Fn C__law_pair C_fraction C__law_stands C_times C_plus C_minus C_less C__law_refused
